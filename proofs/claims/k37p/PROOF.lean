import PyProof.Rows.All
import Wide.All
import OpenK.AllK
import Wide.FinOn
import Lean
import PyProof.EqAt
import PyProof.EqKinds
import PyProof.TupleCall
import PyProof.StationsW
import PyProof.PassesOwn
import PyProof.RulesAs
import PyProof.ExcClass3
import PyProof.Rows.CatchOwn
import OpenK.KMake
import OpenK.KWalk
import PyProof.InstStoreFacts
import PyProof.ExcBaseAll.ValueError
import PyProof.RangeIter
import OpenK.KRaise
import PyProof.NsDelKeeps
import KE.KIsAll
import PyProof.P3In
import PyProof.NeData
import PyProof.ReprLen
import PyProof.CompUse
import KE.KSortTup
import PyProof.SumAny
import PyProof.Rows.SeqCalls
import KE.KRevIter
import PyProof.TupleOfGen
import PyProof.CollectIter
import PyProof.Draws
import PyProof.EnumMake
import PyProof.ListNew
import PyProof.AttrMissHeap
import PyProof.FactsAll.dict
import PySem.SetOps
import PyProof.TupleKey
import PyProof.SetKind
import PyProof.IsRules
import PyProof.Rows.SetFrom
import PyProof.WalksMore
import PyProof.TupleIter
import KE.KDictSum
import KE.KEqDict
import PyProof.RulesTry
import PySem.Challenge.RW_thinnet_k37_papers_of_pairs
open PySem.W (Frag nsIn keepIn fnOf codeIn mg_of mg_none_of)
set_option compiler.extract_closed false
set_option Elab.async false
set_option linter.all false
set_option maxRecDepth 100000
open Array renaming length_toList->fE,getElem?_eq_getElem->iE,getElem?_eq_some_iff->jQ,getElem_mem->jW,getElem?_toList->j8
open Array.Perm renaming refl->ju
open Bool renaming and_eq_true->de,false_ne_true->dr,eq_iff_iff->eU,eq_false_iff->eV,false_eq_true->gA,true_and->iV,not_eq_true'->jU
open Classical renaming propDecidable->gm,byContradiction->iD
open False renaming elim->fq
open ForInStep renaming yield->gC
open Int renaming mul_le_mul_of_nonneg_left->gw,toNat_natCast->gx,le_refl->h_
open List renaming length_map->Go,getElem?_eq_getElem->No,mem_cons_self->Re,mem_map->Rs,mem_cons_of_mem->Sc,mem_singleton->TM,replicate->Tk,getElem?_eq_some_iff->Uf,mem_cons->ZB,size_toArray->dW,getElem?_map->dX,length_append->dZ,mem_append_right->df,length_cons->dq,mem_append->d7,nil_append->d8,not_mem_nil->d9,Nodup->d_,length_singleton->eC,toArray->eE,nodup_cons->eF,getD_eq_getElem?_getD->eN,append_nil->eO,range->eP,mem_of_getElem?->eQ,map_cons->eR,append_assoc->eg,pairwise_cons->eq,getElem?_append_right->fA,all_eq_true->fB,nodup_nil->fJ,length_reverse->fP,map_map->fQ,map_append->fR,mem_append_left->fV,getElem_mem->fW,any_eq_true->fj,cons_ne_nil->fk,nodup_append->fz,length_nil->f6,zipWith->f7,mem_flatMap->f9,mem_range->f_,drop_eq_getElem_cons->gB,mem_filter->gP,mem_iff_getElem?->gR,reverse_cons->gU,pairwise_map->gW,getElem?_append_left->gX,lookup_cons->gi,filterMap_cons->gk,lt_irrefl->g8,length_filter_le->g9,length_take->g_,drop_length->hV,mem_iff_getElem->hX,of_mem_zip->iA,forIn_cons->iB,length_set->iC,getElem?_replicate->iO,length_eq_zero_iff->iP,length->iR,range_succ_eq_map->iS,all_cons->iU,take_length->iY,mem_reverse->ia,getElem?_zipWith->ic,singleton_append->ie,getElem?_set_ne->ii,length_zip->iz,filter_map->i6,length_zipWith->i8,toList_toArray->i9,map_congr_left->i_,map_id->jE,filterMap_map->jF,zip_cons_cons->jH,length_range->jV,cons_eq_cons->jX,filter_congr->jY,mem_of_find?_eq_some->jd,map_reverse->jn,getElem?_cons_succ->jp,pairwise_singleton->jq,getElem?_set_self->jw,take_of_length_le->j1,length_replicate->j6,getElem?_eq_none->j9,getElem?_reverse->kA,lt_trans->kG,map_nil->kO
open Nat renaming le_refl->Op,zero_le->dY,ne_of_lt->da,le_trans->dn,lt_of_lt_of_le->eI,lt_succ_of_lt->fG,lt_irrefl->fH,le_succ->fm,le_sub_of_add_le->gc,lt_of_le_of_lt->gq,ne_of_gt->gz,sub_self->iJ,lt_succ_self->iW,min_le_right->iX,not_lt->jb,le_of_lt->jf,succ_le_succ->jh,le_of_eq->ji,succ_ne_self->jj,zero_add->jo,ble->kC,mul_le_mul->kE,mod_lt->kF
open Ne renaming symm->fF
open Option renaming map_eq_some_iff->eT,isSome_map->jT
open Option.some renaming inj->dh
open Or renaming inl->TW,inr->fe
open PyProof.Rows renaming slot_tuple_getitem->eJ,boot_all->eW,callWith_type1->ej,listUpdate_at->gT,boot_tuple->gZ,boot_sorted->gf,get?_update_seq->gs,AllBare->iN,callWith_builtin1->ik,listItems_at->iu,entry_tuple_getitem->i7,seqEpoch_at->jD,args_tuple_getitem->jG,lt_int->jx
open PyProof.Rows.F renaming plain_set_update_loop->gO,entry_set_update_loop->iL
open PyProof.Rows.KeyOrd renaming kle_refl->fh,kle_of_klt->iQ,kle_trans->iZ,kle_antisymm->kJ
open PySem renaming Addr->Ch,Value->Db,wpAny_bind->Ev,Shared->On,wpAny_pure->T0,Heap->dg,Expr->d6,Stmt->eA,Program->eB,World->eG,sizeLine_eq->eK,Around->eX,FuncData->eY,wpAny_mono->e7,codeAny_builtin->e_,wpAny_field->fC,wpAny_loadPart'->fD,wpAny_holding->fI,wpAny_Call_Name_kw->fL,wpAny_pyIter_tuple->fS,wpAny_callSpecial?_slot->fT,wpAny_seqItems->fX,wpAny_truthy_bool->fY,wpAny_pyIter_list->fb,IsPair->fi,plainId_quiet->fo,wpAny_newObj_type->fw,NameKind->gE,wpAny_call_entry->gF,Keyword->gG,Scope->gH,tupleKind_room_in1->gL,wpAny_setField_rec->gM,wpAny_passesOwn->gQ,Builtin->gg,wpAny_getItem_str_slice->gl,wpAny_letGo->gu,IsZip->gy,wpAny_typeOf->g0,codeAny_mono->iF,PyData->iH,wpAny_execs_nil->ij,IsPart->im,call_meetsIn->io,post_val_or_str->ip,wpAny_updateSeq_pair->iq,wpAny_updateSeq->iw,codeAny_call_builtin->iy,wpAny_tryCatch->jB,SetTable->jC,wpAny_onRaise->jM,wpAny_newList->jO,wpAny_sequenceKey->jR,slot_list_getitem->jS,wpAny_call->ja,wpAny_rule->jc,BindsTo->je,noFill_tuple_add->jg,PassesOwn->jr,wpAny_specialOf->jt,codeAny_of_tree->jv,wpAny_of_eq->jy
open PySem.Around renaming under_plainId->fM
open PySem.Builtin.Builtins renaming bindParams->jJ
open PySem.Builtin.List renaming listExtendWith->gN,listTooLong->iG,listSameRef->jm
open PySem.Builtin.Slice renaming slicePlaces->fc,sliceAdjust->gY,sliceApplied->jL
open PySem.Builtin.SmallTypes renaming nextOf->fO,ownedTupleIsFree->fu,ownedTupleHandOut->iI
open PySem.Builtin.Tuple renaming tupleExact->gh,tupleItemsOf->hZ,tupleIsExact->jN
open PySem.Calls renaming spliced_cons->fK,spliced_nil->fZ,callWith_builtin->gJ,evalArgs_plain->hU,Name_function_global->jK
open PySem.Expr renaming Call->iK
open PySem.F renaming slot_tuple_iterator_next->gS,called_set->gj,slot_zip_next->ir,args_tuple_iterator_next_1->jA,entry_tuple_iterator_next->jI,called_tuple->j_
open PySem.Heap renaming get?_push_of_some->FM,get?_push_size->UF,lt_size->XV,get?_update_other->dk,size_push->ft,get?_update_self->g7,SameBut->ig,IsTuple->jk,IsList->jz
open PySem.Heap.IsSliceOf renaming new->kN
open PySem.Heap.SameBut renaming update->kI
open PySem.NameKind renaming free->eZ,cell->iT
open PySem.Obj renaming mapSeq->e8
open PySem.PassesOwn renaming never->di
open PySem.PyData renaming eqv->e9,depthAll->fg,canLayAll0->gD,eqvAll->jP,leavesShortAll->j7
open PySem.SeqAt.EqAt renaming int_str->kL,str_int->kM
open PySem.Shared renaming heap->gv
open PySem.Str renaming ofString->gK
open PySem.Value renaming none->eS,ref->eh,type->gn,bool->jZ
open PySem.Walks renaming listRev->kH
open Std.Legacy.Range renaming size->kB
open Sum renaming inr->fN,inl->iM
open Sum.inr renaming inj->f8
open True renaming intro->gI
open PySem PySem.Spec PyProof.Rows
local macro_rules | `(tactic| walk_at "s")=>`(tactic| (constructor <;> first | rfl | decide +kernel))
namespace _p
theorem zau0(h:True:=by first | exact .inl rfl | exact .inr rfl | assumption):True:=h
theorem zau1(h:True:=by decide):True:=h
theorem zau2(h:True:=by intro _; rfl):True:=h
theorem zau3(h:True:=by rfl):True:=h
theorem zau4(h:True:=by with_unfolding_all rfl):True:=h
theorem zau5(h:True:=by first | exact TW rfl | exact fe (TW rfl) | exact fe (fe rfl)):True:=h
theorem zau6(h:True:=by intro z; cases z):True:=h
theorem zau7(h:True:=by intro _ _; rfl):True:=h
theorem zau8(h:True:=by intro _ z; cases z):True:=h
theorem zau9(h:True:=by exact⟨rfl,rfl,rfl,rfl⟩):True:=h
theorem zau10(h:True:=by assumption):True:=h
namespace L2
noncomputable abbrev Key:=Sum Int Str
noncomputable def Ms:Key->Db->Bool
 | .inl k,v=>Value.isInt k v
 | .inr x,v=>Value.isStrOf x v
noncomputable def cD(w:eG):Key->Int
 | .inl k=>hashInt k
 | .inr x=>hashStr w x
theorem BN:∀{k:Key} {v:Db},Ms k v=true->(∃i t,k=iM i/\v=Value.int i t)\/(∃x t,k=fN x/\v=Value.str x t)
 | .inl i,v,h=>by
  obtain⟨t,e⟩:=Value.isInt_shape h;exact .inl ⟨i,t,rfl,e⟩
 | .inr x,v,h=>by
  obtain⟨t,e⟩:=Value.isStrOf_shape h;exact .inr ⟨x,t,rfl,e⟩
theorem Tt(i:Int)(t:Tok):Ms (.inl i) (.int i t)=true:=by simp [Ms,Value.isInt]
theorem Ts(x:Str)(t:Tok):Ms (.inr x) (.str x t)=true:=by simp [Ms,Value.isStrOf]
theorem ZJ(a b:Int):decide ((iM a:Key)=iM b)=(a==b):=by
 grind
theorem ZG(a b:Str):decide ((fN a:Key)=fN b)=decide (a=b):=by
 grind
theorem ZI(a:Int)(b:Str):decide ((iM a:Key)=fN b)=false:=decide_eq_false (λq=>nomatch q)
theorem ZH(a:Str)(b:Int):decide ((fN a:Key)=iM b)=false:=decide_eq_false (λq=>nomatch q)
noncomputable def Aw(prog:eB)(w:eG):PySem.KeyKind prog w Key where
 is:=Ms
 hash:=cD w
 inj:=λv a b ha hb=>by
  rcases BN ha with ⟨i,t,rfl,rfl⟩ | ⟨x,t,rfl,rfl⟩
  ·rcases BN hb with ⟨j,u,rfl,e⟩ | ⟨y,u,rfl,e⟩
   ·injection e with e1 _; rw [e1]
   ·exact nomatch e
  ·rcases BN hb with ⟨j,u,rfl,e⟩ | ⟨y,u,rfl,e⟩
   ·exact nomatch e
   ·injection e with e1 _; rw [e1]
 byValue:=λk v h=>by
  rcases BN h with ⟨i,t,rfl,rfl⟩ | ⟨x,t,rfl,rfl⟩ <;> rfl
 pyHash:=λhv h=>by
  rcases BN hv with ⟨i,t,rfl,rfl⟩ | ⟨x,t,rfl,rfl⟩
  ·exact wpAny_pyHash_int h
  ·exact wpAny_pyHash_str h
 eqBool:=λhu hv h=>by
  rcases BN hu with ⟨i,t,rfl,rfl⟩ | ⟨x,t,rfl,rfl⟩
  ·rcases BN hv with ⟨j,u,rfl,rfl⟩ | ⟨y,u,rfl,rfl⟩
   ·rw [ZJ] at h; exact wpAny_eqBool_int h
   ·rw [ZI] at h; exact kL i t y u _ _ _ _ h
  ·rcases BN hv with ⟨j,u,rfl,rfl⟩ | ⟨y,u,rfl,rfl⟩
   ·rw [ZH] at h; exact kM x t j u _ _ _ _ h
   ·rw [ZG] at h; exact wpAny_eqBool_str h
 «strs»:=λk x t v h=>by
  rcases BN h with ⟨i,u,rfl,e⟩ | ⟨y,u,rfl,e⟩
  ·exact nomatch e
  ·injection e with e1 _
   subst e1
   cases v <;> rfl
theorem PY(prog:eB)(w:eG)(i:Int)(t:Tok):(Aw prog w).is (.inl i) (.int i t)=true:=Tt i t
theorem PX(prog:eB)(w:eG)(x:Str)(t:Tok):(Aw prog w).is (.inr x) (.str x t)=true:=Ts x t
inductive V where
 | non | bl (b:Bool) | int (i:Int) | str (x:Str) | byt (b:Array UInt8) | flt (b:UInt64) | ref (a:Ch) | ty (n:String)
 deriving DecidableEq
noncomputable def RelV:V->Db->Prop
 | .non,u=>u=eS
 | .bl b,u=>u=jZ b
 | .int i,u=>∃t,u=Value.int i t
 | .str x,u=>∃t,u=Value.str x t
 | .byt b,u=>∃t,u=Value.bytes b t
 | .flt b,u=>∃t,u=Value.float b t
 | .ref a,u=>u=eh a
 | .ty n,u=>u=gn n
noncomputable abbrev Vals:List V->List Db->Prop:=Paired RelV
theorem Vals.length{xs:List V}{us:List Db}(r:Vals xs us):xs.length=us.length:=Paired.length r
theorem Vals.get:∀{xs:List V} {us:List Db} {i:Nat} {x:V},Vals xs us->xs[i]?=some x->∃u,us[i]?=some u/\RelV x u
 | _,_,_,_,.nil,e=>by simp at e
 | _,_,0,_,.cons r _,e=>by simp_all
 | _,_,i+1,x,.cons _ t,e=>by
  obtain⟨u,h1,h2⟩:=Vals.get t (by simpa using e)
  simp_all
theorem Vals.set{x:V}{u:Db}(r:RelV x u):∀{xs:List V} {us:List Db} (i:Nat),Vals xs us->Vals (xs.set i x) (us.set i u)
 | _,_,_,.nil=>.nil
 | _,_,0,.cons _ t=>.cons r t
 | _,_,i+1,.cons q t=>.cons q (Vals.set r i t)
theorem Vals.append:∀{xs ys:List V} {us ws:List Db},Vals xs us->Vals ys ws->Vals (xs++ys) (us++ws)
 | _,_,_,_,.nil,s=>s
 | _,_,_,_,.cons r t,s=>.cons r (Vals.append t s)
theorem Vals.take:∀{xs:List V} {us:List Db} (n:Nat),Vals xs us->Vals (xs.take n) (us.take n)
 | _,_,0,_=>.nil
 | _,_,_+1,.nil=>.nil
 | _,_,n+1,.cons r t=>.cons r (Vals.take n t)
theorem Vals.drop:∀{xs:List V} {us:List Db} (n:Nat),Vals xs us->Vals (xs.drop n) (us.drop n)
 | _,_,0,r=>r
 | _,_,_+1,.nil=>.nil
 | _,_,n+1,.cons _ t=>Vals.drop n t
noncomputable def RelO:Option V->Option Db->Prop
 | some v,some u=>RelV v u
 | none,none=>True
 | _,_=>False
noncomputable def KV{κ:Type}:List (κ×V)->List (κ×Db)->Prop:=Paired fun(p:κ×V) (q:κ×Db)=>p.1=q.1/\RelV p.2 q.2
noncomputable def kV:Key->V
 | .inl i=>.int i
 | .inr x=>.str x
inductive HO where
 | lst (xs:List V)
 | tup (xs:List V)
 | dK (kvs:List (Key×V)) | dT (kvs:List (List Key×V))
 | set (S:Int->Bool) (n:Nat)
 | ins (C dx:Ch) (fs:List (Str×V))
 | own (x:Ch)
 | xd (fs:List (Str×V))
 | met (f x:Ch)
 | rng (lo hi:Int)
 | frz (o:Obj) (u:HO)
 | tbl (ps:Array Db)
 | ext (φ:dg->Prop)
noncomputable abbrev Hp:=Ch->Option HO
noncomputable def BD(H:Hp)(a:Ch)(o:HO):Hp:=λb=>if b=a then some o else H b
theorem Al{H:Hp}{a:Ch}{o:HO}:BD H a o a=some o:=by unfold BD; grind
theorem Ag{H:Hp}{a b:Ch}{o:HO}(h:b≠a):BD H a o b=H b:=by unfold BD; rw [if_neg h]
theorem af{H:Hp}{a b:Ch}{o u:HO}(h:H a=some o)(h':H b=some u)(d:o≠u):a≠b:=by
 grind
theorem A3{H:Hp}{a b:Ch}{o:HO}(h:H a=some o)(h':H b=none):a≠b:=by
 grind
noncomputable def IsTupN(h:dg)(a:Ch)(items:Array Db):Prop:=∃o,h.get? a=some o/\o.cls=.type "tuple"/\∃n,o.data=.seq items n/\o.dict=none/\o.slots=#[]
theorem IsTupN.tup{h:dg}{a:Ch}{items:Array Db}(x:IsTupN h a items):IsTup h a items:=let ⟨o,h1,h2,n,h3,_⟩:=x; ⟨o,h1,h2,n,h3⟩
theorem IsTupN.new(h:dg)(items:Array Db):IsTupN (h.push { cls:=.type "tuple",data:=.seq items }) h.objs.size items:=⟨_,UF _ rfl,rfl,_,rfl,rfl,rfl⟩
section
variable (P:Program)(w:World)
noncomputable def ObjOk(H:Hp)(h:dg)(a:Ch):HO->Prop
 | .lst xs=>xs.length<=sizeLine/\∃(its:List Db) (n:Nat),Vals xs its/\h.get? a=some { cls:=.type "list",data:=.seq its.toArray n }
 | .tup xs=>xs.length<=sizeLine/\∃its:List Db,Vals xs its/\IsTupN h a its.toArray
 | .dK kvs=>kvs.length<=sizeLine/\(a==sysModules)=false/\∃vs,KV kvs vs/\h.DictOf (Aw P w) a vs
 | .dT kvs=>kvs.length<=sizeLine/\(a==sysModules)=false/\∃xs:List (List Key×Ch×Db),
   Paired (fun(p:List Key×V) (q:List Key×Ch×Db)=>p.1=q.1/\H q.2.1=some (.tup (p.1.map kV))/\RelV p.2 q.2.2) kvs xs /\
   ∃o es ep,h.get? a=some o/\o.ExactDict/\o.data=.dict es ep/\es.toList=xs.map (entryOfKey (tupleKind (Aw P w)))/\(xs.map (·.1)).Nodup
 | .set S n=>h.SetOf (intKind P w) a S n
 | .ins C dx fs=>H dx=some (.own a)/\fs.length<=1000/\dx≠a/\h.get? a=some (PySem.W.instObj C dx) /\
   ∃mA,h.Ns1 dx mA/\(∀f,RelO (fs.lookup f) (mA f))/\PySem.Within mA (fs.map (·.1))
 | .own _=>∃o,h.get? a=some o
 | .xd fs=>∃mA,h.Ns1 a mA/\∀f,RelO (fs.lookup f) (mA f)
 | .rng lo hi=>∃t u v,h.get? a=some { cls:=.type "range",data:=.fields #[.int lo t,.int hi u,.int 1 v] }
 | .frz o u=>h.get? a=some o/\ObjOk H h a u
 | .tbl ps=>h.get? a=some { cls:=.none,data:=.fields ps }
 | .met f x=>h.get? a=some (PySem.W.methodObj (.ref f) (.ref x))
 | .ext φ=>φ h/\(∃o,h.get? a=some o)/\∀h1 h2:dg,φ h1->(∀o,h1.get? a=some o->h2.get? a=some o)->φ h2
noncomputable def HOk(H:Hp)(h:dg):Prop:=∀a o,H a=some o->ObjOk P w H h a o
end
section
variable {P:Program}{w:World}{H H':Hp}{h h':Heap}{a:Addr}{o:HO}
theorem ObjOk.lt(x:ObjOk P w H h a o):a<h.objs.size:=by
 cases o with
 | lst xs=>obtain⟨_,_,_,_,e⟩:=x; exact XV e
 | tup xs=>obtain⟨_,_,_,p⟩:=x; exact p.tup.lt
 | dK kvs=>obtain⟨_,_,_,_,o,_,_,e,_⟩:=x; exact XV e
 | dT kvs=>obtain⟨_,_,_,_,o,_,_,e,_⟩:=x; exact XV e
 | set S n=>obtain⟨o,_,_,_,e,_⟩:=x; exact XV e
 | ins C dx fs=>obtain⟨_,_,_,e,_⟩:=x; exact XV e
 | own y=>obtain⟨_,e⟩:=x; exact XV e
 | xd fs=>obtain⟨_,⟨_,_,_,e,_⟩,_⟩:=x; exact XV e
 | rng lo hi=>obtain⟨_,_,_,e⟩:=x; exact XV e
 | frz ob u=>obtain⟨e,_⟩:=x; exact XV e
 | tbl ps=>exact XV (show h.get? a=some _ from x)
 | met f y=>exact XV (show h.get? a=some _ from x)
 | ext φ=>obtain⟨_,⟨_,e⟩,_⟩:=x; exact XV e
theorem Paired.mapP{α β:Type}{F G:α->β->Prop}:∀{l₁:List α} {l₂:List β},Paired F l₁ l₂->(∀a b,F a b->G a b)->Paired G l₁ l₂
 | _,_,.nil,_=>.nil
 | _,_,.cons r t,f=>.cons (f _ _ r) (Paired.mapP t f)
theorem ObjOk.stay(x:ObjOk P w H h a o)(k:∀b u,(b=a\/H b=some (.own a))->h.get? b=some u->h'.get? b=some u)
  (ho:∀b,H b=some (.own a)->H' b=some (.own a)) (ht:∀b xs,H b=some (.tup xs)->H' b=some (.tup xs)):ObjOk P w H' h' a o:=by
 induction o with
 | lst xs=>obtain⟨z,its,n,r,e⟩:=x; exact⟨z,its,n,r,k _ _ (.inl rfl) e⟩
 | tup xs=>obtain⟨z,its,r,ob,e,c⟩:=x; exact⟨z,its,r,ob,k _ _ (.inl rfl) e,c⟩
 | dK kvs=>obtain⟨z,y,vs,r,ob,es,ep,e,c⟩:=x; exact⟨z,y,vs,r,ob,es,ep,k _ _ (.inl rfl) e,c⟩
 | dT kvs =>
  obtain⟨z,y,xs,r,ob,es,ep,e,c⟩:=x;exact⟨z,y,xs,Paired.mapP r λp q z=>⟨z.1,ht _ _ z.2.1,z.2.2⟩,ob,es,ep,k _ _ (.inl rfl) e,c⟩
 | set S n=>obtain⟨ob,es,ep,t,e,c⟩:=x; exact⟨ob,es,ep,t,k _ _ (.inl rfl) e,c⟩
 | ins C dx fs =>
  obtain⟨d,z,ne,e,mA,⟨od,es,ep,e2,c⟩,r⟩:=x;exact⟨ho _ d,z,ne,k _ _ (.inl rfl) e,mA,⟨od,es,ep,k _ _ (.inr d) e2,c⟩,r⟩
 | own y=>obtain⟨ob,e⟩:=x; exact⟨ob,k _ _ (.inl rfl) e⟩
 | xd fs=>obtain⟨mA,⟨od,es,ep,e,c⟩,r⟩:=x; exact⟨mA,⟨od,es,ep,k _ _ (.inl rfl) e,c⟩,r⟩
 | rng lo hi=>obtain⟨t,u,v,e⟩:=x; exact⟨t,u,v,k _ _ (.inl rfl) e⟩
 | frz ob u ih=>obtain⟨e,q⟩:=x; exact⟨k _ _ (.inl rfl) e,ih q⟩
 | tbl ps =>
  have e:h.get? a=some { cls:=.none,data:=.fields ps }:=x;show h'.get? a=some { cls:=.none,data:=.fields ps };exact k a _ (.inl rfl) e
 | met f y =>
  have e:h.get? a=some (PySem.W.methodObj (.ref f) (.ref y)):=x;show h'.get? a=some (PySem.W.methodObj (.ref f) (.ref y));exact k a _ (.inl rfl) e
 | ext φ=>obtain⟨p,⟨o,e⟩,st⟩:=x; exact⟨st _ _ p λo q=>k _ _ (.inl rfl) q,⟨o,k _ _ (.inl rfl) e⟩,st⟩
theorem HOk.lt(x:HOk P w H h)(e:H a=some o):a<h.objs.size:=(x a o e).lt
theorem HOk.fresh(x:HOk P w H h)(e:h.objs.size<=a):H a=none:=by
 cases q:H a with
 | none=>rfl
 | some u=>exact absurd (eI (x.lt q) e) (fH _)
theorem HOk.kept(x:HOk P w H h)(k:∀b u,h.get? b=some u->h'.get? b=some u):HOk P w H h':=λa o e =>
 (x a o e).stay (λb u _ q=>k b u q) (λ_ q=>q) λ_ _ q=>q
theorem HOk.laid(x:HOk P w H h)(k:∀b u,h.get? b=some u->h'.get? b=some u)(hp:h.objs.size<=a)(new:ObjOk P w (BD H a o) h' a o):HOk P w (BD H a o) h':=λb u e=>by
 have hn:=x.fresh hp
 by_cases hb:b=a
 ·subst hb; rw [Al] at e; grind
 ·rw [Ag hb] at e
  exact(x b u e).stay (λc v _ q=>k c v q) (λc q=>by rw [Ag (A3 q hn)]; exact q) λc xs q=>by rw [Ag (A3 q hn)]; exact q
end
noncomputable def Rd(H:Hp)(a:Ch)(u:HO):Prop:=H a=some u\/∃o,H a=some (.frz o u)
theorem Rd.ok{P:eB}{w:eG}{H:Hp}{h:dg}{a:Ch}{u:HO}(r:Rd H a u)(x:HOk P w H h):ObjOk P w H h a u:=by
 rcases r with r | ⟨o,r⟩
 ·exact x a u r
 ·obtain⟨_,q⟩:=x a _ r
  exact q
noncomputable def bO:Option HO->Prop
 | some (.lst _)=>True
 | some (.dK _)=>True
 | some (.dT _)=>True
 | some (.set _ _)=>True
 | some (.ins _ _ _)=>True
 | some (.ext _)=>True
 | _=>False
section
variable {P:Program}{w:World}{H:Hp}{h h':Heap}{x e:Addr}{o':HO}
theorem HOk.write(ok:HOk P w H h)(mu:bO (H x))(he:e=x\/H e=some (.own x))(k:∀b u,b≠e->h.get? b=some u->h'.get? b=some u)(heo:∃u,h'.get? e=some u)
  (new:ObjOk P w (BD H x o') h' x o'):HOk P w (BD H x o') h':=λb u q=>by
 have nown:∀c y,H c=some (.own y)->c≠x:=λc y r z=>by subst z; rw [r] at mu; exact mu
 have ntup:∀c xs,H c=some (.tup xs)->c≠x:=λc xs r z=>by subst z; rw [r] at mu; exact mu
 by_cases hb:b=x
 ·subst hb; rw [Al] at q; cases q; exact new
 ·rw [Ag hb] at q
  by_cases hbe:b=e
  ·have q':H b=some (.own x):=by
    grind
   rw [q] at q'; cases q'
   obtain⟨v,hv⟩:=heo;exact⟨v,by rw [hbe]; exact hv⟩
  ·refine(ok b u q).stay (λc v hc r=>k c v ?_ r) (λc r=>by rw [Ag (nown c b r)]; exact r) λc xs r=>by rw [Ag (ntup c xs r)]; exact r
   grind
end
structure Un (fs ex:List Ch) (H H':Hp) (h h':dg):Prop where
 keep:∀b o,h.get? b=some o->H b=none->b∉fs->b∉ex->h'.get? b=some o
 slot:∀b o,h.get? b=some o->H b=none->b∈fs->b∉ex->∃sl,h'.get? b=some { o with slots:=sl }
 free:∀b o,h.get? b=some o->H b=none->b∉ex->H' b=none
 there:∀b o,h.get? b=some o->b∉ex->∃o',h'.get? b=some o'
 tups:∀b xs,H b=some (.tup xs)->H' b=some (.tup xs)
 frzs:∀b o u,H b=some (.frz o u)->H' b=some (.frz o u)
 tbls:∀b ps,H b=some (.tbl ps)->∃more,H' b=some (.tbl (ps++more))
section
variable {fs ex:List Addr}{H H1:Hp}{h h1 h':Heap}{a x e:Addr}{o:HO}
theorem Un.any(u:Un fs ex H H1 h h1){b:Ch}{ob:Obj}(q:h.get? b=some ob)(n:H b=none)(hx:b∉ex):∃sl,h1.get? b=some { ob with slots:=sl }:=by
 by_cases hb:b∈fs
 ·exact u.slot b ob q n hb hx
 ·exact⟨_,u.keep b ob q n hb hx⟩
theorem Un.kept(k:∀b u,h.get? b=some u->h'.get? b=some u):Un fs ex H H h h' :=
 ⟨λb ob q _ _ _=>k b ob q,λb ob q _ _ _=>⟨_,k b ob q⟩,λ_ _ _ n _=>n,λb ob q _=>⟨ob,k b ob q⟩,λ_ _ q=>q,λ_ _ _ q=>q,λ_ ps q=>⟨#[],by rw [q]; simp⟩⟩
theorem Un.refl:Un fs ex H H h h:=Un.kept λ_ _ q=>q
theorem Un.laid(k:∀b u,h.get? b=some u->h'.get? b=some u)(hp:h.objs.size<=a)(hn:H a=none):Un fs ex H (BD H a o) h h' where
 keep:=λb u q _ _ _=>k b u q
 slot:=λb u q _ _ _=>⟨_,k b u q⟩
 free:=λb u q n _=>by rw [Ag (da (eI (XV q) hp))]; exact n
 there:=λb u q _=>⟨u,k b u q⟩
 tups:=λb xs q=>by rw [Ag (A3 q hn)]; exact q
 frzs:=λb u xs q=>by rw [Ag (A3 q hn)]; exact q
 tbls:=λb ps q=>⟨#[],by rw [Ag (A3 q hn),q]; simp⟩
theorem Un.write(mu:bO (H x))(he:e=x\/H e=some (.own x))(k:∀b u,b≠e->h.get? b=some u->h'.get? b=some u)(heo:∃u,h'.get? e=some u):Un fs ex H (BD H x o) h h':=by
 have hx:∀b,H b=none->b≠x:=λb n z=>by subst z; rw [n] at mu; exact mu
 have hb:∀b,H b=none->b≠e:=λb n z=>by
  grind
 have hm:∀b u,H b=some u->¬bO (some u)->b≠x:=λb u q nm z=>by grind
 refine⟨λb u q n _ _=>k b u (hb b n) q,λb u q n _ _=>⟨u.slots,k b u (hb b n) q⟩,λb u q n _=>by rw [Ag (hx b n)]; exact n,λb u q _=>?_,
  λb xs q=>by rw [Ag (hm b _ q λz=>z)]; exact q,λb u xs q=>by rw [Ag (hm b _ q λz=>z)]; exact q,λb ps q=>⟨#[],by rw [Ag (hm b _ q λz=>z),q]; simp⟩⟩
 by_cases hbe:b=e
 ·simp_all
 ·exact⟨u,k b u hbe q⟩
end
noncomputable def c0(h:dg)(H:Hp):List Ch:=(eP h.objs.size).filter λa=>(H a).isSome
noncomputable def OF(h:dg)(H:Hp):dg:=PySem.W.hideAll h (c0 h H)
theorem Tx(h:dg)(H:Hp):(OF h H).objs.size=h.objs.size:=PySem.W.hideAll_size _ _
theorem Vk{h:dg}{H:Hp}{b:Ch}{o:Obj}(e:h.get? b=some o)(n:H b=none):(OF h H).get? b=some o :=
 PySem.W.hideAll_get _ e λhm=>by
  have q:=(gP.mp hm).2
  grind
theorem W8{h:dg}{H:Hp}{b:Ch}{o:Obj}(e:(OF h H).get? b=some o):h.get? b=some o/\H b=none:=by
 have e':=PySem.W.of_hideAll _ e;refine⟨e',?_⟩;cases q:H b with
 | none=>rfl
 | some x =>
  have z:(OF h H).get? b=none:=PySem.W.hideAll_none _ (gP.mpr ⟨f_.mpr (XV e'),by simp [q]⟩)
  grind
structure Mod (K:Frag) (mg:Str->Option Db) (base:dg):Prop where
 kin:K.In base
 glob:base.Ns mainGlobals mg
 blt:∃mb,base.Ns builtinsNs mb/\∀x:Str,x ≠ "__name__"->mb x=bootBuiltins x
 nolimit:base.NoLimit
/-- the context: a def's body (or a comprehension's block) running. base: fixed through the whole law; s₀, H₀: the entry; outer: the frames whose slots others may change (a def's callers); stack: all frames that run;
   ex: iterators that were made ahead of the entry and are walked here (a comprehension's); fn: the names whose cells were made at the entry (a def: all; a comprehension's block: its own); calm: not within an except suite; pn: zG that every state bears; xe: what is wanted of an exception that leaves the code -/
structure Cx where
 prog:eB
 w:eG
 K:Frag
 mg:Str->Option Db
 base:dg
 A:eX
 N:List Str
 s₀:On
 H₀:Hp
 env:Env
 outer:List Env
 stack:List Env
 ex:List Ch
 fn:Str->Bool
 calm:Bool
 pn:List (Ch×Obj)
 xe:Db->On->Prop
noncomputable def SI(l:List Env):List Ch:=l.filterMap (·.frame)
noncomputable abbrev Cx.fs(X:Cx):List Ch:=SI X.outer
noncomputable def Zk(sc:gH)(x:Str):Prop:=sc.names.lookup x=some .local\/sc.names.lookup x=some .cell\/sc.names.lookup x=some .free
noncomputable def Loc(sc:gH)(x:Str):Prop:=sc.names.lookup x=some .local\/sc.names.lookup x=some .cell
noncomputable def Look(env:Env)(h:dg)(m:Str->Option Db)(x:Str)(u:Db):Prop :=
 (env.kindOf x=some .local/\m x=some u)\/((env.kindOf x=some .cell\/env.kindOf x=some .free)/\∃c,env.cells.lookup x=some c/\h.IsCell c (some u))
structure Cx.Ok (X:Cx):Prop where
 mod:Mod X.K X.mg X.base
 kind:X.env.scope.kind=.function
 glob:X.env.globals=mainGlobals
 blt:X.env.builtins=builtinsNs
 above:X.s₀.heap.objs.size<=X.env.locals
 inj:∀x y c,X.env.cells.lookup x=some c->X.env.cells.lookup y=some c->x=y
 has:∀x,(X.env.kindOf x=some .cell\/X.env.kindOf x=some .free)->∃c,X.env.cells.lookup x=some c
 cab:∀x c,X.fn x=true->X.env.cells.lookup x=some c->X.s₀.heap.objs.size<=c
 hd:X.calm=true->X.A.handled=none
 frames:X.A.frames=some X.stack
 stk:X.stack=X.outer\/(X.stack=X.env::X.outer/\X.env.frame=some X.env.locals)
 exf:∀b∈X.ex,b≠X.env.locals/\∀x c,X.env.cells.lookup x=some c->c≠b
 bs:∀b o,X.base.get? b=some o->X.s₀.heap.get? b=some o/\X.H₀ b=none
 bsz:X.base.objs.size<=X.s₀.heap.objs.size
 noex:∀b o,X.base.get? b=some o->b∉X.ex
 exfs:∀b∈X.ex,b∉X.fs
 funs:X.s₀.heap.FunFrames X.base X.outer
 frf:∀b∈X.fs,X.H₀ b=none
structure Inv (X:Cx) (zG:List (Ch×Obj)) (Z:List (Option V)) (H:Hp) (s:On):Prop where
 ok:X.Ok
 os:s.os=X.s₀.os
 bare:iN s.gens
 base:Un X.fs X.ex X.H₀ H X.s₀.heap s.heap
 loc:∃m,s.heap.Ns X.env.locals m/\∀(i:Nat) (x:Str) (v:V),X.N[i]?=some x->Z[i]?=some (some v)->Zk X.env.scope x->∃u,RelV v u/\Look X.env s.heap m x u
 cell:∀x c,X.env.cells.lookup x=some c->∃v,s.heap.IsCell c v
 free:H X.env.locals=none
 freeC:∀x c,X.env.cells.lookup x=some c->H c=none
 pin:∀p∈X.pn++zG,s.heap.get? p.1=some p.2/\H p.1=none/\p.1≠X.env.locals/\p.1∉X.fs/\∀v,p.2.data≠.cell v
 hok:HOk X.prog X.w H s.heap
 len:Z.length=X.N.length
section
variable {X:Cx}{zG:List (Addr×Obj)}{Z:List (Option V)}{H H':Hp}{s:Shared}{h':Heap}
theorem Cx.Ok.nofr(ok:X.Ok){b:Ch}{o:Obj}(e:X.base.get? b=some o):b∉X.fs:=λhb=>by
 have:=(ok.funs.mem hb).1
 grind
theorem Inv.bs(I:Inv X zG Z H s):∀b o,X.base.get? b=some o->s.heap.get? b=some o/\H b=none:=λb o e =>
 ⟨I.base.keep b o (I.ok.bs b o e).1 (I.ok.bs b o e).2 (I.ok.nofr e) (I.ok.noex b o e),I.base.free b o (I.ok.bs b o e).1 (I.ok.bs b o e).2 (I.ok.noex b o e)⟩
theorem Inv.bk(I:Inv X zG Z H s):∀b o,X.base.get? b=some o->s.heap.get? b=some o:=λb o e=>(I.bs b o e).1
theorem Inv.mod(I:Inv X zG Z H s):Mod X.K X.mg X.base:=I.ok.mod
theorem Inv.kIn(I:Inv X zG Z H s):X.K.In s.heap:=I.ok.mod.kin.keeps I.bk
theorem Inv.lt(I:Inv X zG Z H s):X.env.locals<s.heap.objs.size:=let ⟨_,hn,_⟩:=I.loc; hn.lt
theorem Inv.sz(I:Inv X zG Z H s):X.s₀.heap.objs.size<=s.heap.objs.size:=dn I.ok.above (jf I.lt)
theorem Inv.nofs(I:Inv X zG Z H s){a:Ch}(h:s.heap.objs.size<=a):a∉X.fs:=λhb=>by
 obtain⟨_,o,ho,_⟩:=I.ok.funs.mem hb;exact absurd (eI (XV ho) (dn I.sz h)) (fH _)
theorem Inv.cne(I:Inv X zG Z H s):∀x c,X.env.cells.lookup x=some c->c≠X.env.locals:=λx c e z=>by
 obtain⟨v,o,ho,hd⟩:=I.cell x c e;obtain⟨m,⟨o',es,ep,ho',hd',_⟩,_⟩:=I.loc
 grind
theorem Inv.funs(I:Inv X zG Z H s):s.heap.FunFrames X.base X.outer:=by
 have all:∀(l:List _),(∀b∈SI l,b∈X.fs)->X.s₀.heap.FunFrames X.base l->s.heap.FunFrames X.base l:=by
  intro l
  induction l with
  | nil=>intro _ _; trivial
  | cons env r ih =>
   intro hs hl;obtain⟨hk,⟨L,o,hf,hn,ho,hd⟩,hr⟩:=hl;have hL:=hs L (by unfold SI; simp_all);obtain⟨sl,e⟩:=I.base.slot L o ho (I.ok.frf L hL) hL λz=>I.ok.exfs L z hL;exact⟨hk,⟨L,_,hf,hn,e,hd⟩,ih (λb hb=>hs b (by unfold SI; rw [gk,hf]; exact Sc _ hb)) hr⟩
 exact all _ (λ_ hb=>hb) I.ok.funs
theorem Inv.stack(I:Inv X zG Z H s):s.heap.FunFrames X.base X.stack:=by
 rcases I.ok.stk with e | ⟨e,hf⟩
 ·rw [e]; exact I.funs
 ·rw [e]
  obtain⟨m,hn,_⟩:=I.loc;exact .cons (by rw [I.ok.kind]; decide) hf hn (Heap.get?_none_of_le (dn I.ok.bsz I.ok.above)) I.funs
theorem Inv.stkSub(I:Inv X zG Z H s):∀b∈SI X.stack,b∈X.env.locals::X.fs:=λb hb=>by
 rcases I.ok.stk with e | ⟨e,hf⟩
 ·grind
 ·rw [e] at hb
  unfold SI at hb;rw [gk,hf] at hb;exact hb
theorem Inv.stkFree(I:Inv X zG Z H s):∀b∈SI X.stack,H b=none:=λb hb=>by
 rcases ZB.mp (I.stkSub b hb) with e | hb
 ·rw [e]; exact I.free
 ·obtain⟨_,o,ho,_⟩:=I.ok.funs.mem hb
  exact I.base.free b o ho (I.ok.frf b hb) λz=>I.ok.exfs b z hb
theorem Inv.step{g':Array GenState}{t':Nat}{d':Drawn}{ch:List Ch}(I:Inv X zG Z H s)
  (hch:∀b∈ch,(b∈X.ex\/X.s₀.heap.objs.size<=b)/\b≠X.env.locals/\(∀x c,X.env.cells.lookup x=some c->c≠b)/\∀p∈X.pn++zG,p.1≠b)
  (keep:∀b o,b≠X.env.locals->b∉X.fs->b∉ch->s.heap.get? b=some o->H b=none->h'.get? b=some o)
  (slot:∀b o,b≠X.env.locals->b∈X.fs->b∉ch->s.heap.get? b=some o->H b=none->∃sl,h'.get? b=some { o with slots:=sl }) (free:∀b o,b∉ch->s.heap.get? b=some o->H b=none->H' b=none)
  (there:∀b o,b∉ch->s.heap.get? b=some o->∃o',h'.get? b=some o')
  (tups:∀b xs,H b=some (.tup xs)->H' b=some (.tup xs)) (frzs:∀b o u,H b=some (.frz o u)->H' b=some (.frz o u)) (tbls:∀b ps,H b=some (.tbl ps)->∃more,H' b=some (.tbl (ps++more)))
  (ns:∀m,s.heap.Ns X.env.locals m->h'.Ns X.env.locals m) (hok:HOk X.prog X.w H' h') (hg:iN g') :
  Inv X zG Z H' { s with heap:=h',gens:=g',drawn:=d',toks:=t' }:=by
 have neL:∀b o,X.s₀.heap.get? b=some o->b≠X.env.locals:=λb o e=>da (eI (XV e) I.ok.above)
 have neC:∀b o,X.s₀.heap.get? b=some o->b∉X.ex->b∉ch:=λb o e hx hb=>by
  rcases (hch b hb).1 with z | z
  ·exact hx z
  ·exact absurd (eI (XV e) z) (fH _)
 have cellK:∀x c,X.env.cells.lookup x=some c->∀v,s.heap.IsCell c v->h'.IsCell c v:=λx c e v ⟨o,ho,hd⟩=>by
  have nch:c∉ch:=λz=>(hch c z).2.2.1 x c e rfl
  by_cases hc:c∈X.fs
  ·obtain⟨sl,q⟩:=slot c o (I.cne x c e) hc nch ho (I.freeC x c e)
   exact⟨_,q,hd⟩
  ·exact⟨o,keep c o (I.cne x c e) hc nch ho (I.freeC x c e),hd⟩
 refine⟨I.ok,I.os,hg,⟨λb o e n hb hx=>?_,λb o e n hb hx=>?_,λb o e n hx=>?_,λb o e hx=>?_,λb xs e=>tups b xs (I.base.tups b xs e),λb o xs e=>frzs b o xs (I.base.frzs b o xs e),λb ps e=>?_⟩,?_,λx c e=>?_,?_,λx c e=>?_,λp hp=>?_,hok,I.len⟩
 ·exact keep b o (neL b o e) hb (neC b o e hx) (I.base.keep b o e n hb hx) (I.base.free b o e n hx)
 ·obtain⟨sl,e1⟩:=I.base.slot b o e n hb hx
  obtain⟨sl',e2⟩:=slot b _ (neL b o e) hb (neC b o e hx) e1 (I.base.free b o e n hx);exact⟨sl',e2⟩
 ·obtain⟨o',e1⟩:=I.base.there b o e hx
  exact free b o' (neC b o e hx) e1 (I.base.free b o e n hx)
 ·obtain⟨o',e1⟩:=I.base.there b o e hx
  exact there b o' (neC b o e hx) e1
 ·obtain⟨m1,e1⟩:=I.base.tbls b ps e
  obtain⟨m2,e2⟩:=tbls b _ e1;exact⟨m1++m2,by rw [e2,Array.append_assoc]⟩
 ·obtain⟨m,hn,hl⟩:=I.loc
  refine⟨m,ns m hn,λi x v e1 e2 e3=>?_⟩;obtain⟨u,r,l⟩:=hl i x v e1 e2 e3;refine⟨u,r,?_⟩
  rcases l with l | ⟨k,c,e,z⟩
  ·exact .inl l
  ·exact .inr ⟨k,c,e,cellK x c e _ z⟩
 ·obtain⟨v,z⟩:=I.cell x c e
  exact⟨v,cellK x c e v z⟩
 ·obtain⟨m,⟨o,_,_,ho,_⟩,_⟩:=I.loc
  exact free _ o (λz=>(hch _ z).2.1 rfl) ho I.free
 ·obtain⟨v,o,ho,hd⟩:=I.cell x c e
  exact free c o (λz=>(hch c z).2.2.1 x c e rfl) ho (I.freeC x c e)
 ·obtain⟨e,n,ne,nf,d⟩:=I.pin p hp
  have nch:p.1∉ch:=λz=>(hch p.1 z).2.2.2 p hp rfl;exact⟨keep p.1 p.2 ne nf nch e n,free p.1 p.2 nch e n,ne,nf,d⟩
theorem Inv.un{t':Nat}(I:Inv X zG Z H s)(u:Un X.fs [] H H' s.heap h')(hok:HOk X.prog X.w H' h'):Inv X zG Z H' { s with heap:=h',toks:=t' }:=by
 obtain⟨m,⟨o,es,ep,ho,r⟩,_⟩:=id I.loc;obtain⟨sl,hL⟩:=u.any ho I.free (by simp)
 exact I.step (ch:=[]) (λ_ z=>nomatch z) (λb o _ hb _ e n=>u.keep b o e n hb (by simp)) (λb o _ hb _ e n=>u.slot b o e n hb (by simp)) (λb o _ e n=>u.free b o e n (by simp)) (λb o _ e=>u.there b o e (by simp)) u.tups u.frzs u.tbls (λm' hm=>by
  obtain⟨o',es',ep',ho',r'⟩:=hm;rw [ho] at ho'; cases ho'
  exact⟨_,_,_,hL,r'⟩) hok I.bare
theorem Inv.call{g':Array GenState}{t':Nat}{d':Drawn}{ch:List Ch}(I:Inv X zG Z H s)(u:Un (SI X.stack) ch H H' s.heap h')(hok:HOk X.prog X.w H' h')(hg:iN g')
  (hch:∀b∈ch,(b∈X.ex\/X.s₀.heap.objs.size<=b)/\b≠X.env.locals/\(∀x c,X.env.cells.lookup x=some c->c≠b)/\∀p∈X.pn++zG,p.1≠b) :
  Inv X zG Z H' { s with heap:=h',gens:=g',drawn:=d',toks:=t' }:=by
 obtain⟨m,⟨o,es,ep,ho,r⟩,_⟩:=id I.loc;obtain⟨sl,hL⟩:=u.any ho I.free λz=>(hch _ z).2.1 rfl
 exact I.step hch (λb o hL hb hc e n=>u.keep b o e n (λz=>(ZB.mp (I.stkSub b z)).elim hL hb) hc) (λb o _ _ hc e n=>u.any e n hc) (λb o hc e n=>u.free b o e n hc) (λb o hc e=>u.there b o e hc) u.tups u.frzs u.tbls (λm' hm=>by
  obtain⟨o',es',ep',ho',r'⟩:=hm;rw [ho] at ho'; cases ho'
  exact⟨_,_,_,hL,r'⟩) hok hg
theorem Inv.turned{t':Nat}{it:Ch}(I:Inv X zG Z H s)(k:∀b o,b≠it->s.heap.get? b=some o->h'.get? b=some o)(hn:H it=none)(hL:it≠X.env.locals)
  (h1:it∈X.ex\/X.s₀.heap.objs.size<=it) (h2:∀x c,X.env.cells.lookup x=some c->c≠it) (h3:∀p∈X.pn++zG,p.1≠it):Inv X zG Z H { s with heap:=h',toks:=t' }:=by
 have nit:∀b u,H b=some u->b≠it:=λb u e z=>by grind
 refine I.step (g':=s.gens) (d':=s.drawn) (ch:=[it]) (λb hb=>?_) (λb o _ _ hc e _=>k b o (λz=>hc (by simp [z])) e) (λb o _ _ hc e _=>⟨o.slots,k b o (λz=>hc (by simp [z])) e⟩) (λ_ _ _ _ n=>n)
  (λb o hc e=>⟨o,k b o (λz=>hc (by simp [z])) e⟩) (λ_ _ e=>e) (λ_ _ _ e=>e) (λb ps e=>⟨#[],by rw [e]; simp⟩) (λm hm=>?_) (λb u e=>?_) I.bare
 ·have e:b=it:=by simpa using hb
  subst e;exact⟨h1,hL,h2,h3⟩
 ·obtain⟨o,es,ep,ho,r⟩:=hm
  exact⟨o,es,ep,k _ o (fF hL) ho,r⟩
 ·refine(I.hok b u e).stay (λc v hc q=>k c v ?_ q) (λ_ q=>q) λ_ _ q=>q
  grind
theorem Inv.tok(I:Inv X zG Z H s)(t:Nat):Inv X zG Z H { s with toks:=t }:=I.un Un.refl I.hok
theorem Inv.kept{t':Nat}(I:Inv X zG Z H s)(k:∀b u,s.heap.get? b=some u->h'.get? b=some u):Inv X zG Z H { s with heap:=h',toks:=t' }:=I.un (Un.kept k) (I.hok.kept k)
theorem Inv.laid{a:Ch}{o:HO}{t':Nat}(I:Inv X zG Z H s)(k:∀b u,s.heap.get? b=some u->h'.get? b=some u)(hp:s.heap.objs.size<=a)(new:ObjOk X.prog X.w (BD H a o) h' a o) :
  Inv X zG Z (BD H a o) { s with heap:=h',toks:=t' }:=I.un (Un.laid k hp (I.hok.fresh hp)) (I.hok.laid k hp new)
theorem Inv.write{x e:Ch}{o:HO}{t':Nat}(I:Inv X zG Z H s)(mu:bO (H x))(he:e=x\/H e=some (.own x))(k:∀b u,b≠e->s.heap.get? b=some u->h'.get? b=some u)(heo:∃u,h'.get? e=some u)
  (new:ObjOk X.prog X.w (BD H x o) h' x o):Inv X zG Z (BD H x o) { s with heap:=h',toks:=t' }:=I.un (Un.write mu he k heo) (I.hok.write mu he k heo new)
theorem Inv.pins_of{pins':List (Ch×Obj)}(I:Inv X zG Z H s)(h:∀p∈pins',s.heap.get? p.1=some p.2/\H p.1=none/\p.1≠X.env.locals/\p.1∉X.fs/\∀v,p.2.data≠.cell v):Inv X pins' Z H s :=
 ⟨I.ok,I.os,I.bare,I.base,I.loc,I.cell,I.free,I.freeC,λp hp=>(d7.mp hp).elim (λz=>I.pin p (fV _ z)) (h p),I.hok,I.len⟩
theorem PR{N:List Str}(hN:N.Nodup){i j:Nat}{x:Str}(a:N[i]?=some x)(b:N[j]?=some x):i=j:=by
 obtain⟨h1,e1⟩:=Uf.mp a;obtain⟨h2,e2⟩:=Uf.mp b;exact(List.getElem_inj hN).mp (e1.trans e2.symm)
theorem Mf{M:Model}{A:eX}{E:Db->On->Prop}{i:Nat}{x:Str}{v:V}{u:Db}{Q:Unit->On->Prop}(I:Inv X zG Z H s)(hN:X.N.Nodup)(hi:X.N[i]?=some x)(hx:Loc X.env.scope x)(r:RelV v u)
  (h:∀s',Inv X zG (Z.set i (some v)) H s'->(∃a,ig a s.heap s'.heap/\(a=X.env.locals\/X.env.cells.lookup x=some a))->Q () s') (hf:autoParam (X.fn x=true\/X.env.scope.names.lookup x=some .local) zau0._auto_1):wpAny M A (storeName X.env x u) Q E s:=by
 obtain⟨m,hn,hl⟩:=id I.loc;have hcls:(X.env.scope.kind==.class||(X.env.scope.kind==.module&&X.env.locals != X.env.globals))=false:=by rw [I.ok.kind]; rfl
 have hiσ:i<Z.length:=by rw [I.len]; exact(Uf.mp hi).1
 have cne:=I.cne
 have tracked:∀{a:Ch} {h':dg},(∃o,s.heap.get? a=some o/\H a=none)->ig a s.heap h'->HOk X.prog X.w H h':=λ{a h'} ha hs b ob e=>by
  obtain⟨_,_,hfree⟩:=ha;refine(I.hok b ob e).stay (λc w' hc q=>(hs.2 c ?_).trans q) (λ_ q=>q) λ_ _ q=>q;rintro rfl
  rcases hc with rfl | hc
  ·rw [hfree] at e; cases e
  ·rw [hfree] at hc; cases hc
 rcases hx with hk | hk
 ·refine wpAny_storeName_local hk hn (λh' hn' hs=>?_) hcls
  obtain⟨oL,_,_,hoL,_⟩:=id hn;refine h _ ⟨I.ok,I.os,I.bare,⟨λb o e n hb hx=>?_,λb o e n hb hx=>?_,I.base.free,λb o e hx=>?_,I.base.tups,I.base.frzs,I.base.tbls⟩,⟨_,hn',λj y v' e1 e2 e3=>?_⟩,λy c e=>?_,I.free,I.freeC,λp hp=>?_,tracked ⟨oL,hoL,I.free⟩ hs,by simpa using I.len⟩ ⟨_,hs,.inl rfl⟩
  ·exact(hs.2 b (da (eI (XV e) I.ok.above))).trans (I.base.keep b o e n hb hx)
  ·obtain⟨sl,e1⟩:=I.base.slot b o e n hb hx
   exact⟨sl,(hs.2 b (da (eI (XV e) I.ok.above))).trans e1⟩
  ·obtain⟨o',e1⟩:=I.base.there b o e hx
   exact⟨o',(hs.2 b (da (eI (XV e) I.ok.above))).trans e1⟩
  ·by_cases hj:j=i
   ·subst hj
    rw [hi] at e1; cases e1
    rw [jw hiσ] at e2;cases e2;exact⟨u,r,.inl ⟨hk,by simp⟩⟩
   ·rw [ii (fF hj)] at e2
    obtain⟨u',r',q⟩:=hl j y v' e1 e2 e3;refine⟨u',r',?_⟩
    rcases q with ⟨k,e⟩ | ⟨k,c,e,z⟩
    ·refine .inl ⟨k,?_⟩
     have:y≠x:=λe=>hj (PR hN e1 (e▸hi))
     simp [this,e]
    ·exact .inr ⟨k,c,e,z.sameBut hs (cne y c e)⟩
  ·obtain⟨w',z⟩:=I.cell y c e
   exact⟨w',z.sameBut hs (cne y c e)⟩
  ·obtain⟨e,n,ne,nf,d⟩:=I.pin p hp
   exact⟨(hs.2 p.1 ne).trans e,n,ne,nf,d⟩
 ·have hfn:X.fn x=true:=by
   rcases hf with z | z
   ·exact z
   ·rw [z] at hk; cases hk
  obtain⟨c,hc⟩:=I.ok.has x (.inl hk);obtain⟨w',z⟩:=I.cell x c hc;refine wpAny_storeName_cell I.ok.kind hk hc z (λh' hc' hs=>?_);obtain⟨oc,hoc,hocd⟩:=id z;refine h { s with heap:=h' } ⟨I.ok,I.os,I.bare,⟨λb o e n hb hx=>?_,λb o e n hb hx=>?_,I.base.free,λb o e hx=>?_,I.base.tups,I.base.frzs,I.base.tbls⟩,⟨m,hn.sameBut hs (fF (cne x c hc)),λj y v' e1 e2 e3=>?_⟩,λy c' e=>?_,I.free,I.freeC,λp hp=>?_,tracked ⟨oc,hoc,I.freeC x c hc⟩ hs,by simpa using I.len⟩ ⟨c,hs,.inr hc⟩
  ·exact(hs.2 b (da (eI (XV e) (I.ok.cab x c hfn hc)))).trans (I.base.keep b o e n hb hx)
  ·obtain⟨sl,e1⟩:=I.base.slot b o e n hb hx
   exact⟨sl,(hs.2 b (da (eI (XV e) (I.ok.cab x c hfn hc)))).trans e1⟩
  ·obtain⟨o',e1⟩:=I.base.there b o e hx
   exact⟨o',(hs.2 b (da (eI (XV e) (I.ok.cab x c hfn hc)))).trans e1⟩
  ·by_cases hj:j=i
   ·subst hj
    rw [hi] at e1; cases e1
    rw [jw hiσ] at e2;cases e2;exact⟨u,r,.inr ⟨.inl hk,c,hc,hc'⟩⟩
   ·rw [ii (fF hj)] at e2
    obtain⟨u',r',q⟩:=hl j y v' e1 e2 e3;refine⟨u',r',?_⟩
    rcases q with q | ⟨k,c',e,z'⟩
    ·exact .inl q
    ·refine .inr ⟨k,c',e,z'.sameBut hs ?_⟩
     rintro rfl;exact hj (PR hN e1 (I.ok.inj _ _ _ e hc▸hi))
  ·by_cases hcc:c'=c
   ·subst hcc; exact⟨_,hc'⟩
   ·obtain⟨w2,z2⟩:=I.cell y c' e
    exact⟨w2,z2.sameBut hs hcc⟩
  ·obtain⟨e,n,ne,nf,d⟩:=I.pin p hp
   refine⟨(hs.2 p.1 ?_).trans e,n,ne,nf,d⟩;intro q;rw [q,hoc] at e;have q':oc=p.2:=dh e;exact d w' (by rw [← q']; exact hocd)
theorem Kc{M:Model}{A:eX}{E:Db->On->Prop}{i:Nat}{x:Str}{v:V}{u:Db}{Q:Unit->On->Prop}(I:Inv X zG Z H s)(hN:X.N.Nodup)(hi:X.N[i]?=some x)(hx:Loc X.env.scope x)(r:RelV v u)
  (h:∀s',Inv X zG (Z.set i (some v)) H s'->Q () s') (hf:autoParam (X.fn x=true\/X.env.scope.names.lookup x=some .local) zau0._auto_1):wpAny M A (storeName X.env x u) Q E s :=
 Mf I hN hi hx r (λs' I' _=>h s' I') hf
theorem Inv.call'{s':On}{ch:List Ch}(I:Inv X zG Z H s)(ho:s'.os=s.os)(u:Un (SI X.stack) ch H H' s.heap s'.heap)(hok:HOk X.prog X.w H' s'.heap)(hg:iN s'.gens)
  (hch:∀b∈ch,(b∈X.ex\/X.s₀.heap.objs.size<=b)/\b≠X.env.locals/\(∀x c,X.env.cells.lookup x=some c->c≠b)/\∀p∈X.pn++zG,p.1≠b):Inv X zG Z H' s':=by
 obtain⟨h',g',d',t',o'⟩:=s';subst ho;exact I.call u hok hg hch
end
noncomputable abbrev XK:=Db->Option Ch->Hp->Prop
noncomputable abbrev St:=List (Option V)
noncomputable abbrev VK:=V->Hp->Prop
noncomputable abbrev TE:=St->Hp->VK->Prop
noncomputable abbrev TT:=St->Hp->(Bool->Hp->Prop)->Prop
noncomputable abbrev TA:=St->Hp->(List V->Hp->Prop)->Prop
structure Ends where
 nx:St->Hp->Prop
 rt:VK
 bk:St->Hp->Prop:=λ_ _=>False
 ct:St->Hp->Prop:=λ_ _=>False
noncomputable abbrev TS:=Ends->St->Hp->Prop
noncomputable def EP(X:Cx)(zG:List (Ch×Obj))(Z:St)(Q:VK)(u:Db)(s':On):Prop:=∃v H',Inv X zG Z H' s'/\RelV v u/\Q v H'
noncomputable def TP(X:Cx)(zG:List (Ch×Obj))(Z:St)(Q:Bool->Hp->Prop)(b:Bool)(s':On):Prop:=∃H',Inv X zG Z H' s'/\Q b H'
noncomputable def AP(X:Cx)(zG:List (Ch×Obj))(Z:St)(Q:List V->Hp->Prop)(us:List Db)(s':On):Prop:=∃vs H',Inv X zG Z H' s'/\Vals vs us/\Q vs H'
noncomputable def SP(X:Cx)(zG:List (Ch×Obj))(D:Ends)(f:Flow)(s':On):Prop :=
 match f with
 | .next=>∃zZ H',Inv X zG zZ H' s'/\D.nx zZ H'
 | .brk=>∃zZ H',Inv X zG zZ H' s'/\D.bk zZ H'
 | .cont=>∃zZ H',Inv X zG zZ H' s'/\D.ct zZ H'
 | .ret u=>∃v zZ H',Inv X zG zZ H' s'/\RelV v u/\D.rt v H'
noncomputable def PE(X:Cx)(e:d6)(t:TE):Prop :=
 ∀(zG:List (Ch×Obj)) (s:On) (Z:St) (H:Hp) (Q:VK),Inv X zG Z H s->t Z H Q->wpAny (model X.prog X.w) X.A (eval e X.env) (EP X zG Z Q) X.xe s
noncomputable def PT(X:Cx)(e:d6)(t:TT):Prop :=
 ∀(zG:List (Ch×Obj)) (s:On) (Z:St) (H:Hp) (Q:Bool->Hp->Prop),Inv X zG Z H s->t Z H Q->wpAny (model X.prog X.w) X.A (isTrue e X.env (eval e X.env)) (TP X zG Z Q) X.xe s
noncomputable def PW(X:Cx)(e:d6)(t:TT):Prop :=
 ∀(whole:Sem Db) (zG:List (Ch×Obj)) (s:On) (Z:St) (H:Hp) (Q:Bool->Hp->Prop),Inv X zG Z H s->t Z H Q->wpAny (model X.prog X.w) X.A (isTrue e X.env whole) (TP X zG Z Q) X.xe s
theorem PW.pt{X:Cx}{e:d6}{t:TT}(h:PW X e t):PT X e t:=h _
noncomputable def PA(X:Cx)(es:List d6)(t:TA):Prop :=
 ∀(pos:Pos) (zG:List (Ch×Obj)) (s:On) (Z:St) (H:Hp) (Q:List V->Hp->Prop),Inv X zG Z H s->t Z H Q->wpAny (model X.prog X.w) X.A (spliced (backTo pos (starEach es X.env))) (AP X zG Z Q) X.xe s
noncomputable def PS(X:Cx)(st:eA)(t:TS):Prop :=
 ∀(zG:List (Ch×Obj)) (s:On) (Z:St) (H:Hp) (D:Ends),Inv X zG Z H s->t D Z H->wpAny (model X.prog X.w) X.A (exec st X.env) (SP X zG D) X.xe s
noncomputable def PSs(X:Cx)(st:List eA)(t:TS):Prop :=
 ∀(zG:List (Ch×Obj)) (s:On) (Z:St) (H:Hp) (D:Ends),Inv X zG Z H s->t D Z H->wpAny (model X.prog X.w) X.A (execs st X.env) (SP X zG D) X.xe s
theorem thn{α:Type}{t:Sem α}{Q Q':α->On->Prop}{M:Model}{A:eX}{E:Db->On->Prop}{s:On}(h:wpAny M A t Q E s)(hQ:∀a s,Q a s->Q' a s):wpAny M A t Q' E s:=e7 h hQ λ_ _ x=>x
section
variable {X:Cx}
noncomputable def B3(i:Nat):TE:=λZ H Q=>∃v,Z[i]?=some (some v)/\Q v H
noncomputable def tC(v:V):TE:=λ_ H Q=>Q v H
theorem Nw{i:Nat}{x:Str}{pos:Pos}(hN:X.N[i]?=some x)(hv:Zk X.env.scope x)(hd:autoParam ((x==("__debug__":Str))=false) zau1._auto_1)(hcd:autoParam ((x==("__classdict__":Str))=false) zau1._auto_1):PE X (.Name x pos) (B3 i):=by
 intro zG s Z H Q I h;obtain⟨v,e,h⟩:=h;obtain⟨m,hn,hl⟩:=I.loc;obtain⟨u,r,l⟩:=hl i x v hN e hv;have fin:EP X _ Z Q u s:=⟨v,H,I,r,h⟩
 rcases l with ⟨hk,hm⟩ | ⟨hk,c,hc,hcell⟩
 ·exact wpAny_Name (wpAny_loadName_local I.ok.kind hk hn hm fin) hd
 ·rcases hk with hk | hk
  ·exact wpAny_Name (wpAny_loadName_cell I.ok.kind hk hc hcell fin) hd
  ·exact wpAny_Name (wpAny_loadName_free I.ok.kind hk hc hcell fin hcd) hd
theorem A9{i j pos}:PE X (.Constant (.int i) j pos) (tC (.int i)):=λ_ _ _ H _ I h=>wpAny_Constant_int ⟨.int i,H,I.tok _,⟨_,rfl⟩,h⟩
theorem aZ{b j pos}:PE X (.Constant (.bool b) j pos) (tC (.bl b)):=λ_ _ _ H _ I h=>Constant_bool ⟨.bl b,H,I,rfl,h⟩
theorem Y2{j pos}:PE X (.Constant .none j pos) (tC .non):=λ_ _ _ H _ I h=>Constant_none ⟨.non,H,I,rfl,h⟩
theorem Yz{x j pos}:PE X (.Constant (.str x) j pos) (tC (.str x)):=λ_ _ _ H _ I h=>Calls.Constant_str ⟨.str x,H,I.tok _,⟨_,rfl⟩,h⟩
noncomputable def Gl(X:Cx)(x:Str):Prop:=X.env.kindOf x=some .globalImplicit
theorem R_{E:Db->On->Prop}{zG:List (Ch×Obj)}{s:On}{Z:St}{H:Hp}{x:Str}{u:Db}{pos:Pos}{Q:Db->On->Prop}(I:Inv X zG Z H s)(hg:Gl X x)(hm:X.mg x=some u)(h:Q u s)
  (hd:autoParam ((x==("__debug__":Str))=false) zau1._auto_1):wpAny (model X.prog X.w) X.A (eval (.Name x pos) X.env) Q E s :=
 jK I.ok.kind hg (Calls.loadGlobal_global (by rw [I.ok.glob]; exact I.mod.glob.keeps I.bk) hm h) hd
theorem C7{E:Db->On->Prop}{zG:List (Ch×Obj)}{s:On}{Z:St}{H:Hp}{x:Str}{u:Db}{pos:Pos}{Q:Db->On->Prop}(I:Inv X zG Z H s)(hg:Gl X x)(hm:X.mg x=none)(hv:bootBuiltins x=some u)(h:Q u s)
  (hn:autoParam (x ≠ "__name__") zau1._auto_1) (hd:autoParam ((x==("__debug__":Str))=false) zau1._auto_1):wpAny (model X.prog X.w) X.A (eval (.Name x pos) X.env) Q E s:=by
 obtain⟨mb,h1,h2⟩:=I.mod.blt;exact jK I.ok.kind hg (Calls.loadGlobal_builtin (by rw [I.ok.glob]; exact I.mod.glob.keeps I.bk) hm (by rw [I.ok.blt]; exact h1.keeps I.bk) ((h2 x hn).trans hv) h) hd
theorem W1{x:Str}{v:V}{u:Db}{pos:Pos}(hg:Gl X x)(hm:X.mg x=none)(hv:bootBuiltins x=some u)(r:RelV v u)(hn:autoParam (x ≠ "__name__") zau1._auto_1)(hd:autoParam ((x==("__debug__":Str))=false) zau1._auto_1):PE X (.Name x pos) (tC v) :=
 λ_ _ _ H _ I h=>C7 I hg hm hv ⟨v,H,I,r,h⟩ hn hd
variable {a b:Expr}{ta tb:TE}{pos:Pos}
noncomputable def tB(t:TE):TT:=λZ H Q=>t Z H λx H1=>∃c,x=.bl c/\Q c H1
theorem Ys{e:d6}{t:TE}(h:PE X e t)(he:autoParam (∀whole,isTrue e X.env whole=(do let v ← whole; standAt e.pos; holding [v] (truthy v))) zau2._auto_1):PT X e (tB t):=by
 intro zG s Z H Q I hw;refine isTrue_plain (thn (h _ s Z H _ I hw) λv s1 ⟨x,H1,I1,r1,q1⟩=>?_) (he _);obtain⟨d,rfl,q⟩:=q1;cases r1;exact fY ⟨H1,I1,q⟩
variable {tA tB':TT}{rest:List Expr}
noncomputable def aC(t u:TT):TT:=λZ H Q=>t Z H λc H1=>if c=true then u Z H1 Q else Q false H1
noncomputable def c9(t u:TT):TT:=λZ H Q=>t Z H λc H1=>if c=true then Q true H1 else u Z H1 Q
noncomputable def bw(t:TT):TT:=λZ H Q=>t Z H λc H1=>Q (!c) H1
theorem Rp(ha:PT X a tA):PW X (.BoolOp .And [a] pos) tA:=by
 intro wh zG s Z H Q I h;refine isTrue_and (thn (ha _ s Z H Q I h) λc s1 e=>?_);cases c with
 | true=>exact isTrue_and_nil e
 | false=>exact e
theorem Yr(ha:PT X a tA):PW X (.BoolOp .Or [a] pos) tA:=by
 intro wh zG s Z H Q I h;refine isTrue_or (thn (ha _ s Z H Q I h) λc s1 e=>?_);cases c with
 | false=>exact isTrue_or_nil e
 | true=>exact e
theorem U5(ha:PT X a tA)(hb:PW X (.BoolOp .And (b::rest) pos) tB'):PW X (.BoolOp .And (a::b::rest) pos) (aC tA tB'):=by
 intro wh zG s Z H Q I h;refine isTrue_and (thn (ha _ s Z H _ I h) λc s1 ⟨H1,I1,q1⟩=>?_);cases c with
 | true=>exact hb wh _ s1 Z H1 Q I1 q1
 | false=>assumption
theorem aX(ha:PT X a tA)(hb:PW X (.BoolOp .Or (b::rest) pos) tB'):PW X (.BoolOp .Or (a::b::rest) pos) (c9 tA tB'):=by
 intro wh zG s Z H Q I h;refine isTrue_or (thn (ha _ s Z H _ I h) λc s1 ⟨H1,I1,q1⟩=>?_);cases c with
 | true=>assumption
 | false=>exact hb wh _ s1 Z H1 Q I1 q1
theorem Yt(ha:PT X a tA):PT X (.UnaryOp .Not a pos) (bw tA):=λzG s Z H Q I h=>isTrue_not (ha _ s Z H _ I h)
noncomputable def aB(ta tb:TE):TE:=λZ H Q=>ta Z H λx H1=>∃c,x=.bl c/\if c=true then tb Z H1 Q else Q (.bl false) H1
noncomputable def Z7(ta:TE):TE:=λZ H Q=>ta Z H λx H1=>∃c,x=.bl c/\Q (.bl (!c)) H1
theorem Y4(ha:PE X a ta)(hb:PE X (.BoolOp .And (b::rest) pos) tb):PE X (.BoolOp .And (a::b::rest) pos) (aB ta tb):=by
 intro zG s Z H Q I h;refine BoolOp_and (thn (ha _ s Z H _ I h) λv s1 ⟨x,H1,I1,r1,q1⟩=>?_);obtain⟨c,rfl,q1⟩:=q1;cases r1;refine fY ?_;cases c with
 | true=>exact hb _ s1 Z H1 Q I1 q1
 | false=>exact⟨.bl _,H1,I1,rfl,q1⟩
theorem Y1(ha:PE X a ta):PE X (.UnaryOp .Not a pos) (Z7 ta):=by
 intro zG s Z H Q I h;refine UnaryOp_ (thn (ha _ s Z H _ I h) λv s1 ⟨x,H1,I1,r1,q1⟩=>?_);obtain⟨c,rfl,q1⟩:=q1;cases r1;exact not_of (fY ⟨.bl _,H1,I1,rfl,q1⟩)
noncomputable def c_(t:TT)(ta tb:TE):TE:=λZ H Q=>t Z H λc H1=>if c=true then ta Z H1 Q else tb Z H1 Q
theorem PB{c:d6}(hc:PT X c tA)(ha:PE X a ta)(hb:PE X b tb):PE X (.IfExp c a b pos) (c_ tA ta tb):=by
 intro zG s Z H Q I h;refine wpAny_IfExp (thn (hc _ s Z H _ I h) λd s1 ⟨H1,I1,q1⟩=>?_);cases d with
 | true=>exact ha _ s1 Z H1 Q I1 q1
 | false=>exact hb _ s1 Z H1 Q I1 q1
end
noncomputable def SqL(K:Frag)(H:Hp)(a:Ch)(xs:List V):Prop :=
 Rd H a (.lst xs) \/
  ∃(o:Obj) (its:Array Db) (n:Nat),K.lookup a=some o/\o.cls=.type "list"/\o.dict=none/\o.data=.seq its n/\its.size<=sizeLine/\Vals xs its.toList
noncomputable def SqT(K:Frag)(H:Hp)(a:Ch)(xs:List V):Prop :=
 Rd H a (.tup xs) \/
  ∃(o:Obj) (its:Array Db) (n:Nat),K.lookup a=some o/\o.cls=.type "tuple"/\o.data=.seq its n/\its.size<=sizeLine/\Vals xs its.toList
noncomputable def cT:Db->Option V
 | .none=>some .non
 | .bool b=>some (.bl b)
 | .int i _=>some (.int i)
 | .str x _=>some (.str x)
 | .bytes b _=>some (.byt b)
 | .float b _=>some (.flt b)
 | .ref a=>some (.ref a)
 | .type n=>some (.ty n)
 | _=>none
theorem RelV.abs{x:V}{u:Db}(r:RelV x u):cT u=some x:=by
 cases x with
 | non=>cases r; rfl
 | bl _=>cases r; rfl
 | int _=>obtain⟨t,rfl⟩:=r; rfl
 | str _=>obtain⟨t,rfl⟩:=r; rfl
 | byt _=>obtain⟨t,rfl⟩:=r; rfl
 | flt _=>obtain⟨t,rfl⟩:=r; rfl
 | ref _=>cases r; rfl
 | ty _=>cases r; rfl
theorem RelV.inj{x y:V}{u:Db}(r:RelV x u)(q:RelV y u):x=y:=dh (r.abs.symm.trans q.abs)
theorem Vals.inj:∀{xs ys:List V} {us:List Db},Vals xs us->Vals ys us->xs=ys
 | _,_,_,.nil,.nil=>rfl
 | _,_,_,.cons r t,.cons r' t'=>by rw [r.inj r',Vals.inj t t']
section
variable {X:Cx}{zG:List (Addr×Obj)}{Z:St}{H:Hp}{s:Shared}{a:Addr}{xs ys:List V}
theorem SqL.of{K:Frag}(h:H a=some (.lst xs)):SqL K H a xs:=.inl (.inl h)
theorem SqT.of{K:Frag}(h:H a=some (.tup xs)):SqT K H a xs:=.inl (.inl h)
theorem Inv.list(I:Inv X zG Z H s)(h:SqL X.K H a xs):∃its:List Db,Vals xs its/\PlainL s.heap a its.toArray/\xs.length<=sizeLine:=by
 rcases h with h | ⟨o,its,n,hk,hc,hd,hs,hz,r⟩
 ·obtain⟨z,its,n,r,e⟩:=h.ok I.hok
  exact⟨_,r,⟨_,n,e,rfl,rfl,rfl⟩,z⟩
 ·refine⟨_,r,⟨o,n,I.kIn a o hk,hc,hd,by omega⟩,?_⟩
  have e:=r.length
  grind
theorem Inv.tuple(I:Inv X zG Z H s)(h:SqT X.K H a xs):∃its:List Db,Vals xs its/\IsTup s.heap a its.toArray/\xs.length<=sizeLine:=by
 rcases h with h | ⟨o,its,n,hk,hc,hs,hz,r⟩
 ·obtain⟨z,its,r,p⟩:=h.ok I.hok
  exact⟨_,r,p.tup,z⟩
 ·refine⟨_,r,⟨o,I.kIn a o hk,hc,n,by omega⟩,?_⟩
  have e:=r.length
  grind
theorem Inv.list_inj(I:Inv X zG Z H s)(h:SqL X.K H a xs)(h':SqL X.K H a ys):xs=ys:=by
 obtain⟨its,r,⟨o,n,e,_,_,d⟩,_⟩:=I.list h;obtain⟨its',r',⟨o',n',e',_,_,d'⟩,_⟩:=I.list h'
 have:its=its':=by grind
 subst this;exact r.inj r'
theorem Inv.tuple_inj(I:Inv X zG Z H s)(h:SqT X.K H a xs)(h':SqT X.K H a ys):xs=ys:=by
 obtain⟨its,r,⟨o,e,_,n,d⟩,_⟩:=I.tuple h;obtain⟨its',r',⟨o',e',_,n',d'⟩,_⟩:=I.tuple h'
 have:its=its':=by grind
 subst this;exact r.inj r'
end
noncomputable abbrev Cx.wish(X:Cx)(E:Db->On->Prop):Cx:={ X with xe:=E }
noncomputable abbrev Cx.nox(X:Cx):Cx:=X.wish λ_ _=>False
theorem Cx.Ok.wish{X:Cx}(ok:X.Ok)(E:Db->On->Prop):(X.wish E).Ok :=
 ⟨ok.mod,ok.kind,ok.glob,ok.blt,ok.above,ok.inj,ok.has,ok.cab,ok.hd,ok.frames,ok.stk,ok.exf,ok.bs,ok.bsz,ok.noex,ok.exfs,ok.funs,ok.frf⟩
theorem Cx.Ok.unwish{X:Cx}{E:Db->On->Prop}(ok:(X.wish E).Ok):X.Ok :=
 ⟨ok.mod,ok.kind,ok.glob,ok.blt,ok.above,ok.inj,ok.has,ok.cab,ok.hd,ok.frames,ok.stk,ok.exf,ok.bs,ok.bsz,ok.noex,ok.exfs,ok.funs,ok.frf⟩
section
variable {X:Cx}{zG:List (Addr×Obj)}{Z:St}{H:Hp}{s:Shared}{E:Value->Shared->Prop}
theorem Inv.wish(I:Inv X zG Z H s)(E:Db->On->Prop):Inv (X.wish E) zG Z H s:=⟨I.ok.wish E,I.os,I.bare,I.base,I.loc,I.cell,I.free,I.freeC,I.pin,I.hok,I.len⟩
theorem Inv.unwish(I:Inv (X.wish E) zG Z H s):Inv X zG Z H s:=⟨I.ok.unwish,I.os,I.bare,I.base,I.loc,I.cell,I.free,I.freeC,I.pin,I.hok,I.len⟩
theorem SP.unwish{D:Ends}{f:Flow}{s':On}(h:SP (X.wish E) zG D f s'):SP X zG D f s':=by
 cases f with
 | next=>obtain⟨zZ,H',I,q⟩:=h; exact⟨_,H',I.unwish,q⟩
 | brk=>obtain⟨zZ,H',I,q⟩:=h; exact⟨_,H',I.unwish,q⟩
 | cont=>obtain⟨zZ,H',I,q⟩:=h; exact⟨_,H',I.unwish,q⟩
 | ret u=>obtain⟨v,zZ,H',I,r,q⟩:=h; exact⟨v,_,H',I.unwish,r,q⟩
theorem PSs.nox{st:List eA}{t:TS}(h:PSs X.nox st t):PSs X st t:=λzG s Z H D I hw =>
 e7 (h _ s Z H D (I.wish _) hw) (λ_ _ q=>q.unwish) λ_ _ z=>fq z
end
section
variable {X:Cx}{st:Stmt}{rest:List Stmt}{t u:TS}{e:Expr}{te:TE}{pos:Pos}
noncomputable def Xv:TS:=λD Z H=>D.nx Z H
noncomputable def S1(t u:TS):TS:=λD Z H=>t { D with nx:=u D } Z H
theorem Nq:PSs X [] Xv:=λ_ _ Z H _ I h=>ij ⟨Z,H,I,h⟩
theorem BV(h1:PS X st t)(h2:PSs X rest u):PSs X (st::rest) (S1 t u):=by
 intro zG s Z H D I h;refine wpAny_execs_cons (thn (h1 _ s Z H _ I h) λf s1 q=>?_);cases f with
 | next =>
  obtain⟨zZ,H',I',q⟩:=q;exact h2 _ s1 _ H' D I' q
 | ret v=>exact q
 | brk=>exact q
 | cont=>exact q
theorem Dr(h1:PS X st t):PSs X [st] t:=by
 intro zG s Z H D I h;refine wpAny_execs_cons (thn (h1 _ s Z H D I h) λf s1 q=>?_);cases f with
 | next=>exact ij q
 | ret v=>exact q
 | brk=>exact q
 | cont=>exact q
theorem Inv.quiet{zG:List (Ch×Obj)}{Z:St}{H:Hp}{s:On}(I:Inv X zG Z H s):interactive X.env=false:=by simp [interactive,I.ok.kind]
noncomputable def Z9(te:TE):TS:=λD Z H=>te Z H λ_ H1=>D.nx Z H1
theorem Ru(he:PE X e te)(hs:autoParam (swapsWith e none pos.line X.env=pure false) zau3._auto_1):PS X (.Expr e pos) (Z9 te):=λzG s Z H D I h=>wpAny_Expr_any (thn (he _ s Z H _ I h) λv s1 ⟨x,H1,I1,r1,q1⟩=>⟨Z,H1,I1,q1⟩) I.quiet hs
noncomputable def Wg(te:TE):TS:=λD Z H=>te Z H D.rt
theorem G2(he:PE X e te):PS X (.Return (some e) pos) (Wg te):=λzG s Z H D I h=>wpAny_Return_some (thn (he _ s Z H _ I h) λv s1 ⟨x,H1,I1,r1,q1⟩=>⟨x,Z,H1,I1,r1,q1⟩)
noncomputable def Z8(c:TT)(t u:TS):TS:=λD Z H=>c Z H λb H1=>if b=true then t D Z H1 else u D Z H1
theorem U_{c:d6}{a b:List eA}{tc:TT}(hc:PT X c tc)(ha:PSs X a t)(hb:PSs X b u):PS X (.If c a b pos) (Z8 tc t u):=by
 intro zG s Z H D I h;refine wpAny_If (thn (hc _ s Z H _ I h) λd s1 ⟨H1,I1,q1⟩=>?_);cases d with
 | true=>exact ha _ s1 Z H1 D I1 q1
 | false=>exact hb _ s1 Z H1 D I1 q1
end
noncomputable abbrev TG:=V->St->Hp->(St->Hp->Prop)->Prop
noncomputable abbrev Zn:=List V->St->Hp->(St->Hp->Prop)->Prop
noncomputable def PG(X:Cx)(target:d6)(t:TG):Prop :=
 ∀(zG:List (Ch×Obj)) (s:On) (Z:St) (H:Hp) (v:V) (u:Db) (Q:St->Hp->Prop),Inv X zG Z H s->RelV v u->t v Z H Q ->
  wpAny (model X.prog X.w) X.A (assign target X.env u) (λ_ s'=>∃zZ H',Inv X zG zZ H' s'/\Q zZ H') X.xe s
noncomputable def bM(X:Cx)(ts:List d6)(t:Zn):Prop :=
 ∀(zG:List (Ch×Obj)) (s:On) (Z:St) (H:Hp) (vs:List V) (us:List Db) (Q:St->Hp->Prop),Inv X zG Z H s->Vals vs us->t vs Z H Q ->
  wpAny (model X.prog X.w) X.A (assignInOrder ((assignEach ts X.env).map (·.2)) us) (λ_ s'=>∃zZ H',Inv X zG zZ H' s'/\Q zZ H') X.xe s
noncomputable abbrev Zm:=V->V->V->Hp->(Hp->Prop)->Prop
noncomputable def bK(X:Cx)(t:Zm):Prop :=
 ∀(zG:List (Ch×Obj)) (s:On) (Z:St) (H:Hp) (o i v:V) (ov iv u:Db) (Q:Hp->Prop),Inv X zG Z H s->RelV o ov->RelV i iv->RelV v u->t o i v H Q ->
  wpAny (model X.prog X.w) X.A (setItem ov iv u) (λ_ s'=>∃H',Inv X zG Z H' s'/\Q H') X.xe s
noncomputable abbrev ba:=V->V->Hp->VK->Prop
noncomputable def cw(X:Cx)(op:Operator)(t:ba):Prop :=
 ∀(zG:List (Ch×Obj)) (s:On) (Z:St) (H:Hp) (x y:V) (v u:Db) (Q:VK),Inv X zG Z H s->RelV x v->RelV y u->t x y H Q ->
  wpAny (model X.prog X.w) X.A (inplaceOp op v u) (EP X zG Z Q) X.xe s
section
variable {X:Cx}{pos:Pos}
noncomputable def JP(i:Nat):TG:=λv Z H Q=>Q (Z.set i (some v)) H
theorem HM{i:Nat}{x:Str}(hN:X.N.Nodup)(hi:X.N[i]?=some x)(hx:Loc X.env.scope x)(hf:autoParam (X.fn x=true\/X.env.scope.names.lookup x=some .local) zau0._auto_1):PG X (.Name x pos) (JP i):=λzG s Z H v u Q I r h=>wpAny_assign_Name (Kc I hN hi hx r (λs' I'=>⟨_,H,I',h⟩) hf)
noncomputable def cL:Zn:=λvs Z H Q=>vs=[]/\Q Z H
noncomputable def am(t:TG)(u:Zn):Zn:=λvs Z H Q=>∃v r,vs=v::r/\t v Z H λzZ H'=>u r zZ H' Q
theorem Ry:bM X [] cL:=by
 intro zG s Z H vs us Q I r h;obtain⟨e,h⟩:=h;exact assignInOrder_nil ⟨Z,H,I,h⟩
theorem HL{e:d6}{es:List d6}{t:TG}{u:Zn}(h1:PG X e t)(h2:bM X es u)
  (hs:autoParam ((assignEach (e::es) X.env).map (·.2)=assign e X.env::(assignEach es X.env).map (·.2)) zau3._auto_1):bM X (e::es) (am t u):=by
 intro zG s Z H vs us Q I r h;obtain⟨v,vr,e1,h⟩:=h;subst e1;cases r with
 | cons r rr =>
  rw [hs];exact assignInOrder_cons (thn (h1 _ s Z H _ _ _ I r h) λ_ s1 ⟨_,H1,I1,q1⟩=>h2 _ s1 _ H1 _ _ Q I1 rr q1)
noncomputable def cK(K:Frag)(n:Nat)(t:Zn):TG:=λv Z H Q=>∃a xs,v=.ref a/\SqT K H a xs/\xs.length=n/\t xs Z H Q
theorem VF{es:List d6}{k:Nat}{t:Zn}{n:Nat}(hc:X.calm=true)(h:bM X es t)
  (hn:autoParam ((assignEach es X.env).length=n) zau3._auto_1) (hst:autoParam ((assignEach es X.env).findIdx? (·.1)=none) zau3._auto_1):PG X (.Tuple es k pos) (cK X.K n t):=by
 intro zG s Z H v u Q I r hw;obtain⟨a,xs,e1,hq,hl,hw⟩:=hw;subst e1;cases r;obtain⟨its,rv,ht,hz⟩:=I.tuple hq;exact assign_Tuple_tuple (I.ok.hd hc) ht (by simp [hn,← hl,rv.length]) hst λh' hx=>h _ _ Z H xs _ Q (I.kept λb o e=>hx b o (da (XV e)) e) (by omega) hw
noncomputable def al(to ti:TE)(t:Zm):TG:=λv Z H Q=>to Z H λo H1=>ti Z H1 λi H2=>t o i v H2 λH3=>Q Z H3
theorem Qt{o i:d6}{to ti:TE}{t:Zm}(ho:PE X o to)(hi:PE X i ti)(hs:bK X t)
  (ha:autoParam (∀v,assign (.Subscript o i pos) X.env v=(do
   let ov ← holding [v] (eval o X.env)
   let iv ← holding [v,ov] (eval i X.env)
   standAt pos
   holding [v,ov,iv] (setItem ov iv v)
   release [v,ov,iv] [])) zau2._auto_1):PG X (.Subscript o i pos) (al to ti t):=λzG s Z H v u Q I r h=>Ev (fI (thn (ho _ s Z H _ I h) λov s1 ⟨x,H1,I1,r1,q1⟩=>Ev (fI (thn (hi _ s1 Z H1 _ I1 q1) λiv s2 ⟨y,H2,I2,r2,q2⟩=>Ev (wpAny_standAt (Ev (fI (thn (hs _ s2 Z H2 x y v ov iv u _ I2 r1 r2 r q2) λ_ s3 ⟨H3,I3,q3⟩=>wpAny_release ⟨Z,H3,I3,q3⟩))))))))
noncomputable def Ot(te:TE)(g:TG):TS:=λD Z H=>te Z H λx H1=>g x Z H1 D.nx
theorem K4{tg e:d6}{te:TE}{g:TG}(he:PE X e te)(hg:PG X tg g)(hs:autoParam (swapsWithSole [tg] e pos.line X.env=pure false) zau3._auto_1)(hw:autoParam (swappedStores [tg] e X.env=pure none) zau3._auto_1)
  (h1:autoParam ((assignEach [tg] X.env).map (·.2)=[assign tg X.env]) zau3._auto_1):PS X (.Assign [tg] e pos) (Ot te g):=by
 intro zG s Z H D I h;refine wpAny_Assign_stores (thn (he _ s Z H _ I h) λv s1 ⟨x,H1,I1,r1,q1⟩=>?_) hs hw;rw [h1];exact thn (hg _ s1 Z H1 x v _ I1 r1 q1) λ_ s2 q=>q
theorem Fb{i:Nat}{x:Str}{e:d6}{te:TE}{pos':Pos}(hN:X.N.Nodup)(hi:X.N[i]?=some x)(hx:Loc X.env.scope x)(he:PE X e te)(hs:autoParam (swapsWith e (some (.Name x pos')) pos.line X.env=pure false) zau3._auto_1)(hf:autoParam (X.fn x=true\/X.env.scope.names.lookup x=some .local) zau0._auto_1) :
  PS X (.Assign [.Name x pos'] e pos) (Ot te (JP i)):=λzG s Z H D I h=>wpAny_Assign_Name (thn (he _ s Z H _ I h) λv s1 ⟨y,H1,I1,r1,q1⟩=>Kc I1 hN hi hx r1 (λs2 I2=>⟨_,H1,I2,q1⟩) hf) hs
noncomputable def b8(i:Nat)(te:TE)(ti:ba):TS:=λD Z H=>∃x,Z[i]?=some (some x)/\te Z H λy H1=>ti x y H1 λz H2=>D.nx (Z.set i (some z)) H2
theorem Yu{i:Nat}{x:Str}{e:d6}{te:TE}{op:Operator}{ti:ba}{pos':Pos}(hN:X.N.Nodup)(hi:X.N[i]?=some x)(hx:Loc X.env.scope x)(he:PE X e te)(ho:cw X op ti)(hf:autoParam (X.fn x=true\/X.env.scope.names.lookup x=some .local) zau0._auto_1) :
  PS X (.AugAssign (.Name x pos') op e pos) (b8 i te ti):=by
 intro zG s Z H D I h;obtain⟨v,e1,h⟩:=h;obtain⟨m,hn,hl⟩:=I.loc;have vis:Zk X.env.scope x:=by rcases hx with k | k; exact .inl k; exact .inr (.inl k)
 obtain⟨u,r,l⟩:=hl i x v hi e1 vis;refine wpAny_AugAssign_Name ?_
 have go:wpAny (model X.prog X.w) X.A (eval e X.env) (λw s₂=>wpAny (model X.prog X.w) X.A (inplaceOp op u w) (λr s₃=>wpAny (model X.prog X.w) X.A (storeName X.env x r) (λ_=>SP X zG D .next) X.xe s₃) X.xe s₂) X.xe s:=by
  refine thn (he zG s Z H _ I h) λw s1 ⟨y,H1,I1,r1,q1⟩=>?_;refine thn (ho zG s1 Z H1 v y u w _ I1 r r1 q1) λz s2 ⟨zv,H2,I2,r2,q2⟩=>?_;exact Kc I2 hN hi hx r2 (λs3 I3=>⟨_,H2,I3,q2⟩) hf
 rcases l with ⟨hk,hm⟩ | ⟨hk,c,hc,hcell⟩
 ·exact wpAny_loadName_local I.ok.kind hk hn hm go
 ·rcases hk with hk | hk
  ·exact wpAny_loadName_cell I.ok.kind hk hc hcell go
  ·rcases hx with k | k
   ·have:X.env.scope.names.lookup x=some .free:=hk
    rw [k] at this; cases this
   ·have:X.env.scope.names.lookup x=some .free:=hk
    rw [k] at this; cases this
noncomputable def dC(f:Int->Int->Int):ba:=λx y H Q=>∃i j,x=.int i/\y=.int j/\Q (.int (f i j)) H
theorem ZO:cw X .Add (dC λi j=>i+j):=by
 intro zG s Z H x y v u Q I r1 r2 h;obtain⟨i,j,e1,e2,q⟩:=h;subst e1; subst e2
 obtain⟨t,rfl⟩:=r1;obtain⟨t',rfl⟩:=r2;exact iadd_int ⟨.int _,H,I.tok _,⟨_,rfl⟩,q⟩
end
section
variable {X:Cx}{pos:Pos}
noncomputable def Yb(c:TT)(tb:TS):TS:=λD Z H=>∃W:Nat->St->Hp->Prop,(∃m,W m Z H)/\∀m Z H,W m Z H ->
 c Z H λb H1=>if b=true then ∃N:St->Hp->Prop,(∀zZ H',N zZ H'->∃m',m'<m/\W m' zZ H')/\tb { D with nx:=N,ct:=N,bk:=D.nx } Z H1 else D.nx Z H1
theorem U9{c:d6}{body:List eA}{tc:TT}{tb:TS}(hp:jr (model X.prog X.w) X.A X.env X.xe)(hc:PT X c tc)(hb:PSs X body tb):PS X (.While c body [] pos) (Yb tc tb):=by
 intro zG s Z H D I h;obtain⟨W,⟨m0,w0⟩,turn⟩:=h;refine wpAny_While (codeAny_whileLoop (λn s'=>∃zZ H',Inv X zG zZ H' s'/\W n zZ H') ?_ m0 ⟨Z,H,I,w0⟩);rintro n s1 ⟨zK,H1,I1,w1⟩;refine gQ hp (thn (hc zG s1 zK H1 _ I1 (turn n zK H1 w1)) λb s2 ⟨H2,I2,q2⟩=>?_);cases b with
 | true =>
  obtain⟨N,hN,q2⟩:=q2;rw [if_pos rfl];refine gQ hp (thn (hb zG s2 zK H2 _ I2 q2) λf s3 q3=>?_);cases f with
  | next =>
   obtain⟨zV,H3,I3,n3⟩:=q3;obtain⟨m',hm,w3⟩:=hN zV H3 n3;exact⟨m',hm,zV,H3,I3,w3⟩
  | cont =>
   obtain⟨zV,H3,I3,n3⟩:=q3;obtain⟨m',hm,w3⟩:=hN zV H3 n3;exact⟨m',hm,zV,H3,I3,w3⟩
  | brk=>exact q3
  | ret v=>exact q3
 | false =>
  rw [if_neg dr];exact ij ⟨zK,H2,I2,q2⟩
end
structure It where
 go:Nat->Hp->Prop
 yld:Nat->Hp->V->Hp->Prop
 stop:Nat->Hp->Prop
noncomputable def IR(X:Cx)(zG:List (Ch×Obj))(H:Hp)(b:Ch):Prop :=
 H b=none/\b≠X.env.locals/\b∉X.fs/\(b∈X.ex\/X.s₀.heap.objs.size<=b)/\(∀x c,X.env.cells.lookup x=some c->c≠b)/\∀p∈X.pn++zG,p.1≠b
theorem Inv.fpOk{X:Cx}{zG:List (Ch×Obj)}{Z:St}{H H':Hp}{s:On}{b:Ch}(I:Inv X zG Z H s)(hb:s.heap.objs.size<=b)(hn:H' b=none):IR X zG H' b:=by
 refine⟨hn,gz (eI I.lt hb),I.nofs hb,.inr (dn I.sz hb),λx c e z=>?_,λp hp z=>?_⟩
 ·obtain⟨v,q⟩:=I.cell x c e
  exact absurd (eI q.lt (by rw [z]; exact hb)) (fH _)
 ·exact absurd (eI (XV (I.pin p hp).1) (by rw [z]; exact hb)) (fH _)
structure Turn (P:eB) (w:eG) (K:Frag) (tg:d6) (J:It) (fp:List Ch) (it:Ch) (tn:Nat->dg->Prop):Prop where
 mem:it∈fp
 obj:∀i h,tn i h->∀b∈fp,∃o,h.get? b=some o/\∀v,o.data≠.cell v
 keep:∀i h h',tn i h->(∀b∈fp,∀o,h.get? b=some o->h'.get? b=some o)->tn i h'
 item:∀(X:Cx),X.prog=P->X.w=w->X.K=K->X.calm=true->∀(i:Nat) (zG:List (Ch×Obj)) (s:On) (Z:St) (H:Hp) (E:Db->On->Prop),Inv X zG Z H s->(∀b∈fp,IR X zG H b)->tn i s.heap->J.go i H ->
  wpAny (model P w) X.A (pyNext (.ref it)) (λr s1=>∃u,r=some u /\
   wpAny (model P w) X.A (letOwnedTupleGo tg (.ref it) u) (λ_ s2=>∃x H',Inv X zG Z H' s2/\RelV x u/\J.yld i H x H'/\tn (i+1) s2.heap/\∀b∈fp,H' b=none) E s1) E s
 done:∀(X:Cx),X.prog=P->X.w=w->X.K=K->X.calm=true->∀(i:Nat) (zG:List (Ch×Obj)) (s:On) (Z:St) (H:Hp) (E:Db->On->Prop),Inv X zG Z H s->(∀b∈fp,IR X zG H b)->tn i s.heap->J.stop i H ->
  wpAny (model P w) X.A (pyNext (.ref it)) (λr s1=>r=none/\Inv X zG Z H s1) E s
 self:∀(A:eX) (i:Nat) (s:On) (Q:Db->On->Prop) (E:Db->On->Prop),tn i s.heap->Q (.ref it) s->wpAny (model P w) A (pyIter (.ref it)) Q E s
noncomputable abbrev TI:=St->Hp->(It->Hp->Prop)->Prop
noncomputable def cx(X:Cx)(zG:List (Ch×Obj))(Z:St)(tg:d6)(R:It->Hp->Prop)(itv:Db)(s2:On):Prop :=
 ∃(it:Ch) (fp:List Ch) (tn:Nat->dg->Prop) (J:It) (H':Hp),itv=.ref it/\Inv X zG Z H' s2/\Turn X.prog X.w X.K tg J fp it tn/\tn 0 s2.heap/\(∀b∈fp,IR X zG H' b)/\R J H'
noncomputable def PI(X:Cx)(tg iter:d6)(wi:TI):Prop :=
 ∀(zG:List (Ch×Obj)) (s:On) (Z:St) (H:Hp) (R:It->Hp->Prop),Inv X zG Z H s->wi Z H R ->
  wpAny (model X.prog X.w) X.A (eval iter X.env) (λv s1=>wpAny (model X.prog X.w) X.A (pyIter v) (cx X zG Z tg R) X.xe s1) X.xe s
theorem Pq {M : Model} {A : eX} {E : Db → On → Prop} {s : On} {tg : d6} {it : Ch} {u : Db} {o : Obj} {n : String} {vs : Array Db} {Q : Unit → On → Prop} (ho : s.heap.get? it = some o) (hc : o.cls = .type n) (hd : o.data = .fields vs)
    (hn : ["enumerate", "zip", "dict_itemiterator", "dict_reverseitemiterator", "odict_iterator", "itertools.zip_longest", "itertools.pairwise"].contains n = false) (hQ : Q () s) : wpAny M A (letOwnedTupleGo tg (.ref it) u) Q E s := by
  unfold letOwnedTupleGo
  cases tg <;> first
    | exact T0 hQ
    | (cases u <;> first
        | exact T0 hQ
        | (refine Ev (wpAny_load ho ?_)
           rw [hc, hd];show wpAny M A (if (["enumerate", "zip", "dict_itemiterator", "dict_reverseitemiterator", "odict_iterator", "itertools.zip_longest", "itertools.pairwise"].contains n && vs[0]? == some (rawInt _)) = true then _ else _) Q E s;rw [if_neg (by grind)];exact T0 hQ))
noncomputable def cb(K:Frag)(a:Ch):It :=
 ⟨λi H=>∃xs x,SqL K H a xs/\xs[i]?=some x,λi H x H'=>H'=H/\∀xs,SqL K H a xs->xs[i]?=some x,λi H=>∃xs,SqL K H a xs/\xs.length<=i⟩
noncomputable def Zq(K:Frag)(a:Ch):It :=
 ⟨λi H=>∃xs x,SqT K H a xs/\xs[i]?=some x,λi H x H'=>H'=H/\∀xs,SqT K H a xs->xs[i]?=some x,λi H=>∃xs,SqT K H a xs/\xs.length<=i⟩
noncomputable def bc(lo:Int)(n:Nat):It:=⟨λi _=>i<n,λi H x H'=>H'=H/\x=.int (lo+i),λi _=>n<=i⟩
theorem Sx{P:eB}{w:eG}{K:Frag}{tg:d6}(a it:Ch):Turn P w K tg (cb K a) [it] it (λi h=>h.IsListIter it a i) where
 mem:=by simp
 obj:=λi h st b hb=>by
  have e:b=it:=by simpa using hb
  subst e;obtain⟨o,e,c,d⟩:=st;exact⟨o,e,λv z=>by rw [d] at z; cases z⟩
 keep:=λi h h' st k=>st.at λo e=>k it (by simp) o e
 item:=by
  intro X hP hw hK hc i zG s Z H E I hf st hg;subst hP hw hK;obtain⟨xs,x,hq,hx⟩:=hg;obtain⟨its,rv,p,hz⟩:=I.list hq;obtain⟨u,hu,ru⟩:=rv.get hx;obtain⟨f0,f1,f2,f3,f4,f5⟩:=hf it (by simp);refine wpAny_pyNext_list_item st p.isList (x:=u) (by simpa using hu) λh' st' sb=>?_;have I1:Inv X zG Z H { s with heap:=h' }:=I.turned (t':=s.toks) (λb o hb e=>(sb.2 b hb).trans e) f0 f1 f3 f4 f5;obtain⟨o,e,c,d⟩:=id st';exact⟨u,rfl,Pq (s:={ s with heap:=h' }) e c d (by decide) ⟨x,H,I1,ru,⟨rfl,λys hy=>by rw [I.list_inj hy hq]; exact hx⟩,st',λb hb=>(hf b hb).1⟩⟩
 done:=by
  intro X hP hw hK hc i zG s Z H E I hf st hg;subst hP hw hK;obtain⟨xs,hq,hx⟩:=hg;obtain⟨its,rv,p,hz⟩:=I.list hq;obtain⟨f0,f1,f2,f3,f4,f5⟩:=hf it (by simp);have hl:=rv.length;exact wpAny_pyNext_list_end (I.ok.hd hc) st p.isList (by simp; omega) λh' eb=>⟨rfl,I.turned (t':=s.toks) (λb o hb e=>eb b o hb e) f0 f1 f3 f4 f5⟩
 self:=λ_ _ _ _ _ st h=>wpAny_pyIter_listiter st h
theorem KW{P:eB}{w:eG}{K:Frag}{tg:d6}(a it:Ch):Turn P w K tg (Zq K a) [it] it (λi h=>h.IsTupleIter it a i) where
 mem:=by simp
 obj:=λi h st b hb=>by
  have e:b=it:=by simpa using hb
  subst e;obtain⟨o,e,c,d⟩:=st;exact⟨o,e,λv z=>by rw [d] at z; cases z⟩
 keep:=λi h h' st k=>st.at λo e=>k it (by simp) o e
 item:=by
  intro X hP hw hK hc i zG s Z H E I hf st hg;subst hP hw hK;obtain⟨xs,x,hq,hx⟩:=hg;obtain⟨its,rv,p,hz⟩:=I.tuple hq;obtain⟨u,hu,ru⟩:=rv.get hx;obtain⟨f0,f1,f2,f3,f4,f5⟩:=hf it (by simp);refine wpAny_pyNext_tuple_item st (show s.heap.IsTuple a its.toArray from p) (x:=u) (by simpa using hu) λh' st' sb=>?_;have I1:Inv X zG Z H { s with heap:=h' }:=I.turned (t':=s.toks) (λb o hb e=>(sb.2 b hb).trans e) f0 f1 f3 f4 f5;obtain⟨o,e,c,d⟩:=id st';exact⟨u,rfl,Pq (s:={ s with heap:=h' }) e c d (by decide) ⟨x,H,I1,ru,⟨rfl,λys hy=>by rw [I.tuple_inj hy hq]; exact hx⟩,st',λb hb=>(hf b hb).1⟩⟩
 done:=by
  intro X hP hw hK hc i zG s Z H E I hf st hg;subst hP hw hK;obtain⟨xs,hq,hx⟩:=hg;obtain⟨its,rv,p,hz⟩:=I.tuple hq;obtain⟨f0,f1,f2,f3,f4,f5⟩:=hf it (by simp);have hl:=rv.length;exact wpAny_pyNext_tuple_end (I.ok.hd hc) st (show s.heap.IsTuple a its.toArray from p) (by simp; omega) λh' eb=>⟨rfl,I.turned (t':=s.toks) (λb o hb e=>eb b o hb e) f0 f1 f3 f4 f5⟩
 self:=λ_ _ _ _ _ st h=>wpAny_pyIter_tupleiter st h
theorem QR{P:eB}{w:eG}{K:Frag}{tg:d6}(it:Ch)(lo:Int)(n:Nat):Turn P w K tg (bc lo n) [it] it (λi h=>IsRangeIter h it (lo+(i:Nat)*1) ((n:Int) - (i:Nat)) 1) where
 mem:=by simp
 obj:=λi h st b hb=>by
  simp_all
 keep:=λi h h' st k=>k it (by simp) _ st
 item:=by
  intro X hP hw hK hc i zG s Z H E I hf st hg;subst hP hw hK;obtain⟨f0,f1,f2,f3,f4,f5⟩:=hf it (by simp);have W:=Walks.range (prog:=X.prog) (w:=X.w) (I.ok.hd hc) it lo 1 n;refine W.item i s _ _ hg st λv h' tk hv st' kk=>?_;obtain⟨t,rfl⟩:=hv;have I1:Inv X zG Z H { s with heap:=h',toks:=tk }:=I.turned (λb o hb e=>kk b o (by simpa using hb) e) f0 f1 f3 f4 f5;refine⟨_,rfl,Pq (s:={ s with heap:=h',toks:=tk }) (n := "range_iterator") st' rfl rfl (by decide) ⟨.int (lo+i),H,I1,⟨t,?_⟩,⟨rfl,rfl⟩,st',λb hb=>(hf b hb).1⟩⟩;rw [Int.mul_one]
 done:=by
  intro X hP hw hK hc i zG s Z H E I hf st hg;subst hP hw hK;obtain⟨f0,f1,f2,f3,f4,f5⟩:=hf it (by simp);exact wpAny_pyNext_range_end (I.ok.hd hc) st (by have:n<=i:=hg; omega) λh' eb=>⟨rfl,I.turned (t':=s.toks) (λb o hb e=>eb b o hb e) f0 f1 f3 f4 f5⟩
 self:=λ_ _ _ _ _ st h=>wpAny_pyIter_rangeiter st h
section
variable {X:Cx}{tg:Expr}
noncomputable def cH(K:Frag)(tl:TE):TI:=λZ H R=>tl Z H λx H1=>∃a,x=.ref a/\(∃xs,SqT K H1 a xs)/\R (Zq K a) H1
theorem VD{l:d6}{tl:TE}(hl:PE X l tl):PI X tg l (cH X.K tl):=by
 intro zG s Z H R I h;refine thn (hl _ s Z H _ I h) λv s1 ⟨x,H1,I1,r1,q1⟩=>?_;obtain⟨a,e,⟨xs,hq⟩,q⟩:=q1;subst e;cases r1;obtain⟨its,rv,p,hz⟩:=I1.tuple hq;refine fS (p) ?_;refine⟨_,_,_,_,H1,rfl,I1.kept λb o e=>FM _ e,KW a _,⟨_,UF _ rfl,rfl,rfl⟩,λb hb=>?_,q⟩;have e:b=s1.heap.objs.size:=by grind
 subst e;exact I1.fpOk (Op _) (I1.hok.fresh (Op _))
theorem Uv{zG:List (Ch×Obj)}{Z:St}{H:Hp}{s:On}{R:It->Hp->Prop}{E:Db->On->Prop}{lo hi:Int}{t u v:Tok}{tk:Nat}(I:Inv X zG Z H s)(h1:-(2 ^ 62)<=lo)(h2:lo<2 ^ 62)(h3:-(2 ^ 62)<=hi)(h4:hi<2 ^ 62)
  (q:R (bc lo (hi - lo).toNat) H):wpAny (model X.prog X.w) X.A (pyIter (.ref s.heap.objs.size)) (cx X zG Z tg R) E { s with heap:=s.heap.push { cls:=.type "range",data:=.fields #[.int lo t,.int hi u,.int 1 v] },toks:=tk }:=by
 refine wpAny_pyIter_range (IsRange.new ..) (small_one h1 h2 h3 h4) ?_;have I1:Inv X zG Z H { s with heap:=s.heap.push { cls:=.type "range",data:=.fields #[.int lo t,.int hi u,.int 1 v] },toks:=tk }:=I.kept λb o e=>FM _ e
 refine⟨(s.heap.push { cls:=.type "range",data:=.fields #[.int lo t,.int hi u,.int 1 v] }).objs.size,[(s.heap.push { cls:=.type "range",data:=.fields #[.int lo t,.int hi u,.int 1 v] }).objs.size],_,_,H,rfl,
  I1.kept (t':=tk) λb o e=>FM _ e,QR _ lo (hi - lo).toNat,?_,λb hb=>?_,q⟩
 ·have e1:lo+((0:Nat):Int)*1=lo:=by simp
  have e2:(((hi - lo).toNat:Nat):Int) - ((0:Nat):Int)=Builtin.Range.rangeSize lo hi 1:=by rw [rangeSize_one]; grind
  show IsRangeIter _ _ (lo+((0:Nat):Int)*1) ((((hi - lo).toNat:Nat):Int) - ((0:Nat):Int)) 1;rw [e1,e2];exact UF _ rfl
 ·have e:b=(s.heap.push { cls:=.type "range",data:=.fields #[.int lo t,.int hi u,.int 1 v] }).objs.size:=by simpa using hb
  subst e;exact I1.fpOk (Op _) (I1.hok.fresh (Op _))
noncomputable def aj(ta:TA):TI:=λZ H R=>ta Z H λvs H1=>∃j:Int,vs=[.int j]/\-(2 ^ 62)<=j/\j<2 ^ 62/\R (bc 0 j.toNat) H1
theorem TL{a:d6}{ta:TA}{p pos:Pos}(hg:Gl X "range")(hm:X.mg "range"=none)(ha:PA X [a] ta)(hs:autoParam (starEach [a] X.env=[(false,eval a X.env)]) zau3._auto_1):PI X tg (.Call (.Name "range" p) [a] [] pos) (aj ta):=by
 intro zG s Z H R I h;refine Call_ (C7 I hg hm boot_range (ej (thn (ha _ _ s Z H _ I h) λus s1 ⟨vs,H1,I1,r1,q1⟩=>?_) hs rfl));obtain⟨j,e,q1,q2,q⟩:=q1;subst e;cases r1 with
 | cons r rr =>
  cases rr;obtain⟨t,rfl⟩:=r;exact call_range_1 (Uv I1 (by omega) (by omega) q1 q2 (by simpa using q))
noncomputable def b7(wi:TI)(g:TG)(tb:TS):TS:=λD Z H=>wi Z H λJ H1=>∃W:Nat->Nat->St->Hp->Prop,(∃m,W 0 m Z H1)/\∀i m Z H,W i m Z H ->
 (J.stop i H/\D.nx Z H)\/(J.go i H/\∃N:St->Hp->Prop,(∀zZ H',N zZ H'->∃m',m'<m/\W (i+1) m' zZ H')/\∀x H',J.yld i H x H'->g x Z H' λzN H2=>tb { D with nx:=N,ct:=N,bk:=D.nx } zN H2)
noncomputable def K6(fp:List Ch)(h:dg):List (Ch×Obj):=fp.filterMap λb=>(h.get? b).map λo=>(b,o)
theorem Ex{fp:List Ch}{h:dg}{b:Ch}{o:Obj}(hb:b∈fp)(e:h.get? b=some o):(b,o)∈K6 fp h:=List.mem_filterMap.mpr ⟨b,hb,by rw [e]; rfl⟩
theorem Ta{fp:List Ch}{h:dg}{p:Ch×Obj}(hp:p∈K6 fp h):p.1∈fp/\h.get? p.1=some p.2:=by
 obtain⟨b,hb,e⟩:=List.mem_filterMap.mp hp;cases q:h.get? b with
 | none=>grind
 | some o =>
  rw [q] at e;have e':=dh e;subst e'
  simp_all
theorem Inv.pinned{zG:List (Ch×Obj)}{Z:St}{H:Hp}{s:On}{fp:List Ch}(I:Inv X zG Z H s)(hf:∀b∈fp,IR X zG H b)(ho:∀b∈fp,∃o,s.heap.get? b=some o/\∀v,o.data≠.cell v):Inv X (zG++K6 fp s.heap) Z H s :=
 I.pins_of λp hp=>(d7.mp hp).elim (λz=>I.pin p (df _ z)) λz=>by
  obtain⟨hb,e⟩:=Ta z;obtain⟨f0,f1,f2,_⟩:=hf _ hb;obtain⟨o,e',d⟩:=ho _ hb
  grind
theorem Inv.unpinned{zG pl:List (Ch×Obj)}{Z:St}{H:Hp}{s:On}(I:Inv X (zG++pl) Z H s):Inv X zG Z H s:=I.pins_of λp hp=>I.pin p (df _ (fV _ hp))
theorem Nu{iter:d6}{body:List eA}{wi:TI}{g:TG}{tb:TS}{pos:Pos}(hp:jr (model X.prog X.w) X.A X.env X.xe)(hc:X.calm=true)(hi:PI X tg iter wi)(hg:PG X tg g)(hb:PSs X body tb)
  (hs:autoParam (∀x,foldedSetIterable iter X.env x=pure x) zau2._auto_1):PS X (.For tg iter body [] pos) (b7 wi g tb):=by
 intro zG s Z H D I h;refine wpAny_For (thn (hi zG s Z H _ I h) λv s1 h1=>thn h1 λitv s2 h2=>?_) hs;obtain⟨it,fp,tn,J,H2,e,I2,T,st2,f2,W,⟨m0,w0⟩,turn⟩:=h2;subst e;have stat:∀{H':Hp},(∀b∈fp,H' b=none)->∀b∈fp,IR X zG H' b:=λhn b hb=>⟨hn b hb,(f2 b hb).2⟩;refine codeAny_forLoop_any (λn s'=>∃i zZ H',Inv X zG zZ H' s'/\tn i s'.heap/\(∀b∈fp,H' b=none)/\W i n zZ H') ?_ m0 ⟨0,Z,H2,I2,st2,λb hb=>(f2 b hb).1,w0⟩;rintro n s3 ⟨i,zV,H3,I3,st3,fr3,w3⟩
 rcases turn i n zV H3 w3 with ⟨stop,qn⟩ | ⟨go,N,hN,step⟩
 ·refine gQ hp (thn (T.done X rfl rfl rfl hc i zG s3 zV H3 X.xe I3 (stat fr3) st3 stop) λr s4 ⟨hr,I4⟩=>?_)
  subst hr;exact ij ⟨zV,H3,I4,qn⟩
 ·refine gQ hp (thn (T.item X rfl rfl rfl hc i zG s3 zV H3 X.xe I3 (stat fr3) st3 go) λr s4 ⟨u,hr,h4⟩=>?_)
  subst hr;refine gQ hp (thn h4 λ_ s5 ⟨x,H5,I5,r5,y5,st5,fr5⟩=>?_);have I5':=I5.pinned (stat fr5) (T.obj _ _ st5);refine gQ hp (thn (hg _ s5 zV H5 x u _ I5' r5 (step x H5 y5)) λ_ s6 ⟨σ6,H6,I6,q6⟩=>?_);refine gQ hp (thn (hb _ s6 σ6 H6 _ I6 q6) λf s7 q7=>?_)
  have again:∀{zM:St} {H7:Hp},Inv X (zG++K6 fp s5.heap) zM H7 s7->N zM H7->∃m,m<n/\∃i zZ H',Inv X zG zZ H' s7/\tn i s7.heap/\(∀b∈fp,H' b=none)/\W i m zZ H':=λ{zM H7} I7 n7=>by
   obtain⟨m',hm,w7⟩:=hN zM H7 n7;refine⟨m',hm,i+1,zM,H7,I7.unpinned,T.keep _ _ _ st5 λb hb o e=>(I7.pin (b,o) (df _ (df _ (Ex hb e)))).1,λb hb=>?_,w7⟩;obtain⟨o,e,d⟩:=T.obj _ _ st5 b hb;exact(I7.pin (b,o) (df _ (df _ (Ex hb e)))).2.1
  cases f with
  | next=>obtain⟨zM,H7,I7,n7⟩:=q7; exact again I7 n7
  | cont=>obtain⟨zM,H7,I7,n7⟩:=q7; exact again I7 n7
  | brk=>obtain⟨zM,H7,I7,q7⟩:=q7; exact⟨zM,H7,I7.unpinned,q7⟩
  | ret v=>obtain⟨x7,zM,H7,I7,r7,q7⟩:=q7; exact⟨x7,zM,H7,I7.unpinned,r7,q7⟩
end
theorem SJ{K:Frag}{a:Ch}{xs:List V}{g:TG}{tb:TS}{D:Ends}{Z:St}{H:Hp}(Pv:Nat->St->Hp->Prop)(h0:Pv 0 Z H)(hl:∀i Z H,i<=xs.length->Pv i Z H->SqT K H a xs)
  (hs:∀i x Z H,xs[i]?=some x->Pv i Z H->g x Z H λzN H2=>tb { D with nx:=Pv (i+1),ct:=Pv (i+1),bk:=D.nx } zN H2) (hd:∀Z H,Pv xs.length Z H->D.nx Z H) :
  ∃W:Nat->Nat->St->Hp->Prop,(∃m,W 0 m Z H)/\∀i m Z H,W i m Z H ->
   ((Zq K a).stop i H/\D.nx Z H)\/((Zq K a).go i H/\∃N:St->Hp->Prop,(∀zZ H',N zZ H'->∃m',m'<m/\W (i+1) m' zZ H')/\∀x H',(Zq K a).yld i H x H'->g x Z H' λzN H2=>tb { D with nx:=N,ct:=N,bk:=D.nx } zN H2):=by
 refine⟨λi m Z H=>m=xs.length - i/\i<=xs.length/\Pv i Z H,⟨xs.length,by simp,dY _,h0⟩,?_⟩;rintro i m Z H ⟨rfl,hi,p⟩;have q:=hl i Z H hi p
 by_cases hlt:i<xs.length
 ·refine .inr ⟨⟨xs,xs[i],q,by simp⟩,_,λzZ H' p'=>⟨_,by omega,rfl,hlt,p'⟩,λx H' y=>?_⟩
  obtain⟨e,y⟩:=y;subst e;exact hs i x Z _ (y xs q) p
 ·have e:i=xs.length:=by omega
  subst e;exact .inl ⟨⟨xs,q,Op _⟩,hd Z H p⟩
noncomputable abbrev R2:=V->V->Hp->VK->Prop
noncomputable def OpR(X:Cx)(f:Db->Db->Sem Db)(r:R2):Prop :=
 ∀(zG:List (Ch×Obj)) (s:On) (Z:St) (H:Hp) (x y:V) (v u:Db) (Q:VK),Inv X zG Z H s->RelV x v->RelV y u->r x y H Q ->
  wpAny (model X.prog X.w) X.A (f v u) (EP X zG Z Q) X.xe s
noncomputable def cU(X:Cx)(f:Db->Sem Db)(r:V->Hp->VK->Prop):Prop :=
 ∀(zG:List (Ch×Obj)) (s:On) (Z:St) (H:Hp) (x:V) (v:Db) (Q:VK),Inv X zG Z H s->RelV x v->r x H Q ->
  wpAny (model X.prog X.w) X.A (f v) (EP X zG Z Q) X.xe s
noncomputable def DC(X:Cx)(f:Db)(r:List V->Hp->VK->Prop):Prop :=
 ∀(zG:List (Ch×Obj)) (s:On) (Z:St) (H:Hp) (xs:List V) (us:List Db) (Q:VK),Inv X zG Z H s->Vals xs us->r xs H Q ->
  wpAny (model X.prog X.w) X.A (call f us) (EP X zG Z Q) X.xe s
noncomputable def cV(X:Cx)(r:V->Hp->(Bool->Hp->Prop)->Prop):Prop :=
 ∀(zG:List (Ch×Obj)) (s:On) (Z:St) (H:Hp) (x:V) (v:Db) (Q:Bool->Hp->Prop),Inv X zG Z H s->RelV x v->r x H Q ->
  wpAny (model X.prog X.w) X.A (truthy v) (TP X zG Z Q) X.xe s
noncomputable def EH(r:R2)(ta tb:TE):TE:=λZ H Q=>ta Z H λx H1=>tb Z H1 λy H2=>r x y H2 Q
noncomputable def c7(r:V->Hp->VK->Prop)(ta:TE):TE:=λZ H Q=>ta Z H λx H1=>r x H1 Q
noncomputable def rI(C:Int->Int->Prop)(g:Int->Int->V):R2:=λx y H Q=>∃i j,x=.int i/\y=.int j/\C i j/\Q (g i j) H
noncomputable def JK(g:Int->Int->V):R2:=λx y H Q=>∃i j,x=.int i/\y=.int j/\Q (g i j) H
noncomputable def rU(g:Int->V):V->Hp->VK->Prop:=λx H Q=>∃i,x=.int i/\Q (g i) H
section
variable {X:Cx}{a b:Expr}{ta tb:TE}{pos:Pos}
theorem Zf(ha:PE X a ta)(hb:PE X b tb){zG:List (Ch×Obj)}{s:On}{Z:St}{H:Hp}{R:V->V->Hp->Prop}(I:Inv X zG Z H s)
  (h:ta Z H λx H1=>tb Z H1 λy H2=>R x y H2) {Q:Db->On->Prop} {f:Db->Db->Sem Db}
  (hf:∀v u s2 x y H2,Inv X zG Z H2 s2->RelV x v->RelV y u->R x y H2->wpAny (model X.prog X.w) X.A (f v u) Q X.xe s2) :
  wpAny (model X.prog X.w) X.A (eval a X.env) (λv s₁=>wpAny (model X.prog X.w) X.A (eval b X.env) (λu s₂=>wpAny (model X.prog X.w) X.A (f v u) Q X.xe s₂) X.xe s₁) X.xe s:=thn (ha _ s Z H _ I h) λv s1 ⟨x,H1,I1,r1,q1⟩=>thn (hb _ s1 Z H1 _ I1 q1) λu s2 ⟨y,H2,I2,r2,q2⟩=>hf v u s2 x y H2 I2 r1 r2 q2
theorem B4{op:Operator}{r:R2}(ho:OpR X (binaryOp op) r)(ha:PE X a ta)(hb:PE X b tb):PE X (.BinOp a op b pos) (EH r ta tb):=λzG s Z H Q I h=>wpAny_BinOp (Zf ha hb I h λv u s2 x y H2 I2 rx ry q=>ho _ s2 Z H2 x y v u Q I2 rx ry q)
theorem aY{op:UnaryOp}{r:V->Hp->VK->Prop}(ho:cU X (unaryOp op) r)(ha:PE X a ta):PE X (.UnaryOp op a pos) (c7 r ta):=λzG s Z H Q I h=>UnaryOp_ (thn (ha _ s Z H _ I h) λv s1 ⟨x,H1,I1,r1,q1⟩=>ho _ s1 Z H1 x v Q I1 r1 q1)
theorem bU{f:Db->Db->Sem Db}{C:Int->Int->Prop}{g:Int->Int->Int}
  (rule:∀(i j:Int) (t u:Tok) (s:On) (Q:Db->On->Prop) (E:Db->On->Prop),C i j->Q (.int (g i j) s.toks) { s with toks:=s.toks+1 }->wpAny (model X.prog X.w) X.A (f (.int i t) (.int j u)) Q E s) :
  OpR X f (rI C λi j=>.int (g i j)):=by
 intro zG s Z H x y v u Q I rx ry h;obtain⟨i,j,rfl,rfl,hc,q⟩:=h;obtain⟨t,rfl⟩:=rx;obtain⟨t',rfl⟩:=ry;exact rule i j t t' s _ _ hc ⟨.int _,H,I.tok _,⟨_,rfl⟩,q⟩
theorem ac{f:Db->Db->Sem Db}{g:Int->Int->Int}
  (rule:∀(i j:Int) (t u:Tok) (s:On) (Q:Db->On->Prop) (E:Db->On->Prop),Q (.int (g i j) s.toks) { s with toks:=s.toks+1 }->wpAny (model X.prog X.w) X.A (f (.int i t) (.int j u)) Q E s) :
  OpR X f (JK λi j=>.int (g i j)):=by
 intro zG s Z H x y v u Q I rx ry h;obtain⟨i,j,rfl,rfl,q⟩:=h;obtain⟨t,rfl⟩:=rx;obtain⟨t',rfl⟩:=ry;exact rule i j t t' s _ _ ⟨.int _,H,I.tok _,⟨_,rfl⟩,q⟩
theorem W5{f:Db->Db->Sem Db}{g:Int->Int->Bool}
  (rule:∀(i j:Int) (t u:Tok) (s:On) (Q:Db->On->Prop) (E:Db->On->Prop),Q (.bool (g i j)) s->wpAny (model X.prog X.w) X.A (f (.int i t) (.int j u)) Q E s) :
  OpR X f (JK λi j=>.bl (g i j)):=by
 intro zG s Z H x y v u Q I rx ry h;obtain⟨i,j,rfl,rfl,q⟩:=h;obtain⟨t,rfl⟩:=rx;obtain⟨t',rfl⟩:=ry;exact rule i j t t' s _ _ ⟨.bl _,H,I,rfl,q⟩
noncomputable def UK(i j:Int):Prop:=0<j/\j<1073741824
noncomputable def RX(i j:Int):Prop:=0<=j/\j<=1000000/\i.natAbs<2 ^ 64
noncomputable def CMul(i j:Int):Prop:=(-(2 ^ 64)<i/\i<2 ^ 64)\/(-(2 ^ 64)<j/\j<2 ^ 64)
theorem CMul.ok{i j:Int}(h:CMul i j):IntMulOk i j:=by
 rcases h with ⟨h1,h2⟩ | ⟨h1,h2⟩
 ·exact .of_left (intBits_le_64 h1 h2)
 ·exact .of_right (intBits_le_64 h1 h2)
theorem op_add:OpR X (binaryOp .Add) (JK λi j=>.int (i+j)):=ac λ_ _ _ _ _ _ _ q=>add_int q
theorem op_sub:OpR X (binaryOp .Sub) (JK λi j=>.int (i - j)):=ac λ_ _ _ _ _ _ _ q=>sub_int q
theorem op_mul:OpR X (binaryOp .Mult) (rI CMul λi j=>.int (i*j)):=bU λ_ _ _ _ _ _ _ hc q=>mul_int q hc.ok
theorem HR:OpR X (binaryOp .FloorDiv) (rI UK λi j=>.int (i / j)):=bU λi j _ _ _ _ _ hc q=>by
 have h1:=hc.1;have h2:=hc.2;exact floordiv_int (by omega) (by grind) (.inl (PyProof.noPylong_small (by omega)))
theorem Fd:OpR X (binaryOp .Mod) (rI (λ_ j=>0<j) λi j=>.int (i % j)):=bU λi j _ _ _ _ _ hc q=>mod_int' (by omega) (by rw [Int.fmod_eq_emod_of_nonneg i (by omega)]; exact q)
theorem Ny:OpR X (binaryOp .Pow) (rI RX λi j=>.int (i ^ j.toNat)):=bU λ_ _ _ _ _ _ _ hc q=>pow_int_small hc.1 hc.2.1 hc.2.2 q
theorem cz{f:Db->Sem Db}{g:Int->Int}
  (rule:∀(i:Int) (t:Tok) (s:On) (Q:Db->On->Prop) (E:Db->On->Prop),Q (.int (g i) s.toks) { s with toks:=s.toks+1 }->wpAny (model X.prog X.w) X.A (f (.int i t)) Q E s) :
  cU X f (rU λi=>.int (g i)):=by
 intro zG s Z H x v Q I rx h;obtain⟨i,rfl,q⟩:=h;obtain⟨t,rfl⟩:=rx;exact rule i t s _ _ ⟨.int _,H,I.tok _,⟨_,rfl⟩,q⟩
theorem YW:cU X (unaryOp .USub) (rU λi=>.int (-i)):=cz λ_ _ _ _ _ q=>neg_int q
end
noncomputable def aD:V->V->Bool
 | .non,.non=>true | .non,.int _=>true | .int _,.non=>true | .non,.bl _=>true | .bl _,.non=>true | .non,.str _=>true | .str _,.non=>true
 | .int _,.int _=>true | .bl _,.bl _=>true | .str _,.str _=>true | .byt _,.byt _=>true
 | .int _,.str _=>true | .str _,.int _=>true | .bl _,.str _=>true | .str _,.bl _=>true
 | _,_=>false
noncomputable def cm:R2:=λx y H Q=>aD x y=true/\Q (.bl (decide (x=y))) H
noncomputable def cf:R2:=λx y H Q=>aD x y=true/\Q (.bl (!decide (x=y))) H
theorem KG{i j:Int}:decide (V.int i=V.int j)=(i==j):=by
 rw [eU];simp
theorem OP{i j:Bool}:decide (V.bl i=V.bl j)=(i==j):=by
 rw [eU];simp
theorem KD{i j:Str}:decide (V.str i=V.str j)=(i==j):=by
 rw [eU];simp
theorem SV{i j:Array UInt8}:decide (V.byt i=V.byt j)=(i.toList==j.toList):=by
 rw [eU]
 simp_all
section
variable {X:Cx}{a b c:Expr}{ta tb tc:TE}{pos:Pos}
theorem A8{zG:List (Ch×Obj)}{Z:St}{H:Hp}{s:On}{Q:VK}{k k':Bool}(I:Inv X zG Z H s)(q:Q (.bl k) H)(e:k=k'):EP X zG Z Q (.bool k') s:=by
 subst e;exact⟨.bl k,H,I,rfl,q⟩
theorem HS:OpR X (compareOp .Eq) cm:=by
 intro zG s Z H x y v u Q I rx ry h;obtain⟨hs,q⟩:=h;cases x with
 | non =>
  cases rx;cases y with
  | non=>cases ry; exact PySem.EqNone.eq_none_none (A8 I q (by simp))
  | bl j=>cases ry; exact PySem.EqNone.eq_none_bool (A8 I q (by simp))
  | int j=>obtain⟨t',rfl⟩:=ry; exact PySem.EqNone.eq_none_int (A8 I q (by simp))
  | str j=>obtain⟨t',rfl⟩:=ry; exact PySem.EqNone.eq_none_str (A8 I q (by simp))
  | _=>exact absurd (show false=true from hs) dr
 | bl i =>
  cases rx;cases y with
  | non=>cases ry; exact PySem.EqNone.eq_bool_none (A8 I q (by simp))
  | bl j=>cases ry; exact eq_bool (A8 I q OP)
  | str j=>obtain⟨t',rfl⟩:=ry; exact PySem.EqMixed.eq_bool_str (A8 I q (by simp))
  | _=>exact absurd (show false=true from hs) dr
 | int i =>
  obtain⟨t,rfl⟩:=rx;cases y with
  | non=>cases ry; exact PySem.EqNone.eq_int_none (A8 I q (by simp))
  | int j=>obtain⟨t',rfl⟩:=ry; exact eq_int (A8 I q KG)
  | str j=>obtain⟨t',rfl⟩:=ry; exact PySem.EqMixed.eq_int_str (A8 I q (by simp))
  | _=>exact absurd (show false=true from hs) dr
 | str i =>
  obtain⟨t,rfl⟩:=rx;cases y with
  | non=>cases ry; exact PySem.EqNone.eq_str_none (A8 I q (by simp))
  | bl j=>cases ry; exact PySem.EqMixed.eq_str_bool (A8 I q (by simp))
  | int j=>obtain⟨t',rfl⟩:=ry; exact PySem.EqMixed.eq_str_int (A8 I q (by simp))
  | str j=>obtain⟨t',rfl⟩:=ry; exact eq_str (A8 I q KD)
  | _=>exact absurd (show false=true from hs) dr
 | byt i =>
  obtain⟨t,rfl⟩:=rx;cases y with
  | byt j=>obtain⟨t',rfl⟩:=ry; exact PySem.W.eq_bytes (A8 I q SV)
  | _=>exact absurd (show false=true from hs) dr
 | _=>cases y <;> exact absurd (show false=true from hs) dr
theorem GX:OpR X (compareOp .NotEq) cf:=by
 intro zG s Z H x y v u Q I rx ry h;obtain⟨hs,q⟩:=h;cases x with
 | non =>
  cases rx;cases y with
  | non=>cases ry; exact PySem.EqNone.ne_none_none (A8 I q (by simp))
  | bl j=>cases ry; exact PySem.EqNone.ne_none_bool (A8 I q (by simp))
  | int j=>obtain⟨t',rfl⟩:=ry; exact PySem.EqNone.ne_none_int (A8 I q (by simp))
  | str j=>obtain⟨t',rfl⟩:=ry; exact PySem.EqNone.ne_none_str (A8 I q (by simp))
  | _=>exact absurd (show false=true from hs) dr
 | bl i =>
  cases rx;cases y with
  | non=>cases ry; exact PySem.EqNone.ne_bool_none (A8 I q (by simp))
  | bl j=>cases ry; exact ne_bool (A8 I q (congrArg not OP))
  | str j=>obtain⟨t',rfl⟩:=ry; exact PySem.EqMixed.ne_bool_str (A8 I q (by simp))
  | _=>exact absurd (show false=true from hs) dr
 | int i =>
  obtain⟨t,rfl⟩:=rx;cases y with
  | non=>cases ry; exact PySem.EqNone.ne_int_none (A8 I q (by simp))
  | int j=>obtain⟨t',rfl⟩:=ry; exact ne_int (A8 I q (congrArg not KG))
  | str j=>obtain⟨t',rfl⟩:=ry; exact PySem.EqMixed.ne_int_str (A8 I q (by simp))
  | _=>exact absurd (show false=true from hs) dr
 | str i =>
  obtain⟨t,rfl⟩:=rx;cases y with
  | non=>cases ry; exact PySem.EqNone.ne_str_none (A8 I q (by simp))
  | bl j=>cases ry; exact PySem.EqMixed.ne_str_bool (A8 I q (by simp))
  | int j=>obtain⟨t',rfl⟩:=ry; exact PySem.EqMixed.ne_str_int (A8 I q (by simp))
  | str j=>obtain⟨t',rfl⟩:=ry; exact ne_str (A8 I q (congrArg not KD))
  | _=>exact absurd (show false=true from hs) dr
 | byt i =>
  obtain⟨t,rfl⟩:=rx;cases y with
  | byt j=>obtain⟨t',rfl⟩:=ry; exact PySem.W.ne_bytes (A8 I q (congrArg not SV))
  | _=>exact absurd (show false=true from hs) dr
 | _=>cases y <;> exact absurd (show false=true from hs) dr
theorem op_lt:OpR X (compareOp .Lt) (JK λi j=>.bl (decide (i<j))):=W5 λ_ _ _ _ _ _ _ q=>jx q
theorem op_le:OpR X (compareOp .LtE) (JK λi j=>.bl (decide (i<=j))):=W5 λ_ _ _ _ _ _ _ q=>le_int q
theorem X7:OpR X (compareOp .Gt) (JK λi j=>.bl (decide (j<i))):=W5 λ_ _ _ _ _ _ _ q=>gt_int q
theorem X8:OpR X (compareOp .GtE) (JK λi j=>.bl (decide (j<=i))):=W5 λ_ _ _ _ _ _ _ q=>ge_int q
theorem TX:OpR X (compareOp .Lt) (λx y H Q=>∃i j,x=.str i/\y=.str j/\Q (.bl (decide (i.cps.toList<j.cps.toList))) H):=by
 intro zG s Z H x y v u Q I rx ry h;obtain⟨i,j,rfl,rfl,q⟩:=h;obtain⟨t,rfl⟩:=rx;obtain⟨t',rfl⟩:=ry;exact lt_str (A8 I q rfl)
theorem G3:OpR X (compareOp .Is) (λx y H Q=>y=.non/\Q (.bl (decide (x=.non))) H):=by
 intro zG s Z H x y v u Q I rx ry h;obtain⟨rfl,q⟩:=h;cases ry;refine is_none_gen (A8 I q ?_)
 cases x <;> first
  | omega
  | (obtain⟨t,rfl⟩:=rx; rfl)
theorem Ew:OpR X (compareOp .IsNot) (λx y H Q=>y=.non/\Q (.bl (!decide (x=.non))) H):=by
 intro zG s Z H x y v u Q I rx ry h;obtain⟨rfl,q⟩:=h;cases ry;refine isnot_none_gen (A8 I q ?_)
 cases x <;> first
  | omega
  | (obtain⟨t,rfl⟩:=rx; rfl)
theorem OpR.or{f:Db->Db->Sem Db}{r r':R2}(h:OpR X f r)(h':OpR X f r'):OpR X f (λx y H Q=>r x y H Q\/r' x y H Q):=by
 intro zG s Z H x y v u Q I rx ry q
 rcases q with q | q
 ·exact h _ s Z H x y v u Q I rx ry q
 ·exact h' _ s Z H x y v u Q I rx ry q
theorem Ak(b:d6){op:CmpOp}(h:autoParam (op≠.In) zau1._auto_1)(h2:autoParam (op≠.NotIn) zau1._auto_1):behindInMarks op b=false:=by
 have e1:(op==CmpOp.In)=false:=by grind
 have e2:(op==CmpOp.NotIn)=false:=by grind
 cases b <;> simp [behindInMarks,e1,e2]
theorem W0{op:CmpOp}{r:R2}(ho:OpR X (compareOp op) r)(ha:PE X a ta)(hb:PE X b tb)(hm:behindInMarks op b=false):PE X (.Compare a [op] [b] pos) (EH r ta tb):=λzG s Z H Q I h=>wpAny_Compare1 (Zf ha hb I h λv u s2 x y H2 I2 rx ry q=>ho _ s2 Z H2 x y v u Q I2 rx ry q) hm
noncomputable def Ri(t:TE):TT:=λZ H Q=>t Z H λx H'=>∃k,x=.bl k/\Q k H'
theorem HJ{op:CmpOp}{r:R2}(ho:OpR X (compareOp op) r)(ha:PE X a ta)(hb:PE X b tb)(hm:behindInMarks op b=false):PT X (.Compare a [op] [b] pos) (Ri (EH r ta tb)):=by
 intro zG s Z H Q I h
 refine wpAny_isTrue_Compare1 (thn (ha _ s Z H _ I h) λv s1 ⟨x,H1,I1,r1,q1⟩=>thn (hb _ s1 Z H1 _ I1 q1) λu s2 ⟨y,H2,I2,r2,q2⟩ =>
  thn (ho _ s2 Z H2 x y v u _ I2 r1 r2 q2) λc s3 ⟨z,H3,I3,r3,k,e,q3⟩=>?_) hm
 subst e;cases r3;exact fY ⟨H3,I3,q3⟩
noncomputable def Ua(r r':R2)(ta tb tc:TE):TE:=λZ H Q=>ta Z H λx H1=>tb Z H1 λy H2=>r x y H2 λz H3=>∃k,z=.bl k /\
 (if k=true then tc Z H3 λw' H4=>r' y w' H4 Q else Q (.bl false) H3)
theorem U8{op op':CmpOp}{r r':R2}(ho:OpR X (compareOp op) r)(ho':OpR X (compareOp op') r')(ha:PE X a ta)(hb:PE X b tb)(hc:PE X c tc)
  (hm:autoParam (lastMarks [op,op'] [b,c]=false) zau4._auto_1):PT X (.Compare a [op,op'] [b,c] pos) (Ri (Ua r r' ta tb tc)):=by
 intro zG s Z H Q I h
 refine isTrue_chain (thn (ha _ s Z H _ I h) λv s1 ⟨x,H1,I1,r1,q1⟩=>test_link (thn (hb _ s1 Z H1 _ I1 q1) λu s2 ⟨y,H2,I2,r2,q2⟩ =>
  thn (ho _ s2 Z H2 x y v u _ I2 r1 r2 q2) λd s3 ⟨z,H3,I3,r3,k,e,q3⟩=>?_)) hm
 subst e;cases r3;refine fY ?_;cases k with
 | false =>
  obtain⟨k',e',q'⟩:=q3;cases e';exact ite_ff ⟨H3,I3,q'⟩
 | true =>
  refine ite_tt (test_last (thn (hc _ s3 Z H3 _ I3 q3) λw' s4 ⟨z',H4,I4,r4,q4⟩=>thn (ho' _ s4 Z H4 y z' u w' _ I4 r2 r4 q4) λd' s5 ⟨z2,H5,I5,r5,k2,e2,q5⟩=>?_));subst e2;cases r5;exact fY ⟨H5,I5,q5⟩
noncomputable def Zl(K:Frag)(x:V)(H:Hp)(k:Bool):Prop :=
 match x with
 | .non=>k=false
 | .bl b=>k=b
 | .int i=>k=(i != 0)
 | .str y=>y.length<=sizeLine/\k=((y.length:Int) != 0)
 | .byt y=>y.size<=sizeLine/\k=((y.size:Int) != 0)
 | .ref p=>(∃xs,SqL K H p xs/\k=!xs.isEmpty)\/(∃xs,SqT K H p xs/\k=!xs.isEmpty)\/∃kvs,H p=some (.dK kvs)/\k=!kvs.isEmpty
 | _=>False
theorem Q_{κ:Type}{kvs:List (κ×V)}{vs:List (κ×Db)}(r:KV kvs vs):(!vs.isEmpty)=!kvs.isEmpty:=by
 cases r <;> rfl
theorem LN{xs:List V}{its:List Db}(r:Vals xs its):(!its.toArray.isEmpty)=!xs.isEmpty:=by
 cases r <;> simp
theorem Iq:(sizeLine:Nat)<2 ^ 63:=by decide
theorem YZ:cV X (λx H Q=>∃k,Zl X.K x H k/\Q k H):=by
 intro zG s Z H x v Q I rx h;obtain⟨k,e,q⟩:=h;have hl:=Iq;have hs:sizeLine=16777216:=eK;cases x with
 | non =>
  cases rx;have e':k=false:=e;subst e';exact truthy_none ⟨H,I,q⟩
 | bl b =>
  cases rx;have e':k=b:=e;subst e';exact fY ⟨H,I,q⟩
 | int i =>
  obtain⟨t,rfl⟩:=rx;have e':k=(i != 0):=e;subst e';exact PySem.P.truthy_int ⟨H,I,q⟩
 | str y =>
  obtain⟨t,rfl⟩:=rx;obtain⟨hy,e'⟩:y.length<=sizeLine/\k=((y.length:Int) != 0):=e;subst e';exact PySem.P.truthy_str (by omega) ⟨H,I.tok _,q⟩
 | byt y =>
  obtain⟨t,rfl⟩:=rx;obtain⟨hy,e'⟩:y.size<=sizeLine/\k=((y.size:Int) != 0):=e;subst e';exact PySem.W.truthy_bytes (by omega) ⟨H,I.tok _,q⟩
 | ref p =>
  cases rx;have e':(∃xs,SqL X.K H p xs/\k=!xs.isEmpty)\/(∃xs,SqT X.K H p xs/\k=!xs.isEmpty)\/∃kvs,H p=some (.dK kvs)/\k=!kvs.isEmpty:=e
  rcases e' with ⟨xs,hx,e'⟩ | ⟨xs,hx,e'⟩ | ⟨kvs,hx,e'⟩
  ·subst e'
   obtain⟨its,r,pl,hz⟩:=I.list hx;have hlen:=r.length;exact wpAny_truthy_list pl.isList (by simp only [dW]; omega) ⟨H,I.tok _,by rw [LN r]; exact q⟩
  ·subst e'
   obtain⟨its,r,pl,hz⟩:=I.tuple hx;have hlen:=r.length;exact truthy_tuple pl (by simp only [dW]; omega) ⟨H,I.tok _,by rw [LN r]; exact q⟩
  ·subst e'
   obtain⟨hz,hS,vs,r,m⟩:kvs.length<=sizeLine/\(p==sysModules)=false/\∃vs,KV kvs vs/\s.heap.DictOf (Aw X.prog X.w) p vs:=I.hok p _ hx;have hlen:kvs.length=vs.length:=Paired.length r;exact wpAny_truthy_dict hS m (by omega) ⟨H,I.tok _,by rw [Q_ r]; exact q⟩
 | _=>exact(show False from e).elim
theorem U7(ha:PE X a ta)(he:∀whole,isTrue a X.env whole=(do let v ← whole; standAt a.pos; holding [v] (truthy v))) :
  PT X a (λZ H Q=>ta Z H λx H'=>∃k,Zl X.K x H' k/\Q k H'):=λzG s Z H Q I h=>isTrue_plain (thn (ha _ s Z H _ I h) λv s1 ⟨x,H1,I1,r1,q1⟩=>YZ _ s1 Z H1 x v Q I1 r1 q1) (he _)
theorem Qx:OpR X (binaryOp .Add) (λx y H Q=>∃i j,x=.str i/\y=.str j/\i.length+j.length<=sizeLine/\Q (.str (i++j)) H):=by
 intro zG s Z H x y v u Q I rx ry h;obtain⟨i,j,rfl,rfl,hz,q⟩:=h;obtain⟨t,rfl⟩:=rx;obtain⟨t',rfl⟩:=ry;exact add_str (λt' tk=>⟨.str _,H,I.tok _,⟨_,rfl⟩,q⟩) hz
theorem vals1{x:V}{us:List Db}(r:Vals [x] us):∃u,us=[u]/\RelV x u:=by
 cases r with
 | cons r1 r2=>cases r2; grind
theorem vals2{x y:V}{us:List Db}(r:Vals [x,y] us):∃u w',us=[u,w']/\RelV x u/\RelV y w':=by
 cases r with
 | cons r1 r2 =>
  cases r2 with
  | cons r3 r4=>cases r4; exact⟨_,_,rfl,r1,r3⟩
theorem Lh:DC X (.builtin "abs") (λxs H Q=>∃i,xs=[.int i]/\Q (.int (if i<0 then -i else i)) H):=by
 intro zG s Z H xs us Q I r h;obtain⟨i,rfl,q⟩:=h;obtain⟨u,rfl,t,rfl⟩:=vals1 r;exact call_abs_int λu tk=>⟨.int _,H,I.tok _,⟨_,rfl⟩,q⟩
theorem JD(hc:X.calm=true):DC X (.builtin "min") (λxs H Q=>∃i j,xs=[.int i,.int j]/\Q (.int (if j<i then j else i)) H):=by
 intro zG s Z H xs us Q I r h;obtain⟨i,j,rfl,q⟩:=h;obtain⟨u,w',rfl,⟨t,rfl⟩,⟨t',rfl⟩⟩:=vals2 r;refine min_two_ints (I.ok.hd hc) λh' tk k=>⟨_,H,I.kept k,?_,q⟩
 by_cases hj:j<i
 ·rw [if_pos hj,if_pos hj]; exact⟨_,rfl⟩
 ·rw [if_neg hj,if_neg hj]; exact⟨_,rfl⟩
noncomputable def Zp(K:Frag)(x:V)(H:Hp)(n:Nat):Prop :=
 match x with
 | .str y=>y.length<=sizeLine/\n=y.length
 | .byt y=>y.size<=sizeLine/\n=y.size
 | .ref p=>(∃xs,SqL K H p xs/\n=xs.length)\/∃xs,SqT K H p xs/\n=xs.length
 | _=>False
theorem As:DC X (.builtin "len") (λxs H Q=>∃x n,xs=[x]/\Zp X.K x H n/\Q (.int n) H):=by
 intro zG s Z H xs us Q I r h;obtain⟨x,n,rfl,e,q⟩:=h;obtain⟨u,rfl,rx⟩:=vals1 r;have hl:=Iq;have hs:sizeLine=16777216:=eK;cases x with
 | str y =>
  obtain⟨t,rfl⟩:=rx;obtain⟨hy,e'⟩:y.length<=sizeLine/\n=y.length:=e;subst e';exact len_str (by omega) ⟨.int _,H,I.tok _,⟨_,rfl⟩,q⟩
 | byt y =>
  obtain⟨t,rfl⟩:=rx;obtain⟨hy,e'⟩:y.size<=sizeLine/\n=y.size:=e;subst e';exact PySem.W.len_bytes (by omega) ⟨.int _,H,I.tok _,⟨_,rfl⟩,q⟩
 | ref p =>
  cases rx;have e':(∃xs,SqL X.K H p xs/\n=xs.length)\/∃xs,SqT X.K H p xs/\n=xs.length:=e
  rcases e' with ⟨xs,hx,e'⟩ | ⟨xs,hx,e'⟩
  ·subst e'
   obtain⟨its,r',pl,hz⟩:=I.list hx;have hlen:=r'.length;exact Calls.call_len_list pl.isList (by simp only [dW]; omega) ⟨.int xs.length,H,I.tok _,⟨_,by simp only [dW]; rw [hlen]⟩,q⟩
  ·subst e'
   obtain⟨its,r',pl,hz⟩:=I.tuple hx;have hlen:=r'.length;exact len_tuple pl (by simp only [dW]; omega) ⟨.int xs.length,H,I.tok _,⟨_,by simp only [dW]; rw [hlen]⟩,q⟩
 | _=>exact(show False from e).elim
end
structure ObjM (h:dg) (x dx C:Ch) (mA:Str->Option Db):Prop where
 obj:h.get? x=some (PySem.W.instObj C dx)
 ns:h.Ns1 dx mA
 ne:dx≠x
theorem Tq{h:dg}{dx:Ch}{mA:Str->Option Db}(n:h.Ns1 dx mA):∃od,h.get? dx=some od/\∀name,PySem.W.lookIn name od=some (mA name):=by
 obtain⟨o,es,ep,ho,hd,hk,_,hm⟩:=n;refine⟨o,ho,λname=>?_⟩;have e:=hm name;unfold nsFind findBy at e;unfold PySem.W.lookIn;rw [hd]
 dsimp only
 split
 ·simp_all
 ·have a:es.toList.any (·.refKey)=false:=by
   rw [List.any_eq_false];intro y hy;obtain⟨z,t,hkey⟩:=hk y (Array.mem_toList_iff.mp hy);simp [DictEntry.refKey,hkey]
  grind
theorem ObjM.look{h:dg}{x dx C:Ch}{mA:Str->Option Db}(I:ObjM h x dx C mA):∃od,PySem.W.InstAt h x (PySem.W.instObj C dx) C (some od)/\∀name,PySem.W.lookIn name od=some (mA name) :=
 let ⟨od,ho,hl⟩:=Tq I.ns
 ⟨od,⟨I.obj,rfl,rfl,ho⟩,hl⟩
theorem RelO.some_of{v:V}{o:Option Db}(r:RelO (some v) o):∃u,o=some u/\RelV v u:=by
 cases o with
 | none=>exact(r).elim
 | some u=>exact⟨u,rfl,r⟩
section
variable {P:Program}{w:World}{H:Hp}{h:Heap}{a C dx:Addr}{fs:List (Str×V)}
theorem XG(hok:HOk P w H h)(e:H a=some (.ins C dx fs)):∃mA,ObjM h a dx C mA/\(∀f,RelO (fs.lookup f) (mA f))/\PySem.Within mA (fs.map (·.1))/\fs.length<=1000/\H dx=some (.own a):=by
 obtain⟨d,z,ne,ob,mA,n,r,q⟩:=(hok a _ e);exact⟨mA,⟨ob,n,ne⟩,r,q,z,d⟩
end
structure Cls (K:Frag) (C:Ch):Prop where
 pg:PySem.W.plainGet K C Str.empty=true
 hd:PySem.W.hasDictIn K C=true
 po:PySem.W.plainOver K C=true
 sa:PySem.W.findIn K (.ref C) "__setattr__"=some (some (.builtin "object.__setattr__"))
theorem Cls.get{K:Frag}{C:Ch}(c:Cls K C)(f:Str):PySem.W.plainGet K C f=true:=c.pg
structure dS (K:Frag) (C:Ch) (f:Str) (v:V) (u:Db):Prop where
 at_:PySem.W.findIn K (.ref C) f=some (some u)
 rel:RelV v u
 get:PySem.W.specialIn K u "__get__"=some none
 cp:PySem.W.copiedNames.contains f=false
structure dN (K:Frag) (C:Ch) (m:Str) (f:Ch):Prop where
 at_:PySem.W.findIn K (.ref C) m=some (some (.ref f))
 fn:PySem.W.isFn K (.ref f)=true
 kp:keepIn K (.ref f)=true
section
variable {X:Cx}{zG:List (Addr×Obj)}{Z:St}{H:Hp}{s:Shared}{A:Around}{E:Value->Shared->Prop}{Q:Value->Shared->Prop}{c:Value}{b:Bool}
inductive HG (K:Frag) (H:Hp):V->Db->Prop where
 | non:HG K H .non (.type "NoneType")
 | bl (x:Bool):HG K H (.bl x) (.type "bool")
 | int (i:Int):HG K H (.int i) (.type "int")
 | str (x:Str):HG K H (.str x) (.type "str")
 | flt (x:UInt64):HG K H (.flt x) (.type "float")
 | lst {a:Ch} {xs:List V} (e:H a=some (.lst xs)):HG K H (.ref a) (.type "list")
 | frz {a:Ch} {o:Obj} {xs:List V} (e:H a=some (.frz o (.lst xs))):HG K H (.ref a) (.type "list")
 | tup {a:Ch} {xs:List V} (e:H a=some (.tup xs)):HG K H (.ref a) (.type "tuple")
 | dF {a:Ch} {o:Obj} {kvs:List (Key×V)} (e:H a=some (.frz o (.dK kvs))):HG K H (.ref a) (.type "dict")
 | dK {a:Ch} {kvs:List (Key×V)} (e:H a=some (.dK kvs)):HG K H (.ref a) (.type "dict")
 | dT {a:Ch} {kvs:List (List Key×V)} (e:H a=some (.dT kvs)):HG K H (.ref a) (.type "dict")
 | ins {a C dx:Ch} {fs:List (Str×V)} (e:H a=some (.ins C dx fs)) (cl:Cls K C) (ha:PySem.W.findIn K (.ref C) "__class__"=some (some (.builtin "object.__class__")))
   (hn:PySem.W.specialIn K (.builtin "object.__class__") "__get__"=some (some (.builtin "getset_descriptor.__get__"))) (htk:PySem.W.takesIn K (.builtin "object.__class__")=some true)
   (hm:PySem.W.mroIn K C (.type "object")=some true):HG K H (.ref a) (.ref C)
theorem Tu{x:V}{u t:Db}(I:Inv X zG Z H s)(rx:RelV x u)(ty:HG X.K H x t)(e:PySem.W.kitOne X.K t c=some b)(h:∀tk,Q (.bool b) { s with toks:=tk }) :
  wpAny (model X.prog X.w) A (call (.builtin "isinstance") [u,c]) Q E s:=by
 cases ty with
 | non=>cases (show u=eS from rx); exact PySem.W.kia_one PySem.W.kitx_none I.kIn gI e (λz=>nomatch z) h
 | bl y=>cases (show u=jZ y from rx); exact PySem.W.kia_one PySem.W.kitx_bool I.kIn gI e (λz=>nomatch z) h
 | int i=>obtain⟨t,q⟩:=(show ∃t,u=Value.int i t from rx); cases q; exact PySem.W.kia_one PySem.W.kitx_int I.kIn gI e (λz=>nomatch z) h
 | str y=>obtain⟨t,q⟩:=(show ∃t,u=Value.str y t from rx); cases q; exact PySem.W.kia_one PySem.W.kitx_str I.kIn gI e (λz=>nomatch z) h
 | flt y=>obtain⟨t,q⟩:=(show ∃t,u=Value.float y t from rx); cases q; exact PySem.W.kia_one PySem.W.kitx_float I.kIn gI e (λz=>nomatch z) h
 | @lst a xs ea =>
  cases (show u=eh a from rx);obtain⟨_,_,n,_,h1⟩:=(show ObjOk X.prog X.w H s.heap a (.lst xs) from I.hok a _ ea);exact PySem.W.kia_one PySem.W.kitx_list I.kIn ⟨_,h1,rfl⟩ e (λz=>nomatch z) h
 | @frz a ob xs ea =>
  cases (show u=eh a from rx);obtain⟨_,_,_,n,_,h1⟩:=(show ObjOk X.prog X.w H s.heap a (.frz ob (.lst xs)) from I.hok a _ ea);exact PySem.W.kia_one PySem.W.kitx_list I.kIn ⟨_,h1,rfl⟩ e (λz=>nomatch z) h
 | @tup a xs ea =>
  cases (show u=eh a from rx);obtain⟨_,_,_,p⟩:=(show ObjOk X.prog X.w H s.heap a (.tup xs) from I.hok a _ ea);obtain⟨o,h1,h2,_⟩:=p;exact PySem.W.kia_one PySem.W.kitx_tuple I.kIn ⟨o,h1,h2⟩ e (λz=>nomatch z) h
 | @dF a ob kvs ea =>
  cases (show u=eh a from rx);obtain⟨_,_,_,vs,_,p⟩:=(show ObjOk X.prog X.w H s.heap a (.frz ob (.dK kvs)) from I.hok a _ ea);obtain⟨o,es,ep,h1,h2,_⟩:=p;exact PySem.W.kia_one PySem.W.kitx_dict I.kIn ⟨o,h1,h2.1⟩ e (λz=>nomatch z) h
 | @dK a kvs ea =>
  cases (show u=eh a from rx);obtain⟨_,_,vs,_,p⟩:=(show ObjOk X.prog X.w H s.heap a (.dK kvs) from I.hok a _ ea);obtain⟨o,es,ep,h1,h2,_⟩:=p;exact PySem.W.kia_one PySem.W.kitx_dict I.kIn ⟨o,h1,h2.1⟩ e (λz=>nomatch z) h
 | @dT a kvs ea =>
  cases (show u=eh a from rx);obtain⟨_,_,xs,_,o,es,ep,h1,h2,_⟩:=(show ObjOk X.prog X.w H s.heap a (.dT kvs) from I.hok a _ ea);exact PySem.W.kia_one PySem.W.kitx_dict I.kIn ⟨o,h1,h2.1⟩ e (λz=>nomatch z) h
 | @ins a C dx fs ea cl ha hn htk hm =>
  cases (show u=eh a from rx);obtain⟨mA,O,_⟩:=XG I.hok ea;obtain⟨od,J,_⟩:=O.look;exact PySem.W.kia_one (PySem.W.kitx_own (cl.get _) cl.hd ha hn htk hm) I.kIn J e (λz=>nomatch z) h
end
structure Room (k:Nat) (A:eX):Prop where
 hd:A.handled=none
 dp:A.depth+3*k+5<recursionLimit
 un:A.units+16*k+200<cLine
 gd:A.guards=some []
theorem Room.mono{j k:Nat}{A:eX}(r:Room k A)(h:j<=k):Room j A:=⟨r.hd,by have:=r.dp; omega,by have:=r.un; omega,by first | exact r.gd | grind | grind⟩
theorem Room.deeper{k:Nat}{A:eX}(r:Room (k+1) A)(env:Env):Room k (A.deeper env) :=
 ⟨r.hd,by have:=r.dp; show A.depth+1+3*k+5<_; omega,by have:=r.un; show A.units+3+16*k+200<_; omega,by first | exact r.gd | omega | grind⟩
theorem Room.in1{k:Nat}{A:eX}(r:Room (k+1) A):Room k A.in1 :=
 ⟨r.hd,by have:=r.dp; grind,by have:=r.un; grind,by first | exact r.gd | omega | grind⟩
theorem Room.depth{k:Nat}{A:eX}(r:Room k A):A.depth<recursionLimit:=by have:=r.dp; omega
theorem Room.units{k:Nat}{A:eX}(r:Room k A):A.units+64<cLine:=by have:=r.un; omega
theorem Room.units0{k:Nat}{A:eX}(r:Room k A):A.units<cLine:=by have:=r.un; omega
noncomputable def Wi:TA:=λ_ H Q=>Q [] H
noncomputable def Rj(ta:TE)(tr:TA):TA:=λZ H Q=>ta Z H λx H1=>tr Z H1 λxs H2=>Q (x::xs) H2
section
variable {X:Cx}{e:Expr}{es:List Expr}{te:TE}{t:TA}{pos:Pos}
theorem CW:PA X [] Wi:=λ_ _ _ _ H Q I h=>fZ ⟨[],H,I,.nil,h⟩
theorem Bl(ha:PE X e te)(hr:PA X es t)(hs:autoParam (starEach (e::es) X.env=(false,eval e X.env)::starEach es X.env) zau3._auto_1):PA X (e::es) (Rj te t):=by
 intro pos zG s Z H Q I h;rw [hs];exact fK (thn (ha _ s Z H _ I h) λu s1 ⟨x,H1,I1,r1,q1⟩=>thn (hr _ _ s1 Z H1 _ I1 q1) λus s2 ⟨xs,H2,I2,r2,q2⟩=>⟨_,H2,I2,.cons r1 r2,q2⟩)
noncomputable def bq(t:TA):TE:=λZ H Q=>t Z H λxs H1=>xs.length<=sizeLine/\∀p,H1 p=none->Q (.ref p) (BD H1 p (.tup xs))
noncomputable def bx(t:TA):TE:=λZ H Q=>t Z H λxs H1=>xs.length<=sizeLine/\∀p,H1 p=none->Q (.ref p) (BD H1 p (.lst xs))
theorem Yx{x1}(h:PA X es t):PE X (.Tuple es x1 pos) (bq t):=by
 intro zG s Z H Q I hq;refine wpAny_Tuple_spliced (thn (h pos zG s Z H _ I hq) λus s1 ⟨xs,H1,I1,r,z,q⟩=>⟨by rw [← r.length]; exact z,?_⟩);have hf:H1 s1.heap.objs.size=none:=I1.hok.fresh (Op _);refine⟨.ref s1.heap.objs.size,BD H1 s1.heap.objs.size (.tup xs),I1.laid (t':=s1.toks) (λb u e=>FM _ e) (Op _) ?_,rfl,q _ hf⟩;exact⟨z,us,r,IsTupN.new _ _⟩
theorem Qu(h:PA X es t):PE X (.List es pos) (bx t):=by
 intro zG s Z H Q I hq;refine wpAny_List_spliced (thn (h pos zG s Z H _ I hq) λus s1 ⟨xs,H1,I1,r,z,q⟩=>⟨by rw [← r.length]; exact z,?_⟩);have hf:H1 s1.heap.objs.size=none:=I1.hok.fresh (Op _);refine⟨.ref s1.heap.objs.size,BD H1 s1.heap.objs.size (.lst xs),I1.laid (t':=s1.toks) (λb u e=>FM _ e) (Op _) ?_,rfl,q _ hf⟩;exact⟨z,us,0,r,UF _ rfl⟩
end
noncomputable abbrev Sp:=List V->Hp->VK->XK->Prop
noncomputable abbrev WT:=List Env->Hp->On->XK->Db->On->Prop
structure Env0 (P:eB) (w:eG) (K:Frag) (mg:Str->Option Db) (base:dg) (A:eX) (outer:List Env) (s:On) (H:Hp):Prop where
 frames:A.frames=some outer
 mod:Mod K mg base
 bs:∀b o,base.get? b=some o->s.heap.get? b=some o/\H b=none
 bsz:base.objs.size<=s.heap.objs.size
 funs:s.heap.FunFrames base outer
 frf:∀b∈SI outer,H b=none
 hok:HOk P w H s.heap
 bare:iN s.gens
noncomputable def CE(outer:List Env)(P:eB)(w:eG)(H:Hp)(s:On)(Q:VK)(u:Db)(s':On):Prop :=
 ∃v H',s'.os=s.os/\iN s'.gens/\Un (SI outer) [] H H' s.heap s'.heap/\HOk P w H' s'.heap/\RelV v u/\Q v H'
noncomputable def CR(CX:WT)(outer:List Env)(P:eB)(w:eG)(H:Hp)(s:On)(Q:VK)(E:XK)(r:Result)(s':On):Prop :=
 match r with
 | .ok (.ret u)=>CE outer P w H s Q u s'
 | .ok _=>False
 | .error e=>CX outer H s E e s'
structure A4 (P:eB) (w:eG) (K:Frag) (mg:Str->Option Db) (base:dg) (CX:WT) (k:Nat) (f:Ch) (fd:eY) (ps:List Str) (sp:Sp):Prop where
 len:∀vs H Q E,sp vs H Q E->vs.length=ps.length
 run:∀(A:eX) (outer:List Env) (s:On) (H:Hp) (args:Args) (us:List Db) (vs:List V) (Q:VK) (E:XK),Room k A->Env0 P w K mg base A outer s H->je s fd args (ps.zip us)->Vals vs us->sp vs H Q E ->
  codeAny (model P w) A (.call (.ref f) args) (CR CX outer P w H s Q E) s
theorem Env0.in1{P:eB}{w:eG}{K:Frag}{mg:Str->Option Db}{base:dg}{A:eX}{outer:List Env}{s:On}{H:Hp}(e:Env0 P w K mg base A outer s H) :
  Env0 P w K mg base A.in1 outer s H:=⟨e.frames,e.mod,e.bs,e.bsz,e.funs,e.frf,e.hok,e.bare⟩
section
variable {X:Cx}{zG:List (Addr×Obj)}{Z:St}{H:Hp}{s s':Shared}
theorem Inv.env0(I:Inv X zG Z H s):Env0 X.prog X.w X.K X.mg X.base X.A X.stack s H :=
 ⟨I.ok.frames,I.ok.mod,I.bs,dn I.ok.bsz I.sz,I.stack,I.stkFree,I.hok,I.bare⟩
theorem Inv.after{Q:VK}{u:Db}(I:Inv X zG Z H s)(h:CE X.stack X.prog X.w H s Q u s'):EP X zG Z Q u s':=by
 obtain⟨v,H',os,bare,un,hok,r,q⟩:=h;obtain⟨hh,g,d,t,os'⟩:=s';obtain rfl:os'=s.os:=os;exact⟨v,H',I.call un hok bare (λb z=>absurd z (by simp)),r,q⟩
end
noncomputable def Ub(sp:Sp)(dvs:List V)(E:XK)(t:TA):TE:=λZ H Q=>t Z H λvs H1=>sp (vs++dvs) H1 Q E
noncomputable def Binds(K:Frag)(fd:eY)(ps:List Str)(ds:List Db):Prop :=
 ∀(s:On) (us:List Db),K.In s.heap->(us++ds).length=ps.length->je s fd ⟨us,[]⟩ (ps.zip (us++ds))
theorem Binds.all{K:Frag}{fd:eY}{ps:List Str}(h:∀us:List Db,us.length=ps.length->bindArgs fd ⟨us,[]⟩=pure (ps.zip us)):Binds K fd ps []:=λs us _ hl=>by
 rw [eO] at hl ⊢;exact .of_eq (h us hl)
noncomputable def RW(CX:WT)(X:Cx)(E:XK):Prop:=∀(zG:List (Ch×Obj)) (Z:St) (H:Hp) (s:On) (e:Db) (s':On),Inv X zG Z H s->CX X.stack H s E e s'->X.xe e s'
section
variable {X:Cx}{CX:WT}{k:Nat}{f C:Addr}{fd:FuncData}{ps:List Str}{sp:Sp}{dvs:List V}{ds:List Value}{E:XK}{x:Str}{p pos:Pos}{e:Expr}{es:List Expr}{t:TA}
theorem Yj{zG:List (Ch×Obj)}{Z:St}{H:Hp}{s:On}{Q:VK}{us:List Db}{vs:List V}(F:A4 X.prog X.w X.K X.mg X.base CX k f fd ps sp)(hr:Room k X.A)(hb:Binds X.K fd ps ds)(hd:Vals dvs ds)(hx:RW CX X E)
  (I:Inv X zG Z H s) (r:Vals vs us) (h:sp (vs++dvs) H Q E):wpAny (model X.prog X.w) X.A (call (.ref f) us) (EP X zG Z Q) X.xe s:=by
 have r2:Vals (vs++dvs) (us++ds):=r.append hd;have hl:(us++ds).length=ps.length:=by rw [← r2.length]; exact F.len _ _ _ _ h
 refine ja (iF (F.run X.A X.stack s H ⟨us,[]⟩ (us++ds) (vs++dvs) Q E hr I.env0 (hb s us I.kIn hl) r2 h) λr s' hq=>?_);cases r with
 | error e=>exact hx zG Z H s e s' I hq
 | ok fl =>
  cases fl with
  | ret u=>exact I.after hq
  | next=>exact fq hq
  | brk=>exact fq hq
  | cont=>exact fq hq
theorem Rz(F:A4 X.prog X.w X.K X.mg X.base CX k f fd ps sp)(hr:Room k X.A)(hg:Gl X x)(hm:X.mg x=some (.ref f))(hk:keepIn X.K (.ref f)=true)(hb:Binds X.K fd ps ds)(hd:Vals dvs ds)(hx:RW CX X E)
  (ha:PA X (e::es) t) (hdb:autoParam ((x==("__debug__":Str))=false) zau1._auto_1) (he:autoParam (starEach (e::es) X.env=(false,eval e X.env)::starEach es X.env) zau3._auto_1) (hpl:autoParam ((backTo pos (starEach es X.env)).any (·.1)=false) zau3._auto_1) :
  PE X (.Call (.Name x p) (e::es) [] pos) (Ub sp dvs E t):=λzG s Z H Q I h=>fL (R_ I hg hm (PySem.W.callWith_K I.ok.mod.kin hk (thn (ha _ _ s Z H _ I h) λus s1 ⟨vs,H1,I1,r,q⟩=>⟨I1.kIn,Yj F hr hb hd hx I1 r q⟩) he hpl) hdb)
structure Mk (K:Frag) (C f:Ch):Prop where
 makes:PySem.W.makesIn K C=true
 init:PySem.W.findIn K (.ref C) "__init__"=some (some (.ref f))
 fn:PySem.W.isFn K (.ref f)=true
 kp:keepIn K (.ref C)=true
end
section
variable {fd:FuncData}{ps ks:List Str}
structure cY (K:Frag) (fd:eY) (ps ks:List Str) (g:List Db->List Db->List Db) (gV:List V->List V->List V):Prop where
 to:∀(s:On) (us ws:List Db),K.In s.heap->(g us ws).length=ps.length->je s fd ⟨us,ks.zip ws⟩ (ps.zip (g us ws))
 rel:∀{vs:List V} {us:List Db} {zs:List V} {ws:List Db},Vals vs us->Vals zs ws->Vals (gV vs zs) (g us ws)
end
structure Ad (N P:List Str) (sc:gH):Prop where
 kind:sc.kind=.function
 co:sc.isCoroutine=false
 gen:sc.isGenerator=false
 nd:N.Nodup
 pre:N.take P.length=P
 par:∀x∈P,sc.names.lookup x=some .local\/sc.names.lookup x=some .cell
 nofree:∀y∈sc.names,y.2≠.free
theorem NA{kindOf:Str->Option gE}{x:Str}:∀{binds:List (Str×Db)} {m:Str->Option Db},(∀v,(x,v)∉binds)->bindL kindOf binds m x=m x
 | [],_,_=>rfl
 | (n,v)::r,m,h=>by
  unfold bindL;rw [NA λw hw=>h w (Sc _ hw)]
  split
  ·grind
  ·rfl
theorem NC{kindOf:Str->Option gE}{x:Str}:∀{binds:List (Str×Db)} {m:Str->Option Db},(∀v,(x,v)∉binds)->bindC kindOf binds m x=m x
 | [],_,_=>rfl
 | (n,v)::r,m,h=>by
  unfold bindC;rw [NC λw hw=>h w (Sc _ hw)]
  split
  ·rfl
  grind
theorem NB{kindOf:Str->Option gE}{x:Str}{v:Db}:∀{P:List Str} {vs:List Db} {i:Nat} {m:Str->Option Db},P.Nodup->P[i]?=some x->vs[i]?=some v->kindOf x=some .local ->
  bindL kindOf (P.zip vs) m x=some v
 | [],_,_,_,_,h,_,_=>by simp at h
 | _::_,[],_,_,_,_,h,_=>by simp at h
 | p::P,w::vs,0,m,nd,h1,h2,hk=>by
  simp at h1 h2; subst h1; subst h2
  show bindL kindOf ((p,w)::P.zip vs) m p=_;unfold bindL;rw [NA λv hv=>(eF.mp nd).1 (iA hv).1,if_pos hk];simp
 | p::P,w::vs,i+1,m,nd,h1,h2,hk=>by
  unfold bindL;exact NB (i:=i) (eF.mp nd).2 (by simp_all) (by simp_all) hk
theorem ND{kindOf:Str->Option gE}{x:Str}{v:Db}:∀{P:List Str} {vs:List Db} {i:Nat} {m:Str->Option Db},P.Nodup->P[i]?=some x->vs[i]?=some v->kindOf x≠some .local ->
  bindC kindOf (P.zip vs) m x=some v
 | [],_,_,_,_,h,_,_=>by simp at h
 | _::_,[],_,_,_,_,h,_=>by simp at h
 | p::P,w::vs,0,m,nd,h1,h2,hk=>by
  simp at h1 h2; subst h1; subst h2
  show bindC kindOf ((p,w)::P.zip vs) m p=_;unfold bindC;rw [NC λv hv=>(eF.mp nd).1 (iA hv).1,if_neg hk];simp
 | p::P,w::vs,i+1,m,nd,h1,h2,hk=>by
  unfold bindC;exact ND (i:=i) (eF.mp nd).2 (by simp_all) (by simp_all) hk
noncomputable def start(N:List Str)(vs:List V):St:=vs.map some++Tk (N.length - vs.length) none
noncomputable def MU(CX:WT)(P:eB)(w:eG)(K:Frag)(mg:Str->Option Db)(base:dg)(N:List Str)(qual:Str)(scope:gH)(f:Ch)(cd:Db)(A:eX)(outer:List Env)(s:On)(H:Hp)(E:XK):Cx where
 prog:=P
 w:=w
 K:=K
 mg:=mg
 base:=base
 A:=A.deeper (envOfC qual scope s.heap.objs.size f cd)
 N:=N
 s₀:=s
 H₀:=H
 env:=envOfC qual scope s.heap.objs.size f cd
 outer:=outer
 stack:=envOfC qual scope s.heap.objs.size f cd::outer
 ex:=[]
 calm:=true
 fn:=λ_=>true
 pn:=[]
 xe:=λe s'=>wpAny (model P w) (A.deeper (envOfC qual scope s.heap.objs.size f cd)) (leaving (envOfC qual scope s.heap.objs.size f cd) e) (λ_ s''=>CX outer H s E e s'') (λe' s''=>CX outer H s E e' s'') s'
theorem P6{sc:gH}{n:Nat}{x:Str}(h:sc.names.lookup x=some .cell):∃c,(cellsFrom n sc.names []).lookup x=some c:=by
 have q:=PySem.W.cellsFrom_some sc.names n [] (.inl h);exact Option.isSome_iff_exists.mp q
theorem Tw{CX:WT}{P:eB}{w:eG}{K:Frag}{mg:Str->Option Db}{base:dg}{N ps:List Str}{qual:Str}{scope:gH}{f:Ch}{cd:Db}{A:eX}{outer:List Env}{s s1:On}{H:Hp}{E:XK}{us:List Db}{vs:List V}
  (S:Ad N ps scope) (hd:A.handled=none) (e0:Env0 P w K mg base A outer s H) (hl:vs.length=ps.length) (r:Vals vs us)
  (x:InCallC s s.heap.objs.size (bindL (envOfC qual scope s.heap.objs.size f cd).kindOf (ps.zip us) λ_=>none) (cellsFrom (s.heap.objs.size+1) scope.names []) (bindC (envOfC qual scope s.heap.objs.size f cd).kindOf (ps.zip us) λ_=>none) s1) :
  Inv (MU CX P w K mg base N qual scope f cd A outer s H E) [] (start N vs) H s1:=by
 have hpl:ps.length<=N.length:=by have:=congrArg iR S.pre; rw [g_] at this; omega
 obtain⟨h1,tk,rfl,hk⟩:=x.done;have noA:∀b:Ch,b∉(MU CX P w K mg base N qual scope f cd A outer s H E).ex:=λb z=>absurd (show b∈([]:List Ch) from z) (by simp)
 refine⟨⟨e0.mod,S.kind,rfl,rfl,Op _,λy z c h1 h2=>?_,λy hy=>?_,λy c _ h=>?_,λ_=>hd,Around.frames_deeper e0.frames,.inr ⟨rfl,rfl⟩,λb z=>absurd z (noA b),e0.bs,e0.bsz,λb _ _=>noA b,λb z=>absurd z (noA b),e0.funs,e0.frf⟩,
  rfl,e0.bare,Un.kept hk,⟨_,x.toInCall.ns,λi y v h1 h2 h3=>?_⟩,λy c h=>⟨_,x.cell y c h⟩,e0.hok.fresh (Op _),λy c h=>?_,λp hp=>absurd (show p∈([]:List (Ch×Obj)) from hp) (by simp),e0.hok.kept hk,?_⟩
 ·exact name_of_addr x.apart (PySem.mem_of_lookup h1) (PySem.mem_of_lookup h2)
 ·have hy:scope.names.lookup y=some .cell\/scope.names.lookup y=some .free:=hy
  rcases hy with hy | hy
  ·exact P6 hy
  ·exact absurd rfl (S.nofree _ (PySem.mem_of_lookup hy))
 ·exact jf (x.above y c (PySem.mem_of_lookup h))
 ·have hi:i<vs.length:=by
   unfold start at h2
   by_cases hi:i<vs.length
   ·exact hi
   ·rw [fA (by simpa using hi)] at h2
    rw [iO] at h2
    split at h2 <;> cases h2
  have ha:vs[i]?=some v:=by
   unfold start at h2;rw [gX (by simpa using hi),dX] at h2;cases e:vs[i]? with
   | none=>rw [e] at h2; cases h2
   | some a=>rw [e] at h2; cases h2; rfl
  obtain⟨u,hu,rv⟩:=r.get ha
  have hp:ps[i]?=some y:=by
   rw [← S.pre,List.getElem?_take_of_lt (by omega)]; exact h1
  have ndP:ps.Nodup:=by rw [← S.pre]; exact S.nd.sublist (List.take_sublist _ _)
  refine⟨u,rv,?_⟩
  rcases S.par y (eQ hp) with k | k
  ·exact .inl ⟨k,NB ndP hp hu k⟩
  ·obtain⟨c,e⟩:=P6 (n:=s.heap.objs.size+1) k
   refine .inr ⟨.inl k,c,e,?_⟩;have q:=x.cell y c e;rw [ND ndP hp hu (by show scope.names.lookup y≠_; rw [k]; decide)] at q;exact q
 ·exact e0.hok.fresh (jf (x.above y c (PySem.mem_of_lookup h)))
 ·unfold start
  show _=N.length;rw [dZ,Go,j6];omega
theorem ao{CX:WT}{P:eB}{w:eG}{K:Frag}{mg:Str->Option Db}{base:dg}{k:Nat}{f:Ch}{name qual:Str}{params:Arguments}{body:List eA}{scope:gH}{dV kV doc pm cdv ct oc:Db}{an od:Option Ch}
  {osl:Array (Option Db)} {N ps:List Str} {sp:Sp} (lk:K.lookup f=some ⟨oc,od,.func (fnOf name qual params body scope dV kV doc pm an cdv ct),osl⟩) (hcd:codeIn K cdv qual=true) (S:Ad N ps scope)
  (len:∀vs H Q E,sp vs H Q E->vs.length=ps.length)
  (hbody:∀(A:eX) (outer:List Env) (s:On) (H:Hp) (vs:List V) (Q:VK) (E:XK),Room k (A.deeper (envOfC qual scope s.heap.objs.size f cdv))->sp vs H Q E ->
   ∃t,PSs (MU CX P w K mg base N qual scope f cdv A outer s H E) body t/\t { nx:=λ_ H'=>Q .non H',rt:=Q } (start N vs) H) :
  A4 P w K mg base CX (k+1) f (fnOf name qual params body scope dV kV doc pm an cdv ct) ps sp:=by
 refine⟨len,λA outer s H args us vs Q E hr e0 hb r hsp=>?_⟩;have hl:=len _ _ _ _ hsp;have KX:K.In s.heap:=e0.mod.kin.keeps λb o e=>(e0.bs b o e).1;have lim:s.heap.NoLimit:=e0.mod.nolimit.keeps λb o e=>(e0.bs b o e).1
 have hkind:∀y∈ps.zip us,scope.names.lookup y.1=some .local\/(scope.names.lookup y.1=some .cell/\((cellsFrom (s.heap.objs.size+1) scope.names []).lookup y.1).isSome=true):=fun⟨n,v⟩ hy=>by
  rcases S.par n (iA hy).1 with q | q
  ·exact .inl q
  ·exact .inr ⟨q,PySem.W.cellsFrom_some _ _ _ (.inl q)⟩
 refine codeAny_call_function hr.depth (KX _ _ lk) rfl S.co S.gen rfl (PySem.W.codeRec_of KX hcd) (hb _ _ _ _ ?_);refine wpAny_newFunctionEnv_cells S.kind hkind λenv he s1 x=>?_;subst he;refine⟨lim.keeps x.toInCall.keep,codeAny_func ?_⟩;obtain⟨t,ht,hq⟩:=hbody A outer s H vs Q E (hr.deeper _) hsp;have I:Inv (MU CX P w K mg base N qual scope f cdv A outer s H E) [] (start N vs) H s1:=Tw S hr.hd e0 hl r x;refine e7 (ht [] s1 (start N vs) H _ I hq) (λfl s' hs=>?_) λe s' hs=>hs
 have fin:∀{zZ:St} {H':Hp} {v:V} {u:Db},Inv (MU CX P w K mg base N qual scope f cdv A outer s H E) [] zZ H' s'->RelV v u->Q v H'->CE outer P w H s Q u s' :=
  λ{zZ H' v u} J rv q=>⟨v,H',J.os,J.bare,J.base,J.hok,rv,q⟩
 cases fl with
 | ret u =>
  obtain⟨v,zZ,H',J,rv,q⟩:=hs;exact fin J rv q
 | next =>
  obtain⟨zZ,H',J,q⟩:=hs;exact fin (v:=V.non) (u:=eS) J rfl q
 | brk =>
  obtain⟨_,_,_,q⟩:=hs;exact fq q
 | cont =>
  obtain⟨_,_,_,q⟩:=hs;exact fq q
section
variable {X:Cx}{x:Str}{p pos:Pos}{e:Expr}{es:List Expr}{t:TA}{id T:String}{r:List V->Hp->VK->Prop}
noncomputable def bS(r:List V->Hp->VK->Prop)(t:TA):TE:=λZ H Q=>t Z H λvs H1=>r vs H1 Q
theorem HN(hc:DC X (.builtin id) r)(hg:Gl X x)(hm:X.mg x=none)(hv:bootBuiltins x=some (.builtin id))(ha:PA X (e::es) t)(hn:autoParam (x ≠ "__name__") zau1._auto_1)(hdb:autoParam ((x==("__debug__":Str))=false) zau1._auto_1)
  (he:autoParam (starEach (e::es) X.env=(false,eval e X.env)::starEach es X.env) zau3._auto_1) (hpl:autoParam ((backTo pos (starEach es X.env)).any (·.1)=false) zau3._auto_1):PE X (.Call (.Name x p) (e::es) [] pos) (bS r t):=λzG s Z H Q I h=>fL (C7 I hg hm hv (ik (thn (ha _ _ s Z H _ I h) λus s1 ⟨vs,H1,I1,r1,q1⟩=>hc _ s1 Z H1 vs us Q I1 r1 q1) he hpl) hn hdb)
theorem Mj(hc:DC X (.type T) r)(hg:Gl X x)(hm:X.mg x=none)(hv:bootBuiltins x=some (.type T))(ha:PA X (e::es) t)(hn:autoParam (x ≠ "__name__") zau1._auto_1)(hdb:autoParam ((x==("__debug__":Str))=false) zau1._auto_1)
  (he:autoParam (starEach (e::es) X.env=(false,eval e X.env)::starEach es X.env) zau3._auto_1) (hpl:autoParam ((backTo pos (starEach es X.env)).any (·.1)=false) zau3._auto_1):PE X (.Call (.Name x p) (e::es) [] pos) (bS r t):=λzG s Z H Q I h=>fL (C7 I hg hm hv (ej (thn (ha _ _ s Z H _ I h) λus s1 ⟨vs,H1,I1,r1,q1⟩=>hc _ s1 Z H1 vs us Q I1 r1 q1) he hpl) hn hdb)
end
end L2
namespace HT
section
variable {prog:Program}{w:World}{A:Around}{E:Value->Shared->Prop}{s:Shared}
theorem cat_tup{t b:Ch}{vs ws:List Db}{Q:Db->On->Prop}(ht:IsTup s.heap t vs.toArray)(hb:IsTup s.heap b ws.toArray)(hv:vs≠[])
  (h1:ws=[]->Q (.ref t) s) (h2:ws≠[]->Q (.ref s.heap.objs.size) { s with heap:=s.heap.push { cls:=.type "tuple",data:=.seq (vs++ws).toArray } })
  (hsz:vs.length+ws.length<=sizeLine):wpAny (model prog w) A (binaryOp .Add (.ref t) (.ref b)) Q E s:=by
 obtain⟨⟨cls,dd,data,sl⟩,ho,hc,n,hd⟩:=id ht;obtain⟨⟨cls2,dd2,data2,sl2⟩,ho2,hc2,n2,hd2⟩:=id hb;simp only at hc hd hc2 hd2;subst hc hd hc2 hd2
 by_cases hw:ws=[]
 ·exact concat_meets ⟨_,ho,rfl⟩ ⟨_,ho2,rfl⟩ jg seq_tuple_add PySem.F.slot_tuple_add PySem.F.entry_tuple_add (PySem.F.args_tuple_add_2 _ _)
   (tuple_addW1 t b vs.toArray ws.toArray n n2 dd dd2 sl sl2 (by simp_all) (by simp [hw])) ⟨ho,ho2,h1 hw⟩
 ·refine concat_meets ⟨_,ho,rfl⟩ ⟨_,ho2,rfl⟩ jg seq_tuple_add PySem.F.slot_tuple_add PySem.F.entry_tuple_add (PySem.F.args_tuple_add_2 _ _)
   (tuple_addW2 t b vs.toArray ws.toArray n n2 dd dd2 sl sl2 (by grind) (by grind) (by omega)) ⟨ho,ho2,?_⟩
  simp_all
noncomputable def sIx(n d:Nat):Option Int->Nat
 | none=>d
 | some v=>if v<0 then (v+(n:Int)).toNat else min v.toNat n
theorem sIx_none(n d:Nat):sIx n d none=d:=rfl
theorem sIx_nat(n d k:Nat):sIx n d (some (k:Int))=min k n:=by
 show (if k<0 then ((k:Int)+n).toNat else min _ n)=min k n;rw [if_neg (by omega),gx]
theorem Yi(n d:Nat)(hd:d<=n)(o:Option Int):sIx n d o<=n:=by
 cases o with
 | none=>exact hd
 | some v =>
  show (if v<0 then (v+n).toNat else min _ n)<=n
  grind
theorem Sa(v:Int)(n d:Nat):(if v<0 then max (v+(n:Int)) 0 else min v (n:Int))=((sIx n d (some v):Nat):Int):=by
 show (if v<0 then max _ 0 else min v _)=(if v<0 then (v+n).toNat else min _ n)
 grind
theorem RR(lo hi:Option Int)(n:Nat):gY lo hi 1 (n:Int)=(((sIx n 0 lo:Nat):Int),((sIx n n hi:Nat):Int)):=by
 refine Prod.ext ?_ ?_
 ·cases lo with
  | none=>rfl
  | some v=>exact Sa v n 0
 ·cases hi with
  | none=>rfl
  | some v=>exact Sa v n n
theorem Qr(i j:Nat):fc (i:Int) (j:Int) 1=j - i:=by
 unfold fc
 grind
theorem slicePart_{v:Db}{o:Option Int}{Q:Option Int->On->Prop}(p:im v o)(h:Q o s):wpAny (model prog w) A (Builtin.Slice.slicePartIndex v) Q E s:=by
 cases p with
 | none=>exact slicePart_none h
 | int i t=>exact slicePart_int h
theorem sliceApplied_gen{sl:Ch}{vl vu:Db}{lo hi:Option Int}{n:Nat}{Q:Int×Int×Nat->On->Prop}(hs:s.heap.IsSliceOf sl vl vu .none)(pl:im vl lo)(pu:im vu hi)
  (h:Q (((sIx n 0 lo:Nat):Int),1,sIx n n hi - sIx n 0 lo) s):wpAny (model prog w) A (jL (.ref sl) (pure (n:Int))) Q E s:=by
 obtain⟨os,hos,hcs,hds⟩:=id hs;refine Ev (Ev (fC hos hds (x:=vl) rfl (Ev (fC hos hds (x:=vu) rfl (Ev (fC hos hds (x:=.none) rfl (T0 ?_)))))));refine Ev (slicePart_none ?_);refine Ev (slicePart_ pl (Ev (slicePart_ pu (Ev (T0 ?_)))));show wpAny _ _ (match gY lo hi 1 (n:Int) with | (lo,hi)=>pure (lo,(1:Int),fc lo hi 1)) _ _ s;rw [RR lo hi n];show wpAny _ _ (pure _) _ _ s;rw [Qr];exact T0 h
theorem VB(xs:Array Db)(i k:Nat):((eP k).filterMap fun(m:Nat)=>xs[((i:Int)+(m:Int)*1).toNat]?).toArray=((xs.toList.drop i).take k).toArray:=by
 have e:(fun(m:Nat)=>xs[((i:Int)+(m:Int)*1).toNat]?)=λm=>xs[i+m]?:=by
  grind
 rw [e]
 have:=pick_run xs i k
 rw [jF] at this;have e2:((λx=>xs[x]?)∘λx=>i+x)=λm=>xs[i+m]?:=rfl
 grind
theorem getItem_tuple_cut{t sl:Ch}{items:Array Db}{vl vu:Db}{lo hi:Option Int}{Q:Db->On->Prop}(ht:IsTup s.heap t items)(hs:s.heap.IsSliceOf sl vl vu .none)(pl:im vl lo)(pu:im vu hi)
  (hw:¬(sIx items.size 0 lo=0/\sIx items.size items.size hi=items.size))
  (h:Q (.ref s.heap.objs.size) { s with heap:=s.heap.push { cls:=.type "tuple",data:=.seq ((items.toList.drop (sIx items.size 0 lo)).take (sIx items.size items.size hi - sIx items.size 0 lo)).toArray } })
  (hsz:items.size<=sizeLine):wpAny (model prog w) A (getItem (.ref t) (.ref sl)) Q E s:=by
 have htake:sizeOk (.seq ((items.toList.drop (sIx items.size 0 lo)).take (sIx items.size items.size hi - sIx items.size 0 lo)).toArray):=by
  show ((items.toList.drop (sIx items.size 0 lo)).take (sIx items.size items.size hi - sIx items.size 0 lo)).toArray.size<=sizeLine;rw [dW,g_,List.length_drop,fE];omega
 have hj:sIx items.size items.size hi<=items.size:=Yi _ _ (Op _) hi;obtain⟨os,hos,hcs,hds⟩:=id hs;have hTs:s.TypeIs (.ref sl) "slice":=⟨os,hos,hcs⟩;unfold getItem
 try with_reducible refine fI ?_
 first | refine Ev (T0 ?_) | skip
 refine Ev (jR ht.typeIs (by decide) ?_)
 refine Ev (fT (name:=gK "__getitem__") ht.typeIs eJ
  (gF eJ ht.typeIs i7 ?_ (jG _ _)))
 show wpAny _ _ (hZ (.ref t) >>= _) _ _ s;refine Ev (tupleItemsOf_ ht ?_);refine Ev (g0 hTs ?_);rw [if_pos (by decide)];refine Ev (sliceApplied_gen hs pl pu ?_)
 have hno:¬((((sIx items.size 0 lo:Nat):Int)==0&&(1:Int)==1&&(sIx items.size items.size hi - sIx items.size 0 lo)==items.size)=true):=by
  grind
 show wpAny _ _ (if (((sIx items.size 0 lo:Nat):Int)==0&&(1:Int)==1&&(sIx items.size items.size hi - sIx items.size 0 lo)==items.size)=true then _ else _) _ _ s;rw [if_neg hno,VB]
 first
  | exact Ev (m:=gh _) (fw (T0 ⟨_,rfl,T0 h⟩) htake)
  | grind
  | grind
  | grind
end
end HT
namespace L2
noncomputable abbrev TO:=St->Hp->(Option Int->Hp->Prop)->Prop
noncomputable def PO(X:Cx)(e:Option d6)(t:TO):Prop :=
 ∀(zG:List (Ch×Obj)) (s:On) (Z:St) (H:Hp) (Q:Option Int->Hp->Prop),Inv X zG Z H s->t Z H Q ->
  wpAny (model X.prog X.w) X.A (evalPart e X.env) (λu s'=>∃o H',Inv X zG Z H' s'/\im u o/\Q o H') X.xe s
noncomputable def Wh:TO:=λ_ H Q=>Q none H
noncomputable def Z6(t:TE):TO:=λZ H Q=>t Z H λx H1=>∃i,x=.int i/\Q (some i) H1
section
variable {X:Cx}{e:Expr}{te:TE}{lo hi:Option Expr}{tl th:TO}{pos p2:Pos}
theorem Rx:PO X none Wh:=λzG s Z H Q I h=>T0 ⟨_,H,I,.none,h⟩
theorem Rv(h:PE X e te):PO X (some e) (Z6 te):=by
 intro zG s Z H Q I hw;refine thn (h _ s Z H _ I hw) λu s1 ⟨x,H1,I1,r1,q1⟩=>?_;obtain⟨i,rfl,q⟩:=q1;obtain⟨t,rfl⟩:=r1;exact⟨_,H1,I1,.int i t,q⟩
noncomputable def SlR(X:Cx)(r:V->Option Int->Option Int->Hp->VK->Prop):Prop :=
 ∀(zG:List (Ch×Obj)) (s:On) (Z:St) (H:Hp) (x:V) (v vl vu:Db) (lo hi:Option Int) (sl:Ch) (Q:VK),Inv X zG Z H s->RelV x v->s.heap.IsSliceOf sl vl vu .none->im vl lo->im vu hi->r x lo hi H Q ->
  ∃T id,typeLookup (.type T) "__getitem__"=pure (some (.builtin id))/\s.TypeIs v T/\wpAny (model X.prog X.w) X.A (getItem v (.ref sl)) (EP X zG Z Q) X.xe s
theorem SlR.or{r r':V->Option Int->Option Int->Hp->VK->Prop}(h:SlR X r)(h':SlR X r'):SlR X (λx lo hi H Q=>r x lo hi H Q\/r' x lo hi H Q):=by
 intro zG s Z H x v vl vu lo hi sl Q I rx hs pl pu q
 rcases q with q | q
 ·exact h _ s Z H x v vl vu lo hi sl Q I rx hs pl pu q
 ·exact h' _ s Z H x v vl vu lo hi sl Q I rx hs pl pu q
noncomputable def c8(r:V->Option Int->Option Int->Hp->VK->Prop)(te:TE)(tl th:TO):TE:=λZ H Q=>te Z H λx H1=>tl Z H1 λl H2=>th Z H2 λu H3=>r x l u H3 Q
theorem O_{r:V->Option Int->Option Int->Hp->VK->Prop}(hr:SlR X r)(he:PE X e te)(hl:PO X lo tl)(hu:PO X hi th):PE X (.Subscript e (.Slice lo hi none p2) pos) (c8 r te tl th):=by
 intro zG s Z H Q I h;refine Subscript_ (thn (he zG s Z H _ I h) λv s1 ⟨x,H1,I1,r1,q1⟩=>?_);refine wpAny_Slice (thn (hl zG s1 Z H1 _ I1 q1) λvl s2 ⟨l,H2,I2,pl,q2⟩=>thn (hu zG s2 Z H2 _ I2 q2) λvu s3 ⟨u,H3,I3,pu,q3⟩=>?_);rw [evalPart_none];refine T0 ?_;have I4:Inv X zG Z H3 { s3 with heap:=s3.heap.push { cls:=.type "slice",data:=.fields #[vl,vu,.none] } }:=I3.kept (t':=s3.toks) λb ob q=>FM _ q;obtain⟨T,id,hT,ht,hg⟩:=hr zG { s3 with heap:=s3.heap.push { cls:=.type "slice",data:=.fields #[vl,vu,.none] } } Z H3 x v vl vu l u s3.heap.objs.size Q I4 r1 (kN ..) pl pu q3;show wpAny (model X.prog X.w) X.A (subscriptTail e (.Slice lo hi none p2) v (.ref s3.heap.objs.size)) (EP X zG Z Q) X.xe { s3 with heap:=s3.heap.push { cls:=.type "slice",data:=.fields #[vl,vu,.none] } };exact tail_any (ops:=[.ref s3.heap.objs.size,v]) ht hT hg (by with_unfolding_all rfl)
noncomputable def P1(xs:List V)(lo hi:Option Int):List V:=(xs.drop (HT.sIx xs.length 0 lo)).take (HT.sIx xs.length xs.length hi - HT.sIx xs.length 0 lo)
theorem JT(xs:List V)(lo hi:Option Int):(P1 xs lo hi).length<=xs.length:=by
 unfold P1
 grind
noncomputable def aH(K:Frag):V->Option Int->Option Int->Hp->VK->Prop:=λx lo hi H Q=>∃a xs,x=.ref a/\SqT K H a xs /\
 ¬(HT.sIx xs.length 0 lo=0/\HT.sIx xs.length xs.length hi=xs.length)/\∀p,H p=none->Q (.ref p) (BD H p (.tup (P1 xs lo hi)))
theorem sl_tup:SlR X (aH X.K):=by
 intro zG s Z H x v vl vu lo hi sl Q I rx hs pl pu h;obtain⟨a,xs,rfl,hx,hw,q⟩:=h;cases rx;obtain⟨its,r,ht,hz⟩:=I.tuple hx;have hlen:its.toArray.size=xs.length:=by exact r.length.symm
 refine⟨_,_,eJ.lookup,ht.typeIs,?_⟩;refine HT.getItem_tuple_cut ht hs pl pu (by grind) ?_ (by simp_all);rw [hlen];refine⟨.ref _,_,I.laid (λb ob q=>FM _ q) (Op _) ?_,rfl,q _ (I.hok.fresh (Op _))⟩;exact⟨dn (JT xs lo hi) hz,_,(r.drop _).take _,IsTupN.new _ _⟩
noncomputable def U3(K:Frag):R2:=λx y H Q=>∃a b xs ys,x=.ref a/\y=.ref b/\SqT K H a xs/\SqT K H b ys/\xs≠[]/\xs.length+ys.length<=sizeLine /\
 (ys=[]->Q (.ref a) H)/\(ys≠[]->∀p,H p=none->Q (.ref p) (BD H p (.tup (xs++ys))))
theorem Vals.nil_iff{xs:List V}{us:List Db}(r:Vals xs us):us=[]↔xs=[]:=by
 cases r with
 | nil=>simp
 | cons _ _=>simp
theorem op_catT:OpR X (binaryOp .Add) (U3 X.K):=by
 intro zG s Z H x y v u Q I rx ry h;obtain⟨a,b,xs,ys,rfl,rfl,ha,hb,hx,hz,q1,q2⟩:=h;cases rx;cases ry;obtain⟨its,r1,p1,_⟩:=I.tuple ha;obtain⟨its2,r2,p2,_⟩:=I.tuple hb;refine HT.cat_tup p1 p2 (λz=>hx (r1.nil_iff.mp z)) (λz=>⟨.ref a,H,I,rfl,q1 (r2.nil_iff.mp z)⟩) (λz=>?_) (by rw [← r1.length,← r2.length]; exact hz);refine⟨.ref _,_,I.laid (λb ob q=>FM _ q) (Op _) ?_,rfl,q2 (λw=>z (r2.nil_iff.mpr w)) _ (I.hok.fresh (Op _))⟩;exact⟨by simp_all,_,r1.append r2,IsTupN.new _ _⟩
end
noncomputable def Vc(n:Nat)(i:Int):Option Nat:=if 0<=i then (if i<n then some i.toNat else none) else if -(n:Int)<=i then some (i+n).toNat else none
noncomputable def atI{α:Type}(xs:List α)(i:Int):Option α:=(Vc xs.length i).bind λj=>xs[j]?
theorem OD{n:Nat}{i:Int}{j:Nat}(h:Vc n i=some j):seqIndex? i n=some j/\j<n/\-(n:Int)<=i/\i<n:=by
 unfold Vc at h
 by_cases h0:0<=i
 ·rw [if_pos h0] at h
  by_cases h1:i<n
  ·rw [if_pos h1] at h
   have e:i.toNat=j:=dh h;exact⟨by rw [seqIndex_of h0 h1,e],by omega,by omega,h1⟩
  grind
 ·rw [if_neg h0] at h
  by_cases h1:-(n:Int)<=i
  ·rw [if_pos h1] at h
   have e:(i+n).toNat=j:=dh h;exact⟨by rw [seqIndex_neg (by omega) h1,e],by omega,h1,by omega⟩
  grind
theorem OV{α:Type}{xs:List α}{i:Int}{v:α}(h:atI xs i=some v):∃j,seqIndex? i xs.length=some j/\xs[j]?=some v/\j<xs.length/\-(xs.length:Int)<=i/\i<xs.length:=by
 unfold atI at h;cases e:Vc xs.length i with
 | none=>simp_all
 | some j =>
  obtain⟨h1,h2,h3,h4⟩:=OD e
  simp_all
theorem AJ{α:Type}{xs:List α}{j:Nat}{v:α}(h:xs[j]?=some v):atI xs (j:Int)=some v:=by
 have hj:=(Uf.mp h).1
 have e:Vc xs.length j=some j:=by
  unfold Vc
  simp_all
 unfold atI; grind
theorem WD{α:Type}(xs:List α)(v:α):atI (xs++[v]) (-1)=some v:=by
 have e:Vc (xs++[v]).length (-1)=some xs.length:=by
  unfold Vc
  grind
 unfold atI
 grind
noncomputable def Ss(b:d6):Prop:=∀o i,subscripted b false o i=operate [o,i] (getItem o i)
noncomputable def IxR(X:Cx)(r:R2):Prop :=
 ∀(value slice:d6) (zG:List (Ch×Obj)) (s:On) (Z:St) (H:Hp) (x y:V) (v u:Db) (Q:VK),Inv X zG Z H s->RelV x v->RelV y u->r x y H Q ->
  subscripted slice false v u=operate [v,u] (getItem v u)->wpAny (model X.prog X.w) X.A (subscriptTail value slice v u) (EP X zG Z Q) X.xe s
noncomputable def bP(X:Cx)(id:String)(r:V->List V->Hp->VK->Prop):Prop :=
 ∀(zG:List (Ch×Obj)) (s:On) (Z:St) (H:Hp) (x:V) (xs:List V) (v:Db) (us:List Db) (Q:VK),Inv X zG Z H s->RelV x v->Vals xs us->r x xs H Q ->
  wpAny (model X.prog X.w) X.A (call (.builtin id) (v::us)) (EP X zG Z Q) X.xe s
section
variable {X:Cx}{a b:Expr}{ta tb:TE}{pos:Pos}
theorem IxR.or{r r':R2}(h:IxR X r)(h':IxR X r'):IxR X (λx y H Q=>r x y H Q\/r' x y H Q):=by
 intro value slice zG s Z H x y v u Q I rx ry q hs
 rcases q with q | q
 ·exact h _ _ _ s Z H x y v u Q I rx ry q hs
 ·exact h' _ _ _ s Z H x y v u Q I rx ry q hs
theorem FE{r:R2}(hr:IxR X r)(ha:PE X a ta)(hb:PE X b tb)(hs:Ss b):PE X (.Subscript a b pos) (EH r ta tb):=λzG s Z H Q I h=>Subscript_ (Zf ha hb I h λv u s2 x y H2 I2 rx ry q=>hr a b _ s2 Z H2 x y v u Q I2 rx ry q (hs _ _))
noncomputable def Yp(K:Frag):R2:=λx y H Q=>∃p xs i v,x=.ref p/\y=.int i/\SqL K H p xs/\atI xs i=some v/\Q v H
noncomputable def aO(K:Frag):R2:=λx y H Q=>∃p xs i v,x=.ref p/\y=.int i/\SqT K H p xs/\atI xs i=some v/\Q v H
noncomputable def aP:R2:=λx y H Q=>∃z i c,x=.str z/\y=.int i/\z.length<=sizeLine/\atI z.cps.toList i=some c/\Q (.str ⟨#[c]⟩) H
theorem ix_list:IxR X (Yp X.K):=by
 intro value slice zG s Z H x y v u Q I rx ry h hs;obtain⟨p,xs,i,z,rfl,rfl,hq,he,q⟩:=h;cases rx;obtain⟨t,rfl⟩:=ry;obtain⟨its,r,pl,hz⟩:=I.list hq;obtain⟨j,h1,h2,h3,h4,h5⟩:=OV he;obtain⟨w,ew,rw'⟩:=r.get h2;have hl:=r.length;have hn:=Iq;have fin:EP X zG Z Q w s:=⟨z,H,I,rw',q⟩
 by_cases h0:0<=i
 ·have hj:i.toNat=j:=by
   rw [seqIndex_of h0 h5] at h1
   grind
  exact item_listR pl.isList h0 (by omega) (by rw [hj]; simpa using ew) fin hs
 ·have hj:(i+(its.toArray.size:Int)).toNat=j:=by
   rw [seqIndex_neg (by omega) h4] at h1
   grind
  exact subscriptTail_builtinR (x:=w) pl.isList.typeIs jS.lookup
   (wpAny_getItem_list_neg (Q:=λr s'=>r=w/\EP X zG Z Q r s') pl.isList (by omega) (by grind) (by omega) (by grind) ⟨rfl,fin⟩) hs
theorem ix_tup:IxR X (aO X.K):=by
 intro value slice zG s Z H x y v u Q I rx ry h hs;obtain⟨p,xs,i,z,rfl,rfl,hq,he,q⟩:=h;cases rx;obtain⟨t,rfl⟩:=ry;obtain⟨its,r,pl,hz⟩:=I.tuple hq;obtain⟨j,h1,h2,h3,h4,h5⟩:=OV he;obtain⟨w,ew,rw'⟩:=r.get h2;have hl:=r.length;have hn:=Iq
 exact subscriptTail_builtinR pl.typeIs eJ.lookup
  (getItem_tuple (j:=j) pl (by omega) (by omega) (by grind) (by grind) ⟨rfl,⟨z,H,I,rw',q⟩⟩) hs
theorem ZM:IxR X aP:=by
 intro value slice zG s Z H x y v u Q I rx ry h hs;obtain⟨z,i,c,rfl,rfl,hz,he,q⟩:=h;obtain⟨t,rfl⟩:=rx;obtain⟨t',rfl⟩:=ry;obtain⟨j,h1,h2,h3,h4,h5⟩:=OV he;have hl:z.cps.toList.length=z.length:=by simp [Str.length]
 have hn:=Iq
 exact tail_any (typeIs_str s z t) slot_str_getitem.lookup (getItem_str (by
  grind) (by grind) ⟨.str _,H,I.tok _,⟨_,rfl⟩,q⟩) hs
noncomputable def ci(K:Frag):R2:=λx y H Q=>Yp K x y H Q\/aO K x y H Q\/aP x y H Q
theorem AL:IxR X (ci X.K):=ix_list.or (ix_tup.or ZM)
theorem Q5(its:List Db)(n j:Nat)(u:Db):e8 (·.setIfInBounds j u) { cls:=.type "list",data:=.seq its.toArray n }={ cls:=.type "list",data:=.seq (its.set j u).toArray n }:=by
 simp [e8]
theorem Inv.lst{zG:List (Ch×Obj)}{Z:St}{H:Hp}{s:On}{p:Ch}{xs:List V}(I:Inv X zG Z H s)(h:H p=some (.lst xs)) :
  ∃(its:List Db) (n:Nat),Vals xs its/\s.heap.get? p=some { cls:=.type "list",data:=.seq its.toArray n }/\xs.length<=sizeLine:=by
 obtain⟨z,its,n,r,e⟩:=I.hok p _ h;exact⟨_,n,r,e,z⟩
theorem Inv.lstUpd{zG:List (Ch×Obj)}{Z:St}{H:Hp}{s:On}{p:Ch}{xs ys:List V}{its its':List Db}{n n':Nat}{f:Obj->Obj}(I:Inv X zG Z H s)(h:H p=some (.lst xs))
  (ho:s.heap.get? p=some { cls:=.type "list",data:=.seq its.toArray n }) (hf:f { cls:=.type "list",data:=.seq its.toArray n }={ cls:=.type "list",data:=.seq its'.toArray n' }) (r:Vals ys its') (hz:ys.length<=sizeLine) (t:Nat) :
  Inv X zG Z (BD H p (.lst ys)) { s with heap:=s.heap.update p f,toks:=t }:=by
 have e:(s.heap.update p f).get? p=some { cls:=.type "list",data:=.seq its'.toArray n' }:=by
  rw [g7 f ho (by rw [hf] <;> rfl),hf]
 exact I.write (by rw [h]; trivial) (.inl rfl) (λb u hb q=>(dk _ _ (fF hb)).trans q) ⟨_,e⟩ ⟨hz,_,n',r,e⟩
noncomputable def X0:V->V->V->Hp->(Hp->Prop)->Prop:=λo i v H Q=>∃p xs k j,o=.ref p/\i=.int k/\H p=some (.lst xs)/\Vc xs.length k=some j/\Q (BD H p (.lst (xs.set j v)))
theorem set_list:bK X X0:=by
 intro zG s Z H o i v ov iv u Q I ro ri rv h;obtain⟨p,xs,k,j,rfl,rfl,hp,hj,q⟩:=h;cases ro;obtain⟨t,rfl⟩:=ri;obtain⟨its,n,r,ho,hz⟩:=I.lst hp;obtain⟨h1,h2,h3,h4⟩:=OD hj;have hl:=r.length;have hn:=Iq
 have I':Inv X zG Z (BD H p (.lst (xs.set j v))) { s with heap:=s.heap.update p (e8 (·.setIfInBounds j u)) } :=
  I.lstUpd hp ho (Q5 its n j u) (r.set rv j) (by simp_all) s.toks
 by_cases h0:0<=k
 ·have hk:k.toNat=j:=by
   rw [seqIndex_of h0 h4] at h1
   grind
  exact PySem.W.ki_setAt ho h0 (by omega) (by grind) (by rw [hk]; exact⟨_,I',q⟩)
 ·have hk:(k+(its.toArray.size:Int)).toNat=j:=by
   rw [seqIndex_neg (by omega) h3] at h1
   grind
  exact PySem.W.ki_setBack ho (by omega) (by grind) (by omega) (by rw [hk]; exact⟨_,I',q⟩)
theorem NW(lo hi:Option Int)(n:Nat):(sliceBounds lo hi none n).1=((HT.sIx n 0 lo:Nat):Int)/\(sliceBounds lo hi none n).2.1=((HT.sIx n n hi:Nat):Int)/\(sliceBounds lo hi none n).2.2=1:=by
 refine⟨?_,?_,rfl⟩
 ·cases lo with
  | none=>simp [sliceBounds,HT.sIx]
  | some i =>
   simp only [sliceBounds,HT.sIx,Option.getD_none,show (1:Int) > 0 by decide,if_true]
   by_cases h:i<0
   ·grind
   ·simp only [h,if_false] <;> omega
 ·cases hi with
  | none=>simp [sliceBounds,HT.sIx]
  | some i =>
   simp only [sliceBounds,HT.sIx,Option.getD_none,show (1:Int) > 0 by decide,if_true]
   by_cases h:i<0
   ·grind
   ·simp only [h,if_false] <;> omega
theorem L4(its:List Db)(lo hi:Option Int):slicePick its.toArray lo hi none=((its.drop (HT.sIx its.length 0 lo)).take (HT.sIx its.length its.length hi - HT.sIx its.length 0 lo)).toArray:=by
 obtain⟨h1,h2,h3⟩:=NW lo hi _;unfold slicePick;rw [h1,h2,h3];simp only [sliceRange_one,pick_run] <;> rfl
noncomputable def aI(K:Frag):V->Option Int->Option Int->Hp->VK->Prop:=λx lo hi H Q=>∃a xs,x=.ref a/\SqL K H a xs/\∀p,H p=none->Q (.ref p) (BD H p (.lst (P1 xs lo hi)))
theorem sl_list:SlR X (aI X.K):=by
 intro zG s Z H x v vl vu lo hi sl Q I rx hs pl pu h;obtain⟨a,xs,rfl,hx,q⟩:=h;cases rx;obtain⟨its,r,ht,hz⟩:=I.list hx;have hlen:=r.length;refine⟨_,_,jS.lookup,ht.isList.typeIs,?_⟩;refine wpAny_getItem_list_slice ht.isList hs pl pu .none (by simp) ?_ (by grind);rw [L4,← hlen];refine⟨.ref _,_,I.laid (λb ob q=>FM _ q) (Op _) ?_,rfl,q _ (I.hok.fresh (Op _))⟩;exact⟨dn (JT xs lo hi) hz,_,0,(r.drop _).take _,UF _ rfl⟩
noncomputable def X9:V->Bool
 | .non=>true
 | .bl _=>true
 | .int _=>true
 | .str _=>true
 | _=>false
noncomputable def ay:V->V->Bool
 | .non,.non=>true
 | .bl a,.bl b=>a==b
 | .bl a,.int b=>(if a then 1 else 0)==b
 | .int a,.bl b=>a==(if b then 1 else 0)
 | .int a,.int b=>a==b
 | .str a,.str b=>a==b
 | _,_=>false
theorem OJ{A:eX}{s:On}{y x:V}{u v:Db}(ry:RelV y u)(rx:RelV x v)(fy:X9 y=true)(fx:X9 x=true):SeqAt.EqAt A s u v (ay y x):=by
 cases y with
 | non =>
  cases ry;cases x with
  | non=>cases rx; exact SeqAt.EqAt.same _
  | bl b=>cases rx; exact SeqAt.EqAt.none_bool b
  | int b=>obtain⟨t,rfl⟩:=rx; exact SeqAt.EqAt.none_int b t
  | str b=>obtain⟨t,rfl⟩:=rx; exact SeqAt.EqAt.none_str b t
  | _=>exact absurd (show false=true from fx) dr
 | bl a =>
  cases ry;cases x with
  | non=>cases rx; exact SeqAt.EqAt.bool_none a
  | bl b=>cases rx; exact SeqAt.EqAt.bool_bool a b
  | int b=>obtain⟨t,rfl⟩:=rx; exact SeqAt.EqAt.bool_int a b t
  | str b=>obtain⟨t,rfl⟩:=rx; exact SeqAt.EqAt.bool_str a b t
  | _=>exact absurd (show false=true from fx) dr
 | int a =>
  obtain⟨t',rfl⟩:=ry;cases x with
  | non=>cases rx; exact SeqAt.EqAt.int_none a t'
  | bl b=>cases rx; exact SeqAt.EqAt.int_bool a t' b
  | int b=>obtain⟨t,rfl⟩:=rx; exact SeqAt.EqAt.int_int a t' b t
  | str b=>obtain⟨t,rfl⟩:=rx; exact kL a t' b t
  | _=>exact absurd (show false=true from fx) dr
 | str a =>
  obtain⟨t',rfl⟩:=ry;cases x with
  | non=>cases rx; exact SeqAt.EqAt.str_none a t'
  | bl b=>cases rx; exact SeqAt.EqAt.str_bool a t' b
  | int b=>obtain⟨t,rfl⟩:=rx; exact kM a t' b t
  | str b=>obtain⟨t,rfl⟩:=rx; exact SeqAt.EqAt.str_str a t' b t
  | _=>exact absurd (show false=true from fx) dr
 | _=>exact absurd (show false=true from fy) dr
theorem E4:DC X (.type "list") (λxs H Q=>∃p ys,xs=[.ref p]/\(SqL X.K H p ys\/SqT X.K H p ys)/\∀l,H l=none->Q (.ref l) (BD H l (.lst ys))):=by
 intro zG s Z H xs us Q I r h;obtain⟨p,ys,rfl,hq,q⟩:=h;obtain⟨u,rfl,rx⟩:=vals1 r;cases rx
 have fin:∀(its:List Db),Vals ys its->ys.length<=sizeLine->∀(h':dg) (c':Nat),(∀b o',s.heap.get? b=some o'->h'.get? b=some o') ->
   h'.get? s.heap.objs.size=some _->EP X zG Z Q (.ref s.heap.objs.size) { s with heap:=h' }:=λits r' hz h' c' kp e =>
  ⟨.ref s.heap.objs.size,_,I.laid (t':=s.toks) kp (Op _) (show ObjOk X.prog X.w _ h' _ (.lst ys) from⟨hz,its,c',r',e⟩),rfl,q _ (I.hok.fresh (Op _))⟩
 rcases hq with hq | hq
 ·obtain⟨its,r',pl,hz⟩:=I.list hq
  have hlen:=r'.length;obtain⟨o,ho,hc,n,hd⟩:=pl.isList;exact call_list_seq p (.inl rfl) ho hc hd (λh' c' kp e=>fin its r' hz h' c' kp e) (by grind)
 ·obtain⟨its,r',pl,hz⟩:=I.tuple hq
  have hlen:=r'.length;obtain⟨o,ho,hc,n,hd⟩:=pl;exact call_list_seq p (.inr rfl) ho hc hd (λh' c' kp e=>fin its r' hz h' c' kp e) (by grind)
theorem BM:DC X (.type "tuple") (λxs H Q=>∃p ys,xs=[.ref p]/\((SqL X.K H p ys/\∀l,H l=none->Q (.ref l) (BD H l (.tup ys)))\/(SqT X.K H p ys/\Q (.ref p) H))):=by
 intro zG s Z H xs us Q I r h;obtain⟨p,ys,rfl,h⟩:=h;obtain⟨u,rfl,rx⟩:=vals1 r;cases rx
 rcases h with ⟨hq,q⟩ | ⟨hq,q⟩
 ·obtain⟨its,r',pl,hz⟩:=I.list hq
  have hlen:=r'.length;refine call_tuple_list pl.isList (λh' kp=>?_) (by grind);have I1:=I.kept (t':=s.toks) kp;exact⟨.ref _,_,I1.laid (t':=s.toks) (λb o e=>FM _ e) (Op _) (show ObjOk _ _ _ _ _ (.tup ys) from⟨hz,_,r',IsTupN.new _ _⟩),rfl,q _ (I1.hok.fresh (Op _))⟩
 ·obtain⟨its,r',pl,hz⟩:=I.tuple hq
  exact call_tuple_same pl ⟨.ref p,H,I,rfl,q⟩
noncomputable def bj(K:Frag)(T:String)(x:V)(H:Hp):Prop:=match x with
 | .str _=>T = "str"
 | .int _=>T = "int"
 | .ref p=>(T = "list"/\∃xs,SqL K H p xs)\/(T = "tuple"/\∃o,K.lookup p=some o/\o.cls=.type "tuple"/\o.dict=none) \/
   (T = "dict"/\((∃kvs,H p=some (.dK kvs))\/∃kvs,H p=some (.dT kvs)))\/(T = "set"/\∃S n,H p=some (.set S n))
 | _=>False
theorem YX{zG:List (Ch×Obj)}{Z:St}{H:Hp}{s:On}{T:String}{x:V}{v:Db}(I:Inv X zG Z H s)(r:RelV x v)(ty:bj X.K T x H) :
  s.TypeIs v T/\∀a,v=.ref a->∃ob,s.heap.get? a=some ob/\ob.dict=none:=by
 cases x with
 | str z =>
  obtain⟨t,rfl⟩:=r;cases (show T = "str" from ty);exact⟨typeIs_str s z t,λ_ e=>nomatch e⟩
 | int i =>
  obtain⟨t,rfl⟩:=r;cases (show T = "int" from ty);exact⟨typeIs_int s i t,λ_ e=>nomatch e⟩
 | ref p =>
  cases r
  rcases ty with ⟨rfl,xs,hq⟩ | ⟨rfl,o,hk,hc,hd⟩ | ⟨rfl,hk⟩ | ⟨rfl,S,n,hk⟩
  ·obtain⟨its,_,pl,_⟩:=I.list hq
   refine⟨pl.isList.typeIs,λa e=>?_⟩;cases e;obtain⟨o,n,e,c,hd,_⟩:=pl;exact⟨o,e,hd⟩
  ·refine⟨⟨o,I.kIn p o hk,hc⟩,λa e=>?_⟩
   cases e;exact⟨o,I.kIn _ o hk,hd⟩
  ·have z:∃o,s.heap.get? p=some o/\o.ExactDict:=by
    rcases hk with ⟨kvs,hk⟩ | ⟨kvs,hk⟩
    ·obtain⟨_,_,_,_,o,_,_,e,ex,_⟩:=I.hok p _ hk
     exact⟨o,e,ex⟩
    ·obtain⟨_,_,_,_,o,_,_,e,ex,_⟩:=I.hok p _ hk
     exact⟨o,e,ex⟩
   obtain⟨o,e,ex⟩:=z;refine⟨⟨o,e,ex.1⟩,λa e2=>?_⟩;cases e2;exact⟨o,e,ex.2.1⟩
  ·obtain⟨o,_,_,_,e,ex,_⟩:=I.hok p _ hk
   refine⟨⟨o,e,ex.1⟩,λa e2=>?_⟩;cases e2;exact⟨o,e,ex.2.1⟩
 | _=>exact fq ty
noncomputable def dA(K:Frag)(T:String)(r:V->List V->Hp->VK->Prop)(to:TE)(t:TA):TE:=λZ H Q=>to Z H λx H1=>bj K T x H1/\t Z H1 λxs H2=>r x xs H2 Q
variable {o e:Expr}{es:List Expr}{to:TE}{t:TA}{name:Str}{apos cpos:Pos}{T id:String}{r:V->List V->Hp->VK->Prop}
theorem R0(pa:PlainAttrs T)(slot:Slot T name id)(hty:typeOf (.builtin id)=pure (.type "method_descriptor"))(hm:bP X id r)(ho:PE X o to)(ha:PA X (e::es) t)
  (hbase:autoParam (attributeBase o name X.env (eval o X.env)=eval o X.env) zau3._auto_1)
  (hfew:autoParam (((backTo cpos (starEach (e::es) X.env)).all (λx=>!x.1)&&(backToKw cpos (keywordEach [] X.env)).all (λx=>x.1.isSome)
   && decide ((e::es).length+([]:List gG).length+(if ([]:List gG).isEmpty then 0 else 1)<30))=true) zau3._auto_1)
  (hline:autoParam ((apos.endLine==cpos.line)=true) zau3._auto_1) (hs:autoParam (starEach (e::es) X.env=(false,eval e X.env)::starEach es X.env) zau3._auto_1) (hplain:autoParam ((backTo cpos (starEach es X.env)).any (·.1)=false) zau3._auto_1) :
  PE X (.Call (.Attribute o name apos) (e::es) [] cpos) (dA X.K T r to t):=by
 intro zG s Z H Q I h;refine wpAny_Call_method_late hbase hfew hline rfl (thn (ho _ s Z H _ I h) λv s1 ⟨x,H1,I1,r1,ty,q1⟩=>?_);obtain⟨h1,h2⟩:=YX I1 r1 ty;refine⟨T,id,pa,slot,hty,h1,h2,?_⟩;have hA:=ha cpos _ s1 Z H1 _ I1 q1;rw [hs] at hA ⊢;refine gJ (by simp_all) (hU ?_);exact thn hA λus s2 ⟨vs,H2,I2,r2,q2⟩=>hm _ s2 Z H2 x vs v us Q I2 r1 r2 q2
end
noncomputable def cX(X:Cx)(id:String)(r:V->List V->Hp->VK->Prop):Prop :=
 ∀(zG:List (Ch×Obj)) (s:On) (Z:St) (H:Hp) (x:V) (xs:List V) (v:Db) (us:List Db) (Q:VK),Inv X zG Z H s->RelV x v->Vals xs us->r x xs H Q ->
  wpAny (model X.prog X.w) X.A (call (.builtin id) (v::us)) (EP X zG Z Q) X.xe s
theorem Vals.one:∀{x:V} {us:List Db},Vals [x] us->∃u,us=[u]/\RelV x u
 | _,_,.cons r .nil=>⟨_,rfl,r⟩
theorem Vals.eraseIdx:∀{xs:List V} {us:List Db} (i:Nat),Vals xs us->Vals (xs.eraseIdx i) (us.eraseIdx i)
 | _,_,_,.nil=>.nil
 | _,_,0,.cons _ t=>t
 | _,_,i+1,.cons r t=>.cons r (Vals.eraseIdx i t)
theorem Vals.reverse{xs:List V}{us:List Db}(h:Vals xs us):Vals xs.reverse us.reverse:=by
 induction h with
 | nil=>exact .nil
 | cons r t ih=>rw [gU,gU]; exact Vals.append ih (.cons r .nil)
theorem Ir{α:Type}:∀(l:List α) (i:Nat),(l.eraseIdx i).length<=l.length
 | [],_=>Op _
 | _::_,0=>fm _
 | _::r,i+1=>jh (Ir r i)
section
variable {X:Cx}{zG:List (Addr×Obj)}{Z:St}{H:Hp}{s:Shared}{l:Addr}{xs ys:List V}
theorem Inv.lset{its its':List Db}{n:Nat}{f:Array Db->Array Db}{t':Nat}(I:Inv X zG Z H s)(hH:H l=some (.lst xs))
  (e:s.heap.get? l=some { cls:=.type "list",data:=.seq its.toArray n }) (hf:f its.toArray=its'.toArray) (hv:Vals ys its') (hz:ys.length<=sizeLine) :
  Inv X zG Z (BD H l (.lst ys)) { s with heap:=s.heap.update l (e8 f),toks:=t' }:=by
 have q:=PySem.IsL.update e f;rw [hf] at q;exact I.write (by rw [hH]; exact trivial) (.inl rfl) (λb' u hb hu=>(dk _ _ (fF hb)).trans hu) ⟨_,q⟩ ⟨hz,_,_,hv,q⟩
theorem Inv.lnew{its:List Db}{t':Nat}(I:Inv X zG Z H s)(hv:Vals ys its)(hz:ys.length<=sizeLine) :
  Inv X zG Z (BD H s.heap.objs.size (.lst ys)) { s with heap:=s.heap.push { cls:=.type "list",data:=.seq its.toArray },toks:=t' } :=
 I.laid (λ_ _ q=>FM _ q) (Op _) ⟨hz,_,0,hv,UF _ rfl⟩
theorem Inv.fresh(I:Inv X zG Z H s):H s.heap.objs.size=none:=I.hok.fresh (Op _)
theorem Inv.lstM(I:Inv X zG Z H s)(hH:H l=some (.lst xs)):xs.length<=sizeLine/\∃(its:List Db) (n:Nat),Vals xs its/\xs.length=its.length/\s.heap.get? l=some { cls:=.type "list",data:=.seq its.toArray n }:=by
 obtain⟨z,its,n,r,e⟩:=I.hok l _ hH;exact⟨z,_,n,r,r.length,e⟩
theorem VP{n:Nat}(h:n<=sizeLine):iG n=false:=by
 unfold iG
 grind
end
section
variable {X:Cx}
noncomputable def Ro:V->List V->Hp->VK->Prop:=λx vs H Q=>∃l xs y,x=.ref l/\vs=[y]/\H l=some (.lst xs)/\xs.length<sizeLine/\Q .non (BD H l (.lst (xs++[y])))
theorem DJ:cX X "list.append" Ro:=by
 intro zG s Z H x vs v us Q I rx rv h;obtain⟨l,xs,y,rfl,rfl,hH,hz,q⟩:=h;cases rx;obtain⟨u,rfl,ru⟩:=rv.one;obtain⟨z,its,n,r,hl,e⟩:=I.lstM hH;refine call_meets F.slot_list_append ⟨_,e,rfl⟩ F.entry_list_append (F.args_list_append_2 _ _) (PySem.list_append l _ n u (by grind)) ⟨e,?_⟩;refine⟨.non,_,I.lset hH e (by simp) (r.append (.cons ru .nil)) ?_,rfl,q⟩
 grind
noncomputable def Rn:V->List V->Hp->VK->Prop:=λx vs H Q=>∃l b xs zs,x=.ref l/\vs=[.ref b]/\H l=some (.lst xs)/\H b=some (.lst zs)/\xs.length+zs.length<=sizeLine/\Q .non (BD H l (.lst (xs++zs)))
theorem Mm:cX X "list.extend" Rn:=by
 intro zG s Z H x vs v us Q I rx rv h;obtain⟨l,b,xs,zs,rfl,rfl,hH,hB,hz,q⟩:=h;cases rx;obtain⟨u,rfl,ru⟩:=rv.one;cases ru;obtain⟨z,its,n,r,hl,e⟩:=I.lstM hH;obtain⟨z2,its2,n2,r2,hl2,e2⟩:=I.lstM hB;have hsz:its.toArray.size+its2.toArray.size<=sizeLine:=by grind
 have hlong:¬(!its.toArray.isEmpty&&iG (its.toArray.size+its2.toArray.size))=true:=by
  rw [VP hsz]
  grind
 refine call_meets F.slot_list_extend ⟨_,e,rfl⟩ F.entry_list_extend (F.args_list_extend_2 _ _)
  (AutoSeq1.list_extend_list_list_0 l its.toArray n b _ n2 hlong (by grind) (by omega)) ⟨e,e2,?_⟩
 refine⟨.non,_,I.lset hH e (by simp) (r.append r2) ?_,rfl,q⟩
 grind
noncomputable def Yn:V->List V->Hp->VK->Prop:=λx vs H Q=>∃l xs i k y,x=.ref l/\vs=[.int i]/\H l=some (.lst xs)/\-(2 ^ 63)<=i/\i<2 ^ 63/\seqIndex? i xs.length=some k/\xs[k]?=some y/\Q y (BD H l (.lst (xs.eraseIdx k)))
theorem PV:cX X "list.pop" Yn:=by
 intro zG s Z H x vs v us Q I rx rv h;obtain⟨l,xs,i,k,y,rfl,rfl,hH,h1,h2,hk,hy,q⟩:=h;cases rx;obtain⟨u,rfl,ru⟩:=rv.one;obtain⟨t,rfl⟩:=ru;obtain⟨z,its,n,r,hl,e⟩:=I.lstM hH;obtain⟨w,hw,rw'⟩:=r.get hy
 refine call_meets F.slot_list_pop ⟨_,e,rfl⟩ F.entry_list_pop (F.args_list_pop_2 _ _)
  (MeetsSeq.list_pop_at l its.toArray n i t k w (fitsIndex_both h1 h2) (by simp_all) (by simp_all) (by grind)) ⟨e,?_⟩
 refine⟨y,_,I.lset (its':=its.eraseIdx k) hH e ?_ (r.eraseIdx k) ?_,rw',q⟩
 ·simp_all
 ·have:=Ir xs k
  omega
end
end L2
namespace Att
open PySem.W PySem.Calls
theorem Ju{P:Params}{h:dg}:∀(ns:List Int) (vs:List Db),WellAll P h vs (ns.map WData.int)->IntsAre vs ns:=by
 intro ns
 induction ns with
 | nil =>
  intro vs w;cases w;exact .nil
 | cons n ns ih =>
  intro vs w;cases w with
  | cons a b =>
   cases a;exact .cons _ _ (ih _ b)
theorem S6{l:OpenLaw}{n:Nat}(hn:l.most=some n){P:Params}{h:dg}{args:List WData}{vals:List Db}
  (hpre:l.row.toRowW.claim.pre args=true) (hwl:WellAll P h vals args) :
  ∃a vs ns,vals=[eh a]/\args=[WData.list (ns.map WData.int)]/\h.get? a=some { cls:=.type "list",data:=.seq vs.toArray }/\IntsAre vs ns/\ns.length<=n:=by
 have hsh:WShape.hasAll [] args [.list .int]=true:=(pre_splitW hpre).1;have hc:l.pre.holds [] { args:=args }=true:=(pre_splitW hpre).2;obtain⟨d,r,rfl,h1,h2⟩:=hasAllW_cons hsh;obtain rfl:=hasAllW_nil h2;obtain⟨xs,rfl,h3⟩:=hasW_list h1;obtain⟨ns,rfl⟩:=items_int h3
 have hlen:ns.length<=n:=by
  unfold OpenLaw.pre at hc
  have h4:(WTm.not (.lt (.lit (.int (n:Int))) (.len (.arg 0)))).holds [] { args:=[.list (ns.map .int)] }=true:=by
   have h4:=(holds_andW hc).1
   grind
  have h5:=condW_of h4 (w_not (w_lt w_lit (w_len_list (w_arg rfl))))
  grind
 cases hwl with
 | cons w1 w2 =>
  cases w2;cases w1 with
  | list ho hall=>exact⟨_,_,ns,rfl,rfl,ho,Ju ns _ hall,hlen⟩
theorem TK(l:OpenLaw)(args:List WData):l.row.toRowW.claim.post args (.bool true) args=true :=
 postW_of
  (show WShape.has [] _ _=true by first | rfl | decide | omega)
  (w_eq_bool (w_res rfl) w_lit) rfl
theorem attach_call{l:OpenLaw}{n:Nat}{q:eB}{loose:List Str}{XP:(Str->Option Db)->dg->Prop}{YP:eG->dg->Prop}{d:DefRec}
  (hn:l.most=some n) (hdf:d.params.defaults=[])
  (call:∀(w:eG) (s₀ s₁:On) (mg mb:Str->Option Db) (fa:Ch) (o:Obj) (pm cd doc:Db) (a:Ch) (vs:List Db) (ns:List Int),
   Ground q loose [] XP w s₀ mg mb s₁.heap->YP w s₁.heap ->
   s₁.heap.get? fa=some o->o.data=.func (docDef d.name d.params d.body d.scope pm cd doc)->s₁.heap.CodeRec cd d.name->mg d.name=some (.ref fa) ->
   s₁.heap.get? a=some { cls:=.type "list",data:=.seq vs.toArray }->IntsAre vs ns->ns.length<=n->s₁.gens=#[] ->
   codeAny (model l.prog w) callerA (.call (.ref fa) ⟨[.ref a],[]⟩) (λr s'=>r=.ok (.ret (.bool true))/\OldK s₁.heap s'.heap/\s'.os=s₁.os/\iN s'.gens) s₁) :
  WalkO q loose XP YP l.row.toRowW d [] (λf vs=>PySem.call f vs):=by
 intro w s₀ s₁ mg mb G Y fa o pm cd doc dV kV ho hd hcd hD hmg hg args vals as hpre hlay hrd hwl hlo;obtain rfl:dV=.none:=Dflts.none hD hdf;obtain rfl:kV=.none:=Dflts.noKw hD;obtain⟨a,vs,ns,rfl,rfl,hobj,hints,hlen⟩:=S6 hn hpre hwl;refine enter_call (iF (call w s₀ s₁ mg mb fa o pm cd doc a vs ns G Y ho (fd_plain hd) hcd hmg hobj hints hlen hg) λr s' hq=>?_);obtain⟨rfl,h2,h3,h4⟩:=hq;exact⟨.inl ⟨.bool true,.bool true,[],rfl,λ_=>rfl,.bool true,TK l _,λ_=>⟨List.Pairwise.nil,λ_ hm=>(nomatch hm)⟩⟩,h2,h3,h4⟩
end Att
namespace L2
theorem MZ:∀{vs:List Db} {ns:List Int},IntsAre vs ns->Vals (ns.map V.int) vs
 | _,_,.nil=>.nil
 | _,_,.cons n t h=>.cons ⟨t,rfl⟩ (MZ h)
noncomputable def Zo(H:Hp):Prop:=∀b,H b=none\/∃o xs,H b=some (.frz o (.lst xs))
theorem VZ{P:eB}{w:eG}{K:Frag}{mg mb:Str->Option Db}{CX:WT}{k:Nat}{fa a:Ch}{fd:eY}{x:Str}{sp:Sp}{s₁:On}{vs:List Db}{ns:List Int}
  (KX:K.In s₁.heap) (hns:s₁.heap.Ns mainGlobals mg) (hb:s₁.heap.Ns builtinsNs mb) (hbb:∀x:Str,x ≠ "__name__"->mb x=bootBuiltins x) (hlim:s₁.heap.NoLimit) (hg:s₁.gens=#[])
  (ha:s₁.heap.get? a=some { cls:=.type "list",data:=.seq vs.toArray }) (hi:IntsAre vs ns) (hl:ns.length<=sizeLine) (hr:Room k callerA)
  (F:∀base:dg,K.In base->base.Ns mainGlobals mg->A4 P w K mg base CX k fa fd [x] sp) (hbind:∀(s:On) (u:Db),je s fd ⟨[u],[]⟩ [(x,u)])
  (hsp:∀H:Hp,Zo H->SqL K H a (ns.map V.int)->sp [.ref a] H (λv _=>v=.bl true) λ_ _ _=>False)
  (hCX:∀H e s',CX [] H s₁ (λ_ _ _=>False) e s'->False) :
  codeAny (model P w) callerA (.call (.ref fa) ⟨[.ref a],[]⟩) (λr s'=>r=.ok (.ret (.bool true))/\OldK s₁.heap s'.heap/\s'.os=s₁.os/\iN s'.gens) s₁:=by
 have rv:=MZ hi;have lenV:=hi.length
 have core:∀H:Hp,Zo H->SqL K H a (ns.map V.int)->HOk P w H s₁.heap->(∀b,H b≠none->b=a)->(H a≠none->K.lookup a=none) ->
   codeAny (model P w) callerA (.call (.ref fa) ⟨[.ref a],[]⟩) (λr s'=>r=.ok (.ret (.bool true))/\OldK s₁.heap s'.heap/\s'.os=s₁.os/\iN s'.gens) s₁:=by
  intro H hO hS hok hA hK;have base_of:∀{b:Ch} {o:Obj},s₁.heap.get? b=some o->H b=none->(OF s₁.heap H).get? b=some o:=λe n=>Vk e n
  have noA:∀{b:Ch} {o:Obj} {es:Array DictEntry} {ep:Nat},s₁.heap.get? b=some o->o.data=.dict es ep->H b=none:=λ{b o es ep} e d=>by
   cases q:H b with
   | none=>rfl
   | some u =>
    have e':b=a:=hA b (by rw [q]; simp);subst e';rw [ha] at e; cases e
    have d':Data.seq vs.toArray _=Data.dict es ep:=d;cases d'
  have nsK:∀{b:Ch} {m:Str->Option Db},s₁.heap.Ns b m->(OF s₁.heap H).Ns b m:=λ{b m} ⟨o,es,ep,e,d,r⟩=>⟨o,es,ep,base_of e (noA e d),d,r⟩
  have hKb:K.In (OF s₁.heap H):=λb o e=>base_of (KX b o e) (by
   cases q:H b with
   | none=>rfl
   | some u =>
    have e':b=a:=hA b (by rw [q]; simp);subst e';rw [hK (by rw [q]; simp)] at e; cases e)
  have hM:Mod K mg (OF s₁.heap H):=⟨hKb,nsK hns,⟨mb,nsK hb,hbb⟩,let ⟨mc,h1,h2⟩:=hlim; ⟨mc,nsK h1,h2⟩⟩;have e0:Env0 P w K mg (OF s₁.heap H) callerA [] s₁ H:=⟨rfl,hM,λb o e=>W8 e,ji (Tx _ _),trivial,λb hb=>absurd (show b∈([]:List Ch) from hb) (by simp),hok,.of_eq hg⟩;refine iF ((F _ hKb (nsK hns)).run callerA [] s₁ H ⟨[.ref a],[]⟩ [.ref a] [.ref a] _ _ hr e0 (hbind s₁ (.ref a)) (.cons rfl .nil) (hsp H hO hS)) λr s' h=>?_;cases r with
  | error e=>exact(hCX H e s' h).elim
  | ok fl =>
   cases fl with
   | next=>exact fq h
   | brk=>exact fq h
   | cont=>exact fq h
   | ret u =>
    obtain⟨v,H',os,bare,un,hok',r',q⟩:=h;have q':v=.bl true:=q;subst q';obtain rfl:u=jZ true:=r';refine⟨rfl,OldK.of_keep λb o e=>?_,os,bare⟩;cases q:H b with
    | none=>exact un.keep b o e q (by intro z; exact absurd (show b∈([]:List Ch) from z) (by simp)) (by simp)
    | some u =>
     rcases hO b with z | ⟨ob,xs,z⟩
     ·rw [q] at z; cases z
     ·have z2:=un.frzs b ob _ z
      obtain⟨e1,_⟩:=hok b _ z;obtain⟨e2,_⟩:=hok' b _ z2;rw [e] at e1; cases e1
      exact e2
 cases hk:K.lookup a with
 | some o =>
  have e:=KX a o hk;rw [ha] at e;cases e;refine core (λ_=>none) (λ_=>.inl rfl) (.inr ⟨_,vs.toArray,_,hk,rfl,rfl,rfl,by rw [dW,lenV]; exact hl,by simpa using rv⟩) (λb u z=>by have z':(none:Option HO)=some u:=z; cases z') (λb z=>absurd rfl z) λz=>absurd rfl z
 | none =>
  refine core (λb=>if b=a then some (.frz { cls:=.type "list",data:=.seq vs.toArray } (.lst (ns.map V.int))) else none) (λb=>?_) (.inl (.inr ⟨{ cls:=.type "list",data:=.seq vs.toArray },if_pos rfl⟩)) (λb u z=>?_) (λb z=>?_) λ_=>hk
  ·by_cases hb:b=a
   ·exact .inr ⟨_,_,if_pos hb⟩
   ·exact .inl (if_neg hb)
  ·by_cases hb:b=a
   ·have z':=(if_pos hb).symm.trans z
    cases z';subst hb;exact⟨ha,by rw [Go]; exact hl,vs,_,rv,ha⟩
   ·have z':=(if_neg hb).symm.trans z
    cases z'
  ·by_cases hb:b=a
   ·exact hb
   ·exact absurd (if_neg hb) z
theorem RY{l:PySem.W.OpenLaw}{n k:Nat}{q:eB}{loose:List Str}{XP:(Str->Option Db)->dg->Prop}{YP:eG->dg->Prop}{d:DefRec}{K:Params->Frag}{CX:eG->WT}{sp:eG->Sp}{x:Str}
  (hn:l.most=some n) (hn2:n<=sizeLine) (hdf:d.params.defaults=[]) (hr:Room k callerA)
  (hY:∀(w:eG) (h:dg),YP w h->(K w.params).In h)
  (F:∀(w:eG) (mg:Str->Option Db) (fa:Ch) (h:dg),(K w.params).In h->h.Ns mainGlobals mg->mg d.name=some (.ref fa) ->
   ∃fd:eY,(∀(s:On) (u:Db),je s fd ⟨[u],[]⟩ [(x,u)]) /\
    ∀base:dg,(K w.params).In base->base.Ns mainGlobals mg->A4 l.prog w (K w.params) mg base (CX w) k fa fd [x] (sp w))
  (hsp:∀(w:eG) (H:Hp) (a:Ch) (ns:List Int),ns.length<=n->Zo H->SqL (K w.params) H a (ns.map V.int)->sp w [.ref a] H (λv _=>v=.bl true) λ_ _ _=>False)
  (hCX:∀(w:eG) (H:Hp) (s:On) (e:Db) (s':On),CX w [] H s (λ_ _ _=>False) e s'->False) :
  PySem.W.WalkO q loose XP YP l.row.toRowW d [] (λf vs=>PySem.call f vs):=by
 refine Att.attach_call hn hdf λw s₀ s₁ mg mb fa o pm cd doc a vs ns G Y ho hd hcd hmg hobj hints hlen hg=>?_;have KX:=hY w _ Y;obtain⟨fd,hb,hF⟩:=F w mg fa _ KX G.T.g hmg;exact VZ KX G.T.g G.T.b G.T.builtins G.T.nolimit hg hobj hints (dn hlen hn2) hr hF hb (λH hO hS=>hsp w H a ns hlen hO hS) λH e s'=>hCX w H _ e s'
end L2
/- THE LAST THEOREM (shape; LID, My.* are yours):
   My.Adr: a structure of the addresses that your layer names (classes, functions); My.Txt K t: a structure (Prop) of the equations over K;
   My.txt_mk : {K} {implicit addresses ..} (e1 : nsIn K mainGlobals "law" = some (some (.ref f))) (e2 : K.lookup f = some ⟨oc, od, .func (fnOf "law" "law" params body scope dV kV doc pm an cdv ct), sl⟩) (e3 : codeIn K cdv "law" = true) .. : ∃ t, My.Txt K t
set_option maxRecDepth 100000 in
set_option maxHeartbeats 0 in
theorem PySem.Challenge.cw_LID_holds : PySem.Challenge.rw_LID.Holds := by
 w_on; o_law; k_head; (case hw=>w_witness2)
 k_fill
 refine L2.RY (l:=PySem.Challenge.rw_LID) (n:=63) (k:=40) (x := "script") (CX:=λw=>..) (sp:=λ_=>My.sp_law) rfl (by decide) rfl ⟨rfl,by decide,by decide⟩ (λw h Y=>PySem.W.kIn_of Y) ?F ?S ?C
 case F =>
  intro w mg fa h KX G hmg
  have T:∃t,My.Txt (L2.KOf KX) t:=by
   dsimp only [L2.KOf]                          -- K must stand as «<heap const> w.params» for k_is
   refine' My.txt_mk ?e1 ?e2 ?e3 ..
   (case e1=>PySem.W.k_is)                    -- in the order: a name -> its address -> its object -> its parts
   (case e2=>PySem.W.k_is)
   ..
  obtain⟨t,T⟩:=T;have e0:=hmg.symm.trans (mg_of KX G T.law);cases e0                                       -- fa is the law's own address;exact⟨_,λs u=>.of_eq rfl,λbase kb nb=>My.law_fn T kb nb⟩     -- if «.of_eq rfl» comes too early: refine' ⟨_,?b,λbase kb nb=>My.law_fn T kb nb⟩; exact λs u=>.of_eq rfl
 case S=>exact λw H a ns hl hO hS=>..
 case C=>exact ..
(the tactic k_is has no namespace: write k_is) -/
namespace L2
noncomputable def Dt(s:eA):Arguments:=match s with
 | .FunctionDef _ a _ _ _ _ _ _ _ _=>a
 | _=>{ posonlyargs:=[],args:=[],vararg:=none,kwonlyargs:=[],kw_defaults:=[],kwarg:=none,defaults:=[] }
noncomputable def CK(s:eA):List eA:=match s with
 | .FunctionDef _ _ b _ _ _ _ _ _ _=>b
 | _=>[]
noncomputable def AO(s:eA):gH:=match s with
 | .FunctionDef _ _ _ _ _ _ sc _ _ _=>sc
 | _=>{ kind:=.function,names:=[],isGenerator:=false,isCoroutine:=false }
noncomputable abbrev Bw:WT:=λ_ _ _ _ _ _=>False
noncomputable abbrev E0:XK:=λ_ _ _=>False
theorem X6{X:Cx}:RW Bw X E0:=λ_ _ _ _ _ _ _ h=>h.elim
structure Fun (K:Frag) (x qual:Str) (st:eA) (f:Ch) (fd:eY):Prop where
 ex:∃(oc:Db) (od:Option Ch) (kV doc pm:Db) (an:Option Ch) (cdv ct:Db) (osl:Array (Option Db)),
  fd=fnOf x qual (Dt st) (CK st) (AO st) .none kV doc pm an cdv ct/\K.lookup f=some ⟨oc,od,.func fd,osl⟩/\codeIn K cdv qual=true
 kp:keepIn K (.ref f)=true
section
variable {P:Program}{w:World}{K:Frag}{mg:Str->Option Value}{base:Heap}
theorem Fun.ok{x qual:Str}{st:eA}{f:Ch}{fd:eY}{N ps:List Str}{k:Nat}{sp:Sp}(F:Fun K x qual st f fd)(S:Ad N ps (AO st))(len:∀vs H Q E,sp vs H Q E->vs.length=ps.length)
  (hbody:∀(cdv:Db) (A:eX) (outer:List Env) (s:On) (H:Hp) (vs:List V) (Q:VK) (E:XK),Room k (A.deeper (envOfC qual (AO st) s.heap.objs.size f cdv))->sp vs H Q E ->
   ∃t,PSs (MU Bw P w K mg base N qual (AO st) f cdv A outer s H E).nox (CK st) t/\t { nx:=λ_ H'=>Q .non H',rt:=Q } (start N vs) H):A4 P w K mg base Bw (k+1) f fd ps sp:=by
 obtain⟨oc,od,kV,doc,pm,an,cdv,ct,osl,rfl,lk,hcd⟩:=F.ex;refine ao lk hcd S len λA outer s H vs Q E hr hsp=>?_;obtain⟨t,h,q⟩:=hbody _ A _ s H vs Q E hr hsp;exact⟨t,h.nox,q⟩
theorem Fun.binds{x qual:Str}{st:eA}{f:Ch}{fd:eY}{ps:List Str}(F:Fun K x qual st f fd)
  (h:∀(kV doc pm:Db) (an:Option Ch) (cdv ct:Db) (us:List Db),us.length=ps.length->bindArgs (fnOf x qual (Dt st) (CK st) (AO st) .none kV doc pm an cdv ct) ⟨us,[]⟩=pure (ps.zip us)):Binds K fd ps []:=by
 obtain⟨oc,od,kV,doc,pm,an,cdv,ct,osl,rfl,lk,hcd⟩:=F.ex;exact .all (h kV _ pm an _ ct)
theorem Vl{x qual:Str}{st:eA}{f:Ch}{oc:Db}{od an:Option Ch}{osl:Array (Option Db)}{kV doc pm cdv ct:Db}(l:K.lookup f=some ⟨oc,od,.func (fnOf x qual (Dt st) (CK st) (AO st) .none kV doc pm an cdv ct),osl⟩)
  (c:codeIn K cdv qual=true) (k:keepIn K (.ref f)=true):Fun K x qual st f (fnOf x qual (Dt st) (CK st) (AO st) .none kV doc pm an cdv ct):=⟨⟨oc,od,kV,_,pm,an,_,ct,_,rfl,l,c⟩,k⟩
end
theorem Hc{A:eX}{k:Nat}(hr:Room k A):A.units+1<cLine:=gq (Nat.add_le_add_left (by decide) _) hr.units
section
variable {X:Cx}
theorem pv(i:Nat){x:Str}{pos:Pos}(hN:autoParam (X.N[i]?=some x) zau3._auto_1)(hv:autoParam (Zk X.env.scope x) zau5._auto_1)(hd:autoParam ((x==("__debug__":Str))=false) zau1._auto_1)
  (hcd:autoParam ((x==("__classdict__":Str))=false) zau1._auto_1):PE X (.Name x pos) (B3 i):=Nw hN hv hd hcd
end
theorem Bp{A B:Prop}(h:B):if false=true then A else B:=by
 grind
theorem EC{A B:Prop}(h:A):if true=true then A else B:=by
 grind
theorem DY{c A B:Prop}[Decidable c](h1:c->A)(h2:¬c->B):if c then A else B:=by
 grind
section
variable {κ:Type}[DecidableEq κ]
noncomputable def C0(kvs:List (κ×V))(k:κ):Option V:=(kvs.find? λkv=>decide (kv.1=k)).map (·.2)
noncomputable def putK(kvs:List (κ×V))(k:κ)(v:V):List (κ×V) :=
 if (kvs.any λkv=>decide (kv.1=k))=true then kvs.map (λkv=>if kv.1=k then (kv.1,v) else kv) else kvs++[(k,v)]
theorem EJ{p:κ×V}{r:List (κ×V)}{k:κ}(e:p.1=k):C0 (p::r) k=some p.2:=by simp [C0,e]
theorem EK{p:κ×V}{r:List (κ×V)}{k:κ}(e:¬p.1=k):C0 (p::r) k=C0 r k:=by simp [C0,e]
theorem Oj(k:κ):∀kvs:List (κ×V),(kvs.any λkv=>decide (kv.1=k))=(C0 kvs k).isSome
 | []=>rfl
 | p::r=>by
  rw [List.any_cons]
  by_cases e:p.1=k
  ·simp [EJ e,decide_eq_true e,Bool.true_or]
  ·rw [EK e,decide_eq_false e]; exact Oj k r
theorem Fg(kvs:List (κ×V))(k:κ)(v:V):(putK kvs k v).length<=kvs.length+1:=by
 unfold putK
 grind
theorem RelO.isSome_eq{o:Option V}{u:Option Db}(r:RelO o u):o.isSome=u.isSome:=by
 cases o with
 | none=>cases u with
  | none=>rfl
  | some _=>exact(r).elim
 | some _=>cases u with
  | none=>exact(r).elim
  | some _=>rfl
theorem RelO.getD{o:Option V}{u:Option Db}{d:V}{d':Db}(r:RelO o u)(rd:RelV d d'):RelV (o.getD d) (u.getD d'):=by
 cases o with
 | none=>cases u with
  | none=>exact rd
  | some _=>exact(r).elim
 | some _=>cases u with
  | none=>exact(r).elim
  | some _=>exact r
theorem KV.val{kvs:List (κ×V)}{vs:List (κ×Db)}(r:KV kvs vs)(k:κ):RelO (C0 kvs k) (valueAt vs k):=by
 induction r with
 | nil=>exact gI
 | @cons p q ps qs h t ih =>
  obtain⟨h1,h2⟩:=h
  by_cases e:p.1=k
  ·have e':=h1.symm.trans e
   have b:valueAt (q::qs) k=some q.2:=by simp [valueAt,e']
   rw [EJ e,b]; exact h2
  ·have e':¬q.1=k:=λz=>e (h1.trans z)
   have b:valueAt (q::qs) k=valueAt qs k:=by simp [valueAt,e']
   rw [EK e,b]; exact ih
theorem KV.any{kvs:List (κ×V)}{vs:List (κ×Db)}(r:KV kvs vs)(k:κ):(kvs.any λkv=>decide (kv.1=k))=vs.any λkv=>decide (kv.1=k):=by
 induction r with
 | nil=>rfl
 | cons h t ih=>simp_all
theorem KV.repl{kvs:List (κ×V)}{vs:List (κ×Db)}(r:KV kvs vs)(k:κ){y:V}{u:Db}(ry:RelV y u) :
  KV (kvs.map λkv=>if kv.1=k then (kv.1,y) else kv) (vs.map λkv=>if kv.1=k then (kv.1,u) else kv):=by
 induction r with
 | nil=>exact .nil
 | @cons p q ps qs h t ih =>
  refine .cons ?_ ih
  by_cases e:p.1=k
  ·simp_all
  simp_all
theorem KV.put{kvs:List (κ×V)}{vs:List (κ×Db)}(r:KV kvs vs)(k:κ){y:V}{u:Db}(ry:RelV y u):KV (putK kvs k y) (stored vs k u):=by
 unfold putK stored;rw [r.any k]
 by_cases e:(vs.any λkv=>decide (kv.1=k))=true
 ·rw [if_pos e,if_pos e]; exact r.repl k ry
 ·rw [if_neg e,if_neg e]; exact Paired.snoc r ⟨rfl,ry⟩
theorem KV.length{kvs:List (κ×V)}{vs:List (κ×Db)}(r:KV kvs vs):kvs.length=vs.length:=Paired.length r
end
theorem Hb{P:eB}{w:eG}{k:Key}{u:Db}(r:RelV (kV k) u):(Aw P w).is k u=true:=by
 cases k with
 | inl i=>obtain⟨t,e⟩:=(r); subst e; exact PY P w i t
 | inr x=>obtain⟨t,e⟩:=(r); subst e; exact PX P w x t
theorem Mt{P:eB}{w:eG}:∀{ks:List Key} {us:List Db},Vals (ks.map kV) us->ItemsAre (Aw P w) ks us
 | [],_,r=>by cases r; exact .nil
 | k::ks,_,r=>by
  cases r with
  | cons h t=>exact .cons (Hb h) (Mt t)
noncomputable abbrev KT(H:Hp):List (List Key×V)->List (List Key×Ch×Db)->Prop:=Paired λp q=>p.1=q.1/\H q.2.1=some (.tup (p.1.map kV))/\RelV p.2 q.2.2
theorem KT.val{H:Hp}{kvs:List (List Key×V)}{xs:List (List Key×Ch×Db)}(r:KT H kvs xs)(k:List Key):RelO (C0 kvs k) ((atKey xs k).map (·.2)):=by
 induction r with
 | nil=>exact gI
 | @cons p q ps qs h t ih =>
  obtain⟨h1,_,h2⟩:=h
  by_cases e:p.1=k
  ·have e':=h1.symm.trans e
   have b:atKey (q::qs) k=some q.2:=by simp [atKey,e']
   rw [EJ e,b]; exact h2
  ·have e':¬q.1=k:=λz=>e (h1.trans z)
   have b:atKey (q::qs) k=atKey qs k:=by simp [atKey,e']
   rw [EK e,b]; exact ih
theorem KT.repl{H:Hp}{kvs:List (List Key×V)}{xs:List (List Key×Ch×Db)}(r:KT H kvs xs)(k:List Key){y:V}{u:Db}(ry:RelV y u) :
  KT H (kvs.map λkv=>if kv.1=k then (kv.1,y) else kv) (xs.map (putAt k u)):=by
 induction r with
 | nil=>exact .nil
 | @cons p q ps qs h t ih =>
  refine .cons ?_ ih;unfold putAt
  by_cases e:p.1=k
  ·simp_all
  simp_all
theorem KT.put{H:Hp}{kvs:List (List Key×V)}{xs:List (List Key×Ch×Db)}(r:KT H kvs xs)(k:List Key){b:Ch}{y:V}{u:Db}(hb:H b=some (.tup (k.map kV)))(ry:RelV y u) :
  KT H (putK kvs k y) (storedH xs k b u):=by
 have e:(kvs.any λkv=>decide (kv.1=k))=(atKey xs k).isSome:=by
  rw [Oj,(r.val k).isSome_eq,jT]
 unfold putK storedH;rw [e]
 by_cases q:(atKey xs k).isSome=true
 ·rw [if_pos q,if_pos q]; exact r.repl k ry
 ·rw [if_neg q,if_neg q]; exact Paired.snoc r ⟨rfl,hb,ry⟩
theorem KT.keeps{H H':Hp}{kvs:List (List Key×V)}{xs:List (List Key×Ch×Db)}(r:KT H kvs xs)(ht:∀b ys,H b=some (.tup ys)->H' b=some (.tup ys)):KT H' kvs xs :=
 Paired.mapP r λ_ _ z=>⟨z.1,ht _ _ z.2.1,z.2.2⟩
section
variable {P:Program}{w:World}{H:Hp}{h:Heap}{a:Addr}
theorem Xw{u:HO}(ok:HOk P w H h)(e:Rd H a u):ObjOk P w H h a u:=e.ok ok
theorem Ga{kvs:List (Key×V)}(ok:HOk P w H h)(e:Rd H a (.dK kvs)):kvs.length<=sizeLine/\(a==sysModules)=false/\∃vs,KV kvs vs/\h.DictOf (Aw P w) a vs :=
 Xw ok e
theorem YD{kvs:List (Key×V)}(ok:HOk P w H h)(e:H a=some (.dK kvs)):kvs.length<=sizeLine/\(a==sysModules)=false/\∃vs,KV kvs vs/\h.DictOf (Aw P w) a vs:=Ga ok (.inl e)
theorem G6{ks:List Key}(ok:HOk P w H h)(e:H a=some (.tup (ks.map kV))):(tupleKind (Aw P w)).is h ks a:=by
 obtain⟨_,its,r,o,h1,h2,n,h3,_⟩:=(ok a _ e);exact⟨o,_,n,h1,h2,h3,by simpa using Mt r⟩
theorem JQ{kvs:List (List Key×V)}(ok:HOk P w H h)(e:Rd H a (.dT kvs)):kvs.length<=sizeLine/\(a==sysModules)=false /\
  ∃xs,KT H kvs xs/\h.DictOfH (tupleKind (Aw P w)) a xs:=by
 obtain⟨z,y,xs,r,o,es,ep,h1,h2,h3,h4,h5⟩:=(Xw ok e);refine⟨z,y,xs,r,o,es,ep,h1,h2,h3,h4,λx hx=>?_,h5⟩
 have all:∀{l:List _} {m:List _},KT H l m->∀x∈m,(tupleKind (Aw P w)).is h x.1 x.2.1:=by
  intro l m q
  induction q with
  | nil=>grind
  | @cons p q ps qs hq t ih =>
   intro x hx
   rcases ZB.mp hx with e | hx
   ·exact G6 ok (by grind)
   ·exact ih x hx
 exact all r x hx
theorem a_{kvs:List (List Key×V)}(ok:HOk P w H h)(e:H a=some (.dT kvs)):kvs.length<=sizeLine/\(a==sysModules)=false /\
  ∃xs,KT H kvs xs/\h.DictOfH (tupleKind (Aw P w)) a xs:=JQ ok (.inl e)
end
noncomputable def DGet(H:Hp)(a:Ch)(y:V)(r:Option V):Prop :=
 (∃kvs k,Rd H a (.dK kvs)/\y=kV k/\r=C0 kvs k)\/∃kvs k b,Rd H a (.dT kvs)/\y=.ref b/\H b=some (.tup (k.map kV))/\r=C0 kvs k
noncomputable def DPut(H:Hp)(a:Ch)(y v:V)(H':Hp):Prop :=
 (∃kvs k,H a=some (.dK kvs)/\y=kV k/\kvs.length<sizeLine/\H'=BD H a (.dK (putK kvs k v))) \/
 ∃kvs k b,H a=some (.dT kvs)/\y=.ref b/\H b=some (.tup (k.map kV))/\kvs.length<sizeLine/\H'=BD H a (.dT (putK kvs k v))
theorem DGet.k{H:Hp}{a:Ch}{kvs:List (Key×V)}{k:Key}(e:H a=some (.dK kvs)):DGet H a (kV k) (C0 kvs k):=.inl ⟨_,k,.inl e,rfl,rfl⟩
theorem DPut.k{H:Hp}{a:Ch}{kvs:List (Key×V)}{k:Key}{v:V}(e:H a=some (.dK kvs))(hl:kvs.length<sizeLine):DPut H a (kV k) v (BD H a (.dK (putK kvs k v))):=.inl ⟨_,k,e,rfl,hl,rfl⟩
theorem DPut.t{H:Hp}{a b:Ch}{kvs:List (List Key×V)}{k:List Key}{v:V}(e:H a=some (.dT kvs))(eb:H b=some (.tup (k.map kV)))(hl:kvs.length<sizeLine) :
  DPut H a (.ref b) v (BD H a (.dT (putK kvs k v))):=.inr ⟨_,k,b,e,rfl,eb,hl,rfl⟩
section
variable {X:Cx}{zG:List (Addr×Obj)}{Z:St}{H:Hp}{s:Shared}{a:Addr}{y v:V}{u r:Value}{o:Option V}{A:Around}{E:Value->Shared->Prop}
theorem Inv.big(I:Inv X zG Z H s):sysModules<s.heap.objs.size:=Nat.lt_trans (by decide) (I.mod.glob.keeps I.bk).lt
theorem T9{Q:Db->On->Prop}(hu:A.units+1<cLine)(I:Inv X zG Z H s)(g:DGet H a y (some v))(ry:RelV y u)(h:∀w' s',Inv X zG Z H s'->RelV v w'->Q w' s') :
  wpAny (model X.prog X.w) A (getItem (.ref a) u) Q E s:=by
 rcases g with ⟨kvs,k,e,ey,l⟩ | ⟨kvs,k,b,e,ey,eb,l⟩
 ·subst ey
  obtain⟨z,hd,vs,rel,dd⟩:=Ga I.hok e;obtain⟨w',hw,rw'⟩:=RelO.some_of (v:=v) (o:=valueAt vs k) (by rw [l]; exact rel.val k);exact wpAny_getItem_of (Hb ry) dd.mapOf hw (h w' _ (I.tok _) rw')
 ·subst ey
  cases (show u=eh b from ry);obtain⟨z,hd,xs,rel,dd⟩:=JQ I.hok e;obtain⟨w',hw,rw'⟩:=RelO.some_of (v:=v) (o:=(atKey xs k).map (·.2)) (by rw [l]; exact rel.val k);obtain⟨p,hp,hp2⟩:=eT.mp hw;refine wpAny_getItem_heap (gL hu) (G6 I.hok eb) dd hp ?_;rw [hp2];exact h w' _ (I.tok _) rw'
theorem cR{Q:Db->On->Prop}(hu:A.units+1<cLine)(I:Inv X zG Z H s)(g:DGet H a y o)(ry:RelV y u)(h:∀s',Inv X zG Z H s'->Q (.bool o.isSome) s') :
  wpAny (model X.prog X.w) A (compareOp .In u (.ref a)) Q E s:=by
 rcases g with ⟨kvs,k,e,ey,l⟩ | ⟨kvs,k,b,e,ey,eb,l⟩
 ·subst ey
  obtain⟨z,hd,vs,rel,dd⟩:=Ga I.hok e;refine wpAny_in_of (Hb ry) hd dd.mapOf ?_;rw [← (rel.val k).isSome_eq,← l];exact h _ (I.tok _)
 ·subst ey
  cases (show u=eh b from ry);obtain⟨z,hd,xs,rel,dd⟩:=JQ I.hok e;refine wpAny_in_heap (gL hu) (G6 I.hok eb) hd dd ?_;have q:=(rel.val k).isSome_eq;rw [jT] at q;rw [← q,← l];exact h _ (I.tok _)
theorem Xg{Q:Db->On->Prop}(hu:A.units+1<cLine)(I:Inv X zG Z H s)(g:DGet H a y o)(ry:RelV y u)(h:∀s',Inv X zG Z H s'->Q (.bool (!o.isSome)) s') :
  wpAny (model X.prog X.w) A (compareOp .NotIn u (.ref a)) Q E s:=by
 rcases g with ⟨kvs,k,e,ey,l⟩ | ⟨kvs,k,b,e,ey,eb,l⟩
 ·subst ey
  obtain⟨z,hd,vs,rel,dd⟩:=Ga I.hok e;refine wpAny_notIn_of (Hb ry) hd dd.mapOf ?_;rw [← (rel.val k).isSome_eq,← l];exact h _ (I.tok _)
 ·subst ey
  cases (show u=eh b from ry);obtain⟨z,hd,xs,rel,dd⟩:=JQ I.hok e;refine wpAny_notIn_heap (gL hu) (G6 I.hok eb) hd dd ?_;have q:=(rel.val k).isSome_eq;rw [jT] at q;rw [← q,← l];exact h _ (I.tok _)
theorem OR{h':dg}{t':Nat}{ob:HO}(I:Inv X zG Z H s)(mu:bO (H a))(hs:ig a s.heap h')(he:∃q,h'.get? a=some q)(new:ObjOk X.prog X.w (BD H a ob) h' a ob) :
  Inv X zG Z (BD H a ob) { s with heap:=h',toks:=t' } :=
 I.write mu (.inl rfl) (λb q hb z=>(hs.2 b hb).trans z) he new
theorem Vz{P:eB}{w:eG}{H':Hp}{h':dg}{kvs:List (Key×V)}{vs:List (Key×Db)}(z:kvs.length<=sizeLine)(hd:(a==sysModules)=false)(rel:KV kvs vs)(dd:h'.DictOf (Aw P w) a vs) :
  ObjOk P w H' h' a (.dK kvs):=⟨z,hd,vs,rel,dd⟩
theorem T8{H':Hp}{Q:Unit->On->Prop}(hu:A.units+1<cLine)(I:Inv X zG Z H s)(g:DPut H a y v H')(ry:RelV y u)(rv:RelV v r)(h:∀s',Inv X zG Z H' s'->Q () s') :
  wpAny (model X.prog X.w) A (setItem (.ref a) u r) Q E s:=by
 rcases g with ⟨kvs,k,e,ey,l,eH⟩ | ⟨kvs,k,b,e,ey,eb,l,eH⟩
 ·subst ey eH
  obtain⟨z,hd,vs,rel,dd⟩:=YD I.hok e;have hz:vs.length<=sizeLine:=by rw [← rel.length]; exact z
  have hl:(putK kvs k v).length<=sizeLine:=by have:=Fg kvs k v; omega
  refine wpAny_setItem_pairs (hsz:=hz) (Hb ry) dd λh' dd' hs=>h _ ?_;have he:∃q,h'.get? a=some q:=let ⟨q,_,_,hq,_⟩:=dd'; ⟨q,hq⟩
  exact OR I (by rw [e]; exact gI) hs he (Vz hl hd (rel.put k rv) dd')
 ·subst ey eH
  cases (show u=eh b from ry);obtain⟨z,hd,xs,rel,dd⟩:=a_ I.hok e;have hz:xs.length<=sizeLine:=by rw [← Paired.length rel]; exact z
  have hl:(putK kvs k v).length<=sizeLine:=by have:=Fg kvs k v; omega
  refine wpAny_setItem_heap (hsz:=hz) (gL hu) (G6 I.hok eb) dd λh' dd' hs=>h _ ?_;obtain⟨q,es,ep,hq,h2,h3,h4,_,h5⟩:=dd';refine OR I (by rw [e]; exact gI) hs ⟨q,hq⟩ ⟨hl,hd,_,(rel.put k eb rv).keeps λc ys ec=>?_,q,es,ep,hq,h2,h3,h4,h5⟩;rw [Ag (af ec e (λz=>nomatch z))];exact ec
end
noncomputable def Xq(i:d6):Prop:=∀ov iv,subscripted i false ov iv=operate [ov,iv] (getItem ov iv)
theorem Wl{prog:eB}{w:eG}{A:eX}{E:Db->On->Prop}{s:On}{env:Env}{value slice:d6}{pos:Pos}{T id:String}{Q:Db->On->Prop}
  (hl:typeLookup (.type T) "__getitem__"=pure (some (.builtin id))) (hs:Xq slice)
  (h:wpAny (model prog w) A (eval value env) (λo s₁=>wpAny (model prog w) A (eval slice env) (λi s₂=>s₂.TypeIs o T/\wpAny (model prog w) A (getItem o i) Q E s₂) E s₁) E s) :
  wpAny (model prog w) A (eval (.Subscript value slice pos) env) Q E s:=by
 refine Subscript_ (e7 h (λo s₁ h₁=>e7 h₁ (λi s₂ h₂=>?_) λ_ _ x=>x) λ_ _ x=>x);obtain⟨hT,h₂⟩:=h₂;refine Ev ?_;refine Ev (jt hT hl ?_)
 first
  | exact T0 (Ev (by
  rw [hs o i];exact wpAny_operating (e7 h₂ (λr s₃ h₃=>Ev (wpAny_letTemporaryGo (T0 h₃))) λ_ _ x=>x)))
  | grind
  | grind
theorem Pz{X:Cx}{zG:List (Ch×Obj)}{Z:St}{H:Hp}{s:On}{a:Ch}{y:V}{o:Option V}(I:Inv X zG Z H s)(g:DGet H a y o):s.TypeIs (.ref a) "dict":=by
 rcases g with ⟨kvs,k,e,_,_⟩ | ⟨kvs,k,b,e,_,_,_⟩
 ·obtain⟨_,_,vs,_,dd⟩:=Ga I.hok e
  exact dd.typeIs
 ·obtain⟨_,_,xs,_,dd⟩:=JQ I.hok e
  exact dd.typeIs
noncomputable def aA(td ty:TE):TE:=λZ H Q=>td Z H λx H1=>ty Z H1 λy H2=>∃a v,x=.ref a/\DGet H2 a y (some v)/\Q v H2
noncomputable def aE(td ty tv:TE):TS:=λD Z H=>tv Z H λv H1=>td Z H1 λx H2=>ty Z H2 λy H3=>∃a H4,x=.ref a/\DPut H3 a y v H4/\D.nx Z H4
section
variable {X:Cx}{o i value:Expr}{pos pos':Pos}{td ty tv:TE}
theorem J4(hu:X.A.units+1<cLine)(ho:PE X o td)(hi:PE X i ty)(hs:Xq i):PE X (.Subscript o i pos) (aA td ty):=by
 intro zG s Z H Q I h;refine Wl PySem.F.slot_dict_getitem.lookup hs (thn (ho _ s Z H _ I h) λu s1 ⟨x,H1,I1,rx,q1⟩=>thn (hi _ s1 Z H1 _ I1 q1) λiv s2 ⟨y,H2,I2,ry,a,v,ex,g,q2⟩=>?_);subst ex;obtain rfl:u=eh a:=rx;exact⟨Pz I2 g,T9 hu I2 g ry λw' s3 I3 rw'=>⟨v,H2,I3,rw',q2⟩⟩
theorem HK(hu:X.A.units+1<cLine)(ho:PE X o td)(hi:PE X i ty)(hv:PE X value tv)(hs:swapsWith value (some (.Subscript o i pos')) pos.line X.env=pure false) :
  PS X (.Assign [.Subscript o i pos'] value pos) (aE td ty tv):=by
 intro zG s Z H D I h;refine wpAny_Assign_Subscript (thn (hv _ s Z H _ I h) λr s1 ⟨v,H1,I1,rv,q1⟩=>thn (ho _ s1 Z H1 _ I1 q1) λu s2 ⟨x,H2,I2,rx,q2⟩=>thn (hi _ s2 Z H2 _ I2 q2) λiv s3 ⟨y,H3,I3,ry,a,H4,ex,g,q3⟩=>?_) hs;subst ex;obtain rfl:u=eh a:=rx;exact T8 hu I3 g ry rv λs4 I4=>⟨Z,H4,I4,q3⟩
end
theorem Py{P:eB}{w:eG}{H:Hp}(h:dg)(hb:sysModules<h.objs.size):ObjOk P w H (h.push { cls:=.type "dict",data:=.dict #[] }) h.objs.size (.dK []) :=
 ⟨dY _,beq_eq_false_iff_ne.mpr (fF (da hb)),[],.nil,Heap.DictOf.new h⟩
theorem Vx{P:eB}{w:eG}{H:Hp}(h:dg)(hb:sysModules<h.objs.size):ObjOk P w H (h.push { cls:=.type "dict",data:=.dict #[] }) h.objs.size (.dT []) :=
 ⟨dY _,beq_eq_false_iff_ne.mpr (fF (da hb)),[],.nil,_,_,0,UF _ rfl,⟨rfl,rfl,rfl⟩,rfl,rfl,fJ⟩
noncomputable def Ye:TE:=λ_ H Q=>∀p,H p=none->Q (.ref p) (BD H p (.dK []))
noncomputable def Yd:TE:=λ_ H Q=>∀p,H p=none->Q (.ref p) (BD H p (.dT []))
section
variable {X:Cx}{pos:Pos}
theorem PC:PE X (.Dict [] [] pos) Ye:=λzG s Z H Q I h =>
 wpAny_Dict_empty ⟨.ref _,_,I.laid (λ_ _ q=>FM _ q) (Op _) (Py _ I.big),rfl,h _ (I.hok.fresh (Op _))⟩
theorem VH:PE X (.Dict [] [] pos) Yd:=λzG s Z H Q I h =>
 wpAny_Dict_empty ⟨.ref _,_,I.laid (λ_ _ q=>FM _ q) (Op _) (Vx _ I.big),rfl,h _ (I.hok.fresh (Op _))⟩
end
noncomputable def QV:List (TE×TE)->St->Hp->(List (V×V)->Hp->Prop)->Prop
 | [],_,H,Q=>Q [] H
 | (tk,tv)::r,Z,H,Q=>tk Z H λx H1=>tv Z H1 λy H2=>QV r Z H2 λps H3=>Q ((x,y)::ps) H3
noncomputable abbrev VV:List (V×V)->List (Db×Db)->Prop:=Paired λp q=>RelV p.1 q.1/\RelV p.2 q.2
noncomputable def bb(X:Cx)(pos:Pos)(keys:List (Option d6))(values:List d6)(trs:List (TE×TE)):Prop :=
 ∀(zG:List (Ch×Obj)) (s:On) (Z:St) (H:Hp) (Q:List (V×V)->Hp->Prop),Inv X zG Z H s->QV trs Z H Q ->
  wpAny (model X.prog X.w) X.A (evalPairs (pairTrees keys values X.env pos)) (λvs s'=>∃ps H',Inv X zG Z H' s'/\VV ps vs/\Q ps H') X.xe s
theorem Wu{X:Cx}{pos:Pos}:bb X pos [] [] []:=λzG s Z H Q I h=>pairTrees_nil_walk ⟨[],H,I,.nil,h⟩
theorem VA{X:Cx}{pos:Pos}{k v:d6}{ks:List (Option d6)}{vs:List d6}{tk tv:TE}{trs:List (TE×TE)}(hk:PE X k tk)(hv:PE X v tv)(hr:bb X pos ks vs trs) :
  bb X pos (some k::ks) (v::vs) ((tk,tv)::trs):=λzG s Z H Q I h =>
 pairTrees_cons_walk (thn (hk _ s Z H _ I h) λu s1 ⟨x,H1,I1,rx,q1⟩=>thn (hv _ s1 Z H1 _ I1 q1) λw2 s2 ⟨y,H2,I2,ry,q2⟩ =>
  thn (hr _ s2 Z H2 _ I2 q2) λws s3 ⟨ps,H3,I3,rel,q3⟩=>⟨_,H3,I3,.cons ⟨rx,ry⟩ rel,q3⟩)
noncomputable def LH(kvs more:List (Key×V)):List (Key×V):=more.foldl (λacc kv=>putK acc kv.1 kv.2) kvs
theorem KV.merge:∀{more:List (Key×V)} {rs:List (Key×Db)} {kvs:List (Key×V)} {vs:List (Key×Db)},KV more rs->KV kvs vs->KV (LH kvs more) (merged vs rs):=by
 intro more rs kvs vs r
 induction r generalizing kvs vs with
 | nil=>intro q; exact q
 | @cons p q ps qs h t ih =>
  intro r0
  exact ih (by
   have:=r0.put p.1 h.2
   simp_all)
theorem GY:∀(more kvs:List (Key×V)),(LH kvs more).length<=kvs.length+more.length
 | [],kvs=>by show kvs.length<=kvs.length+0; omega
 | p::r,kvs=>by
  have h1:=GY r (putK kvs p.1 p.2);have h2:=Fg kvs p.1 p.2;show (LH _ r).length<=_
  grind
theorem Le{P:eB}{w:eG}:∀{kvs:List (Key×V)} {ws:List (Db×Db)},VV (kvs.map λkv=>(kV kv.1,kv.2)) ws->∃rs,Carries (Aw P w) ws rs/\KV kvs rs
 | [],_,r=>by cases r; exact⟨[],gI,.nil⟩
 | p::kvs,_,r=>by
  cases r with
  | @cons a b as bs h t =>
   obtain⟨rs,c,q⟩:=Le t;obtain⟨b1,b2⟩:=b;exact⟨(p.1,b2)::rs,⟨Hb h.1,rfl,c⟩,.cons ⟨rfl,h.2⟩ q⟩
noncomputable def Z_(trs:List (TE×TE)):TE:=λZ H Q=>∀p,H p=none->QV trs Z (BD H p (.dK [])) λps H2=>H2 p=some (.dK [])/\∃kvs:List (Key×V),ps=kvs.map (λkv=>(kV kv.1,kv.2))/\kvs.length<=15/\Q (.ref p) (BD H2 p (.dK (LH [] kvs)))
theorem Wy{X:Cx}{pos:Pos}{keys:List (Option d6)}{values:List d6}{trs:List (TE×TE)}(h:bb X pos keys values trs)(hall:keys.all (·.isSome)=true)(hl:keys.length=values.length)(h0:keys≠[])
  (h15:keys.length<=15):PE X (.Dict keys values pos) (Z_ trs):=by
 intro zG s Z H Q I q;have hn:=I.hok.fresh (Op s.heap.objs.size);have I1:=I.laid (a:=s.heap.objs.size) (o:=.dK []) (h':=s.heap.push { cls:=.type "dict",data:=.dict #[] }) (t':=s.toks) (λ_ _ q=>FM _ q) (Op _) (Py s.heap I.big);refine wpAny_Dict_walk (knd:=Aw X.prog X.w) hall hl h0 h15 (thn (h zG _ Z _ _ I1 (q _ hn)) λws s2 ⟨ps,H2,I2,rel,e,kvs,ep,lk,q2⟩=>?_);subst ep;obtain⟨rs,c,rk⟩:=Le (P:=X.prog) (w:=X.w) rel;obtain⟨z,hd,vs0,r0,dd⟩:=YD I2.hok e;cases r0;refine⟨rs,c,dd,λh' dd' hs=>⟨.ref s.heap.objs.size,_,?_,rfl,q2⟩⟩
 have hz:(LH [] kvs).length<=sizeLine:=by
  have h1:=GY kvs [];rw [f6] at h1;rw [eK]; omega
 have he:∃q,h'.get? s.heap.objs.size=some q:=let ⟨q,_,_,hq,_⟩:=dd'; ⟨q,hq⟩
 exact OR I2 (by rw [e]; exact gI) hs he (Vz hz hd (rk.merge .nil) dd')
structure M1 (X:Cx) (o:d6) (m:Str) (apos:Pos) (e:d6) (cpos:Pos):Prop where
 base:attributeBase o m X.env (eval o X.env)=eval o X.env
 few:((backTo cpos (starEach [e] X.env)).all (λx=>!x.1)&&(backToKw cpos (keywordEach [] X.env)).all (λx=>x.1.isSome)
  && decide (([e]:List d6).length+([]:List gG).length+(if ([]:List gG).isEmpty then 0 else 1)<30))=true
 line:(apos.endLine==cpos.line)=true
 trees:backTo cpos (starEach [e] X.env)=[(false,eval e X.env)]
structure M2 (X:Cx) (o:d6) (m:Str) (apos:Pos) (e f:d6) (cpos:Pos):Prop where
 base:attributeBase o m X.env (eval o X.env)=eval o X.env
 few:((backTo cpos (starEach [e,f] X.env)).all (λx=>!x.1)&&(backToKw cpos (keywordEach [] X.env)).all (λx=>x.1.isSome)
  && decide (([e,f]:List d6).length+([]:List gG).length+(if ([]:List gG).isEmpty then 0 else 1)<30))=true
 line:(apos.endLine==cpos.line)=true
 trees:backTo cpos (starEach [e,f] X.env)=[(false,eval e X.env),(false,eval f X.env)]
noncomputable def bd(H:Hp)(a:Ch):Prop:=(∃kvs,Rd H a (.dK kvs))\/∃kvs,Rd H a (.dT kvs)
theorem RA{X:Cx}{zG:List (Ch×Obj)}{Z:St}{H:Hp}{s:On}{a:Ch}(I:Inv X zG Z H s)(d:bd H a) :
  s.TypeIs (.ref a) "dict"/\(∀b,eh a=.ref b->∃ob,s.heap.get? b=some ob/\ob.dict=none)/\(a==sysModules)=false:=by
 rcases d with ⟨kvs,e⟩ | ⟨kvs,e⟩
 ·obtain⟨_,hd,vs,_,dd⟩:=Ga I.hok e
  refine⟨dd.typeIs,λb q=>?_,hd⟩;cases q;obtain⟨ob,_,_,h1,h2,_⟩:=dd;exact⟨ob,h1,h2.2.1⟩
 ·obtain⟨_,hd,xs,_,dd⟩:=JQ I.hok e
  refine⟨dd.typeIs,λb q=>?_,hd⟩;cases q;obtain⟨ob,_,_,h1,h2,_⟩:=dd;exact⟨ob,h1,h2.2.1⟩
section
variable {X:Cx}{zG:List (Addr×Obj)}{Z:St}{H:Hp}{s:Shared}{a:Addr}{y d:V}{u r:Value}{o:Option V}{A:Around}{E:Value->Shared->Prop}
theorem Za{Q:Db->On->Prop}(hu:A.units+1<cLine)(I:Inv X zG Z H s)(g:DGet H a y o)(ry:RelV y u)(h:∀w' s',Inv X zG Z H s'->RelV (o.getD .non) w'->Q w' s') :
  wpAny (model X.prog X.w) A (call (.builtin "dict.get") [.ref a,u]) Q E s:=by
 rcases g with ⟨kvs,k,e,ey,l⟩ | ⟨kvs,k,b,e,ey,eb,l⟩
 ·subst ey
  obtain⟨z,hd,vs,rel,dd⟩:=Ga I.hok e;refine io PySem.F.slot_dict_get dd.typeIs PySem.F.entry_dict_get (PySem.F.args_dict_get_2 _ _) (meets_dict_get (Aw X.prog X.w) a (Hb ry) hd) ⟨_,dd.mapOf,h _ _ (I.tok _) ?_⟩;rw [l];exact(rel.val k).getD rfl
 ·subst ey
  cases (ry);obtain⟨z,hd,xs,rel,dd⟩:=JQ I.hok e;refine io PySem.F.slot_dict_get dd.typeIs PySem.F.entry_dict_get (PySem.F.args_dict_get_2 _ _) (meetsH_dict_get _ a b hd) ⟨gL hu,k,xs,G6 I.hok eb,dd,h _ _ (I.tok _) ?_⟩;rw [l];exact(rel.val k).getD rfl
theorem ZZ{Q:Db->On->Prop}(hu:A.units+1<cLine)(I:Inv X zG Z H s)(g:DGet H a y o)(ry:RelV y u)(rd:RelV d r)(h:∀w' s',Inv X zG Z H s'->RelV (o.getD d) w'->Q w' s') :
  wpAny (model X.prog X.w) A (call (.builtin "dict.get") [.ref a,u,r]) Q E s:=by
 rcases g with ⟨kvs,k,e,ey,l⟩ | ⟨kvs,k,b,e,ey,eb,l⟩
 ·subst ey
  obtain⟨z,hd,vs,rel,dd⟩:=Ga I.hok e;refine io PySem.F.slot_dict_get dd.typeIs PySem.F.entry_dict_get (PySem.F.args_dict_get_3 _ _ _) (meets_dict_get_default (Aw X.prog X.w) a (Hb ry) hd r) ⟨_,dd.mapOf,h _ _ (I.tok _) ?_⟩;rw [l];exact(rel.val k).getD rd
 ·subst ey
  cases (ry);obtain⟨z,hd,xs,rel,dd⟩:=JQ I.hok e;refine io PySem.F.slot_dict_get dd.typeIs PySem.F.entry_dict_get (PySem.F.args_dict_get_3 _ _ _) (meetsH_dict_get_default _ a b hd r) ⟨gL hu,k,xs,G6 I.hok eb,dd,h _ _ (I.tok _) ?_⟩;rw [l];exact(rel.val k).getD rd
end
noncomputable def Yg(td ty:TE):TE:=λZ H Q=>td Z H λx H1=>∃a,x=.ref a/\bd H1 a/\ty Z H1 λy H2=>∃o,DGet H2 a y o/\Q (o.getD .non) H2
noncomputable def Yf(td ty tx:TE):TE:=λZ H Q=>td Z H λx H1=>∃a,x=.ref a/\bd H1 a/\ty Z H1 λy H2=>tx Z H2 λz H3=>∃o,DGet H3 a y o/\Q (o.getD z) H3
section
variable {X:Cx}{o e f:Expr}{apos cpos:Pos}{td ty tx:TE}
theorem VJ(hu:X.A.units+1<cLine)(ho:PE X o td)(he:PE X e ty)(m:M1 X o "get" apos e cpos):PE X (.Call (.Attribute o "get" apos) [e] [] cpos) (Yg td ty):=by
 intro zG s Z H Q I h;refine wpAny_Call_method m.base m.few m.line PySem.F.plainAttrs_dict PySem.F.slot_dict_get PySem.F.type_dict_get (thn (ho _ s Z H _ I h) λu s1 ⟨x,H1,I1,rx,a,ex,d,q1⟩=>?_);subst ex;obtain rfl:u=eh a:=rx;obtain⟨t1,t2,_⟩:=RA I1 d;refine⟨t1,t2,?_⟩;rw [m.trees];exact gJ rfl (hU (fK (thn (he _ s1 Z H1 _ I1 q1) λiv s2 ⟨y,H2,I2,ry,ov,g,q2⟩=>fZ (Za hu I2 g ry λw' s3 I3 rw'=>⟨_,H2,I3,rw',q2⟩))))
theorem VI(hu:X.A.units+1<cLine)(ho:PE X o td)(he:PE X e ty)(hf:PE X f tx)(m:M2 X o "get" apos e f cpos):PE X (.Call (.Attribute o "get" apos) [e,f] [] cpos) (Yf td ty tx):=by
 intro zG s Z H Q I h;refine wpAny_Call_method m.base m.few m.line PySem.F.plainAttrs_dict PySem.F.slot_dict_get PySem.F.type_dict_get (thn (ho _ s Z H _ I h) λu s1 ⟨x,H1,I1,rx,a,ex,d,q1⟩=>?_);subst ex;obtain rfl:u=eh a:=rx;obtain⟨t1,t2,_⟩:=RA I1 d;refine⟨t1,t2,?_⟩;rw [m.trees]
 exact gJ rfl (hU (fK (thn (he _ s1 Z H1 _ I1 q1) λiv s2 ⟨y,H2,I2,ry,q2⟩ =>
  fK (thn (hf _ s2 Z H2 _ I2 q2) λfv s3 ⟨z,H3,I3,rz,ov,g,q3⟩=>fZ (ZZ hu I3 g ry rz λw' s4 I4 rw'=>⟨_,H3,I4,rw',q3⟩)))))
end
end L2
set_option maxHeartbeats 4000000
namespace L2
section
theorem RH{env:Env}:∀(names:List (Str×gE)) (cs:List (Str×Ch)),(∀x,(x,eZ)∈names->∃c,env.cells.lookup x=some c)->(∀x c,cs.lookup x=some c->env.cells.lookup x=some c) ->
  ∃cl,(forIn names cs fun(x:Str×gE) (r:List (Str×Ch))=>(if (x.2==eZ)=true then do let a ← cellOf env x.1; pure (gC ((x.1,a)::r)) else pure (gC r):Sem (ForInStep (List (Str×Ch)))))=(pure cl:Sem _) /\
   (∀x c,cl.lookup x=some c->env.cells.lookup x=some c)/\(∀x,((x,eZ)∈names\/∃c,cs.lookup x=some c)->∃c,cl.lookup x=some c):=by
 intro names
 induction names with
 | nil =>
  intro cs _ h2;exact⟨cs,rfl,h2,λx hx=>hx.elim (λz=>absurd z (by simp)) λz=>z⟩
 | cons p r ih =>
  intro cs h1 h2;obtain⟨n,k⟩:=p
  by_cases hk:k=eZ
  ·subst hk
   obtain⟨c,hc⟩:=h1 n Re;have hcell:cellOf env n=pure c:=by simp only [cellOf,hc]
   obtain⟨cl,e,a,b⟩:=ih ((n,c)::cs) (λx hx=>h1 x (Sc _ hx)) (λx c' hx=>by
    rw [gi] at hx;cases hb:x==n with
    | true =>
     rw [hb] at hx;have hx':some c=some c':=hx;cases hx'
     have:x=n:=by simpa using hb
     rw [this]; exact hc
    | false=>rw [hb] at hx; exact h2 x c' hx)
   refine⟨cl,?_,a,λx hx=>b x ?_⟩
   ·rw [iB]
    simp only [beq_self_eq_true,if_true,hcell,pure_bind];exact e
   ·by_cases hxn:x=n
    ·subst hxn
     exact .inr ⟨c,by simp [gi]⟩
    ·rcases hx with hx | ⟨c',hx⟩
     ·rcases ZB.mp hx with hx | hx
      ·cases hx; exact absurd rfl hxn
      ·exact .inl hx
     ·refine .inr ⟨c',?_⟩
      have:(x==n)=false:=by simpa using hxn
      rw [gi,this];exact hx
  ·have hk':(k==eZ)=false:=by simpa using hk
   obtain⟨cl,e,a,b⟩:=ih cs (λx hx=>h1 x (Sc _ hx)) h2;refine⟨cl,?_,a,λx hx=>b x ?_⟩
   ·rw [iB]
    simp only [hk',gA,if_false,pure_bind];exact e
   ·rcases hx with hx | hx
    ·rcases ZB.mp hx with hx | hx
     ·cases hx; exact absurd rfl hk
     ·exact .inl hx
    ·exact .inr hx
theorem Ld{scope:gH}{env:Env}(h:∀x,(x,eZ)∈scope.names->∃c,env.cells.lookup x=some c) :
  ∃cl,closureFor scope env=pure cl/\(∀x c,cl.lookup x=some c->env.cells.lookup x=some c)/\(∀x,(x,eZ)∈scope.names->∃c,cl.lookup x=some c):=by
 obtain⟨cl,e,a,b⟩:=RH _ [] h (λx c hx=>by simp at hx);refine⟨cl,?_,a,λx hx=>b x (.inl hx)⟩;simp [closureFor]
 simp_all
variable {prog:Program}{w:World}{A:Around}{R:Result->Shared->Prop}{s:Shared}
theorem OS{elt target iter:d6}{ifs:List d6}{scope:gH}{pos:Pos}{it acc:Db}{env:Env}(I:Nat->On->Prop)
  (turn:∀n s,I n s->wpAny (model prog w) A (pyNext it) (λr s₁=>match r with
   | none=>R (.ok .next) s₁
   | some v=>wpAny (model prog w) A (letOwnedTupleGo target it v) (λ_ s₁'=>wpAny (model prog w) A (assign target env v) (λ_ s₂ =>
     wpAny (model prog w) A (forIn ifs true λc r=>if r=true then do let ok ← isTrue c env (eval c env); pure (gC ok) else pure (gC r)) (λok s₃ =>
      if ok=true then wpAny (model prog w) A (eval elt env) (λx s₄ =>
       wpAny (model prog w) A (call (.builtin "list.append") [acc,x]) (λ_ s₅=>∃m,m<n/\I m s₅) (λ_ _=>False) s₄) (λ_ _=>False) s₃
      else ∃m,m<n/\I m s₃) (λ_ _=>False) s₂) (λ_ _=>False) s₁') (λ_ _=>False) s₁) (λ_ _=>False) s)
  (n:Nat) (h:I n s) :
  codeAny (model prog w) A (.compLoop (.ListComp elt [⟨target,iter,ifs,0⟩] scope pos) 0 it acc env) R s:=by
 refine codeAny_loop rfl I (λn s hI=>?_) n h;refine wpAny_noted ?_;refine Ev (wpAny_standAt (Ev (e7 (turn n s hI) (λr s₁ h₁=>?_) λ_ _ h'=>h'.elim)));cases r with
 | none=>exact T0 h₁
 | some v =>
  refine Ev (e7 h₁ (λ_ s₁' h₁'=>?_) λ_ _ h'=>h'.elim);refine Ev (e7 h₁' (λ_ s₂ h₂=>Ev (e7 h₂ (λok s₃ h₃=>?_) λ_ _ h'=>h'.elim)) λ_ _ h'=>h'.elim);cases ok with
  | false=>exact T0 ⟨rfl,h₃⟩
  | true =>
   exact Ev (Ev (e7 h₃ (λx s₄ h₄=>Ev (e7 h₄ (λ_ s₅ h₅=>T0 (T0 ⟨rfl,h₅⟩)) λ_ _ h'=>h'.elim)) λ_ _ h'=>h'.elim))
end
noncomputable def BA(X:Cx)(sc:gH)(N':List Str)(cl:List (Str×Ch))(C:Ch)(s:On)(H:Hp)(ex:List Ch):Cx where
 prog:=X.prog
 w:=X.w
 K:=X.K
 mg:=X.mg
 base:=X.base
 A:=X.A
 N:=N'
 s₀:=s
 H₀:=H
 env:=compEnvC sc cl C X.env
 outer:=X.stack
 stack:=X.stack
 ex:=ex
 fn:=λ_=>false
 calm:=true
 pn:=[]
 xe:=λ_ _=>False
noncomputable def Cp(js:List (Option Nat))(Z:St):St:=js.map λo=>match o with
 | some i=>(Z[i]?).getD none
 | none=>none
noncomputable def XE(o:Option gE):Bool:=match o with
 | some .cell=>true
 | some .free=>true
 | _=>false
theorem SF{o:Option gE}(h:XE o=true):o=some .cell\/o=some .free:=by
 unfold XE at h
 split at h
 ·grind
 ·grind
 ·cases h
noncomputable def isFree(o:Option gE):Bool:=match o with
 | some .free=>true
 | _=>false
theorem Tv{o:Option gE}(h:isFree o=true):o=some .free:=by
 unfold isFree at h
 split at h
 ·rfl
 ·cases h
noncomputable def Vf(o:Option gE):Bool:=match o with
 | some .local=>true
 | _=>false
theorem Ve{o:Option gE}(h:Vf o=true):o=some .local:=by
 unfold Vf at h
 split at h
 ·rfl
 ·cases h
noncomputable def Vh(k:ScopeKind):Bool:=match k with
 | .function=>true
 | _=>false
theorem Vg{k:ScopeKind}(h:Vh k=true):k=.function:=by
 unfold Vh at h
 split at h
 ·rfl
 ·cases h
noncomputable def cB(sc esc:gH)(p:Str×gE):Bool:=match p.2 with
 | .cell=>false
 | .free=>XE (esc.names.lookup p.1)
 | .local=>Vf (sc.names.lookup p.1)
 | _=>true
noncomputable def cQ(x:Option Str)(y:Str):Bool:=match x with
 | some z=>z==y
 | none=>false
theorem ZU{x:Option Str}{y:Str}(h:cQ x y=true):x=some y:=by
 unfold cQ at h
 split at h
 ·grind
 ·cases h
noncomputable def Lf(sc esc:gH)(N:List Str):List Str->List (Option Nat)->Bool
 | [],[]=>true
 | x::xs,some j::js=>isFree (sc.names.lookup x)&&cQ (N[j]?) x&&XE (esc.names.lookup x)&&Lf sc esc N xs js
 | _::xs,none::js=>Lf sc esc N xs js
 | _,_=>false
noncomputable def JU(sc esc:gH)(N N':List Str)(js:List (Option Nat)):Bool:=Vh sc.kind&&sc.names.all (cB sc esc)&&Lf sc esc N N' js
theorem Fn{sc esc:gH}{N:List Str}:∀{N':List Str} {js:List (Option Nat)},Lf sc esc N N' js=true->js.length=N'.length
 | [],[],_=>rfl
 | x::xs,some j::js,h=>by
  unfold Lf at h;rw [de] at h;rw [dq,dq,Fn h.2]
 | x::xs,none::js,h=>by
  unfold Lf at h;rw [dq,dq,Fn h]
 | [],some _::_,h=>by cases h
 | [],none::_,h=>by cases h
 | _::_,[],h=>by cases h
theorem OT{sc esc:gH}{N:List Str}:∀{N':List Str} {js:List (Option Nat)},Lf sc esc N N' js=true->∀{k:Nat} {x:Str} {j:Nat},N'[k]?=some x->js[k]?=some (some j) ->
  sc.names.lookup x=some .free/\N[j]?=some x/\(esc.names.lookup x=some .cell\/esc.names.lookup x=some .free)
 | [],_,_,k,x,j,h1,_=>by simp at h1
 | _::_,[],h,_,_,_,_,_=>by unfold Lf at h; cases h
 | y::ys,some i::js,h,k,x,j,h1,h2=>by
  unfold Lf at h;rw [de,de,de] at h;cases k with
  | zero =>
   simp at h1 h2;subst h1 h2;exact⟨Tv h.1.1.1,ZU h.1.1.2,SF h.1.2⟩
  | succ k=>exact OT h.2 (k:=k) (by simpa using h1) (by simpa using h2)
 | y::ys,none::js,h,k,x,j,h1,h2=>by
  unfold Lf at h;cases k with
  | zero=>simp at h2
  | succ k=>exact OT h (k:=k) (by simpa using h1) (by simpa using h2)
theorem Tr{js:List (Option Nat)}{Z:St}{k:Nat}{v:V}(h:(Cp js Z)[k]?=some (some v)):∃j,js[k]?=some (some j)/\Z[j]?=some (some v):=by
 unfold Cp at h;rw [dX] at h;cases e:js[k]? with
 | none=>simp_all
 | some o =>
  rw [e] at h;cases o with
  | none=>cases h
  | some j =>
   cases q:Z[j]? with
   | none=>simp_all
   | some w=>simp_all
theorem C_{env:Env}:∀{names:List (Str×gE)} {x:Str},names.lookup x=some .free ->
  (names.map fun(n,k)=>if (k==eZ&&env.scope.kind==.function&&env.kindOf n==some .cell) then (n,iT) else (n,k)).lookup x=some .cell \/
  (names.map fun(n,k)=>if (k==eZ&&env.scope.kind==.function&&env.kindOf n==some .cell) then (n,iT) else (n,k)).lookup x=some .free
 | [],_,h=>by simp at h
 | (n,k)::r,x,h=>by
  have ih:=@C_ env r x;show List.lookup x ((if (k==eZ&&env.scope.kind==.function&&env.kindOf n==some .cell)=true then (n,iT) else (n,k))::_)=_\/List.lookup x ((if (k==eZ&&env.scope.kind==.function&&env.kindOf n==some .cell)=true then (n,iT) else (n,k))::_)=_
  by_cases hc:(k==eZ&&env.scope.kind==.function&&env.kindOf n==some .cell)=true
  ·rw [if_pos hc]
   cases hx:x==n with
   | true=>exact .inl (by simp only [gi,hx])
   | false =>
    simp only [gi,hx] at h ⊢;exact ih h
  ·rw [if_neg hc]
   cases hx:x==n with
   | true =>
    simp_all
   | false =>
    simp only [gi,hx] at h ⊢;exact ih h
theorem Qf{env:Env}{sc:gH}(hcell:∀y∈sc.names,y.2≠.cell){x:Str}(h:(relabel sc env).names.lookup x=some .cell\/(relabel sc env).names.lookup x=some .free):(x,eZ)∈sc.names:=by
 have hm:(x,iT)∈(relabel sc _).names\/(x,eZ)∈(relabel sc _).names:=h.elim (λz=>.inl (PySem.mem_of_lookup z)) λz=>.inr (PySem.mem_of_lookup z)
 have go:∀k,(k=.cell\/k=.free)->(x,k)∈(relabel sc env).names->(x,eZ)∈sc.names:=by
  intro k hk hmem;unfold relabel at hmem
  grind
 exact hm.elim (go _ (.inl rfl)) (go _ (.inr rfl))
section
variable {X:Cx}{zG:List (Addr×Obj)}{Z:St}{H:Hp}{s:Shared}
structure CompOk (X:Cx) (sc:gH) (N':List Str) (js:List (Option Nat)):Prop where
 kind:sc.kind=.function
 cell:∀y∈sc.names,y.2≠.cell
 free:∀x,(x,eZ)∈sc.names->X.env.scope.names.lookup x=some .cell\/X.env.scope.names.lookup x=some .free
 names:∀y∈sc.names,y.2=.local->sc.names.lookup y.1=some .local
 cap:Lf sc X.env.scope X.N N' js=true
theorem CompOk.of{sc:gH}{N':List Str}{js:List (Option Nat)}(h:JU sc X.env.scope X.N N' js=true):CompOk X sc N' js:=by
 unfold JU at h;rw [de,de,fB] at h;obtain⟨⟨h1,h2⟩,h3⟩:=h;refine⟨Vg h1,λy hy e=>?_,λx hx=>?_,λy hy e=>?_,h3⟩
 ·have q:=h2 y hy
  unfold cB at q
  simp_all
 ·have q:=h2 _ hx
  exact SF q
 ·have q:=h2 y hy
  unfold cB at q;rw [e] at q;exact Ve q
theorem Pp{sc:gH}{N':List Str}{js:List (Option Nat)}{cl:List (Str×Ch)}{fp:List Ch}{h₁:dg}{tk:Nat}(I:Inv X zG Z H s)(hc:X.calm=true)(O:CompOk X sc N' js)
  (hcl:∀x c,cl.lookup x=some c->X.env.cells.lookup x=some c) (hcl2:∀x,(x,eZ)∈sc.names->∃c,cl.lookup x=some c)
  (hf:∀b∈fp,IR X zG H b) (ho:∀b∈fp,∃o,s.heap.get? b=some o)
  (hns:h₁.Ns (s.heap.objs.size+1) (λ_=>none)) (hk:∀b o,s.heap.get? b=some o->h₁.get? b=some o) (hD:∃n,h₁.get? s.heap.objs.size=some { cls:=.type "list",data:=.seq #[] n }) :
  Inv (BA X sc N' cl (s.heap.objs.size+1) s H fp) [] (Cp js Z) (BD H s.heap.objs.size (.lst [])) { s with heap:=h₁,toks:=tk }:=by
 have fr:∀a,s.heap.objs.size<=a->H a=none:=λa ha=>I.hok.fresh ha
 have cellLt:∀x c,cl.lookup x=some c->c<s.heap.objs.size:=λx c e=>by
  obtain⟨v,q⟩:=I.cell x c (hcl x c e);exact q.lt
 have ok:(BA X sc N' cl (s.heap.objs.size+1) s H fp).Ok:=by
  refine⟨I.ok.mod,O.kind,I.ok.glob,I.ok.blt,fm _,λx y c h1 h2=>I.ok.inj x y c (hcl x c h1) (hcl y c h2),λx hx=>?_,λx c hx=>?_,λ_=>I.ok.hd hc,I.ok.frames,.inl rfl,λb hb=>⟨?_,λx c e=>?_⟩,I.bs,dn I.ok.bsz I.sz,λb o e hb=>?_,λb hb hb2=>?_,I.stack,I.stkFree⟩
  ·exact hcl2 x (Qf (env:=X.env) O.cell hx)
  ·exact absurd (show false=true from hx) dr
  ·obtain⟨o,e⟩:=ho b hb
   exact da (fG (XV e))
  ·exact(hf b hb).2.2.2.2.1 x c (hcl x c e)
  ·rcases (hf b hb).2.2.2.1 with z | z
   ·exact I.ok.noex b o e z
   ·have h1:b<X.base.objs.size:=XV e
    exact absurd (eI h1 (dn I.ok.bsz z)) (fH _)
  ·rcases ZB.mp (I.stkSub b hb2) with z | z
   ·exact(hf b hb).2.1 z
   ·exact(hf b hb).2.2.1 z
 refine⟨ok,rfl,I.bare,?_,⟨_,hns,λi x v h1 h2 h3=>?_⟩,λx c e=>?_,?_,λx c e=>?_,λp hp=>absurd (show p∈([]:List (Ch×Obj)) from hp) (by simp),?_,?_⟩
 ·exact Un.laid hk (Op _) (fr _ (Op _))
 ·obtain⟨j,e1,e2⟩:=Tr h2
  obtain⟨c1,c2,c3⟩:=OT O.cap h1 e1;obtain⟨m,_,hl⟩:=I.loc;obtain⟨u,r,l⟩:=hl j x v c2 e2 (.inr c3);refine⟨u,r,.inr ⟨C_ c1,?_⟩⟩
  rcases l with ⟨l1,_⟩ | ⟨_,c,l2,l3⟩
  ·have l1':X.env.scope.names.lookup x=some .local:=l1
   rcases c3 with c3 | c3 <;> (rw [l1'] at c3; cases c3)
  ·obtain⟨c',e'⟩:=hcl2 x (PySem.mem_of_lookup c1)
   have:c'=c:=dh ((hcl x c' e').symm.trans l2)
   subst this;obtain⟨oc,hoc,hocd⟩:=id l3;exact⟨c',e',oc,hk _ _ hoc,hocd⟩
 ·obtain⟨v,oc,hoc,hocd⟩:=I.cell x c (hcl x c e)
  exact⟨v,oc,hk _ _ hoc,hocd⟩
 ·show BD H s.heap.objs.size (.lst []) (s.heap.objs.size+1)=none
  rw [Ag (jj _)];exact fr _ (fm _)
 ·show BD H s.heap.objs.size (.lst []) c=none
  rw [Ag (da (cellLt x c e))];exact I.freeC x c (hcl x c e)
 ·refine I.hok.laid hk (Op _) ?_
  obtain⟨n,e⟩:=hD;exact⟨dY _,[],n,.nil,e⟩
 ·unfold Cp
  show (js.map _).length=N'.length;rw [Go];exact Fn O.cap
theorem Un.but{fs ex:List Ch}{H H1:Hp}{h h1 h':dg}{C:Ch}(u:Un fs ex H H1 h h1)(hC:h.get? C=none)(hs:∀b,b≠C->h'.get? b=h1.get? b):Un fs ex H H1 h h':=by
 have ne:∀{b:Ch} {o:Obj},h.get? b=some o->b≠C:=λ{b o} e z=>by grind
 refine⟨λb o e n h1 h2=>(hs b (ne e)).trans (u.keep b o e n h1 h2),λb o e n h1 h2=>?_,u.free,λb o e h1=>?_,u.tups,u.frzs,u.tbls⟩
 ·obtain⟨sl,q⟩:=u.slot b o e n h1 h2
  exact⟨sl,(hs b (ne e)).trans q⟩
 ·obtain⟨o',q⟩:=u.there b o e h1
  simp_all
theorem LO{sc:gH}{N':List Str}{cl:List (Str×Ch)}{C:Ch}{fp:List Ch}{pins':List (Ch×Obj)}{zZ:St}{H':Hp}{s':On}{h':dg}(I:Inv X zG Z H s)(hf:∀b∈fp,IR X zG H b)(hC:s.heap.objs.size<=C)
  (J:Inv (BA X sc N' cl C s H fp) pins' zZ H' s') (hs:∀b,b≠C->h'.get? b=s'.heap.get? b):Inv X zG Z H' { s' with heap:=h' }:=by
 have hC':H' C=none:=J.free
 refine I.call' J.os (Un.but J.base (by
  cases e:s.heap.get? C with
  | none=>rfl
  | some o=>exact absurd (XV e) (jb.mpr hC)) hs) (λa o e=>(J.hok a o e).stay (λb u hb q=>(hs b (λz=>by
   grind)).trans q) (λ_ q=>q) λ_ _ q=>q) J.bare λb hb=>?_
 ·obtain⟨f0,f1,f2,f3,f4,f5⟩:=hf b hb
  exact⟨f3,f1,f4,f5⟩
end
noncomputable def bL(X:Cx)(ifs:List d6)(t:TT):Prop :=
 ∀(zG:List (Ch×Obj)) (s:On) (Z:St) (H:Hp) (Q:Bool->Hp->Prop),Inv X zG Z H s->t Z H Q ->
  wpAny (model X.prog X.w) X.A (forIn ifs true λc r=>if r=true then do let ok ← isTrue c X.env (eval c X.env); pure (gC ok) else pure (gC r)) (TP X zG Z Q) X.xe s
noncomputable def bp:TT:=λ_ H Q=>Q true H
theorem Ww{X:Cx}:bL X [] bp:=λzG s Z H Q I h=>wpAny_tests_nil ⟨H,I,h⟩
theorem Wv{X:Cx}{c:d6}{t:TT}(h:PT X c t):bL X [c] t:=λzG s Z H Q I q=>wpAny_tests_one (h _ s Z H Q I q)
noncomputable def UZ(X:Cx)(sc:gH)(N':List Str)(js:List (Option Nat))(tg elt:d6)(ifs:List d6)(wi:TI):TE:=λZ H Q=>wi Z H λJ H1=>∀l,H1 l=none->X.K.lookup l=none->∀cl C s H0 fp,∃(g:TG) (tt:TT) (te:TE) (W:Nat->Nat->St->Hp->Prop),
 PG (BA X sc N' cl C s H0 fp) tg g/\bL (BA X sc N' cl C s H0 fp) ifs tt/\PE (BA X sc N' cl C s H0 fp) elt te/\(∃m,W 0 m (Cp js Z) (BD H1 l (.lst [])))/\∀i m zZ H',W i m zZ H' ->
 (J.stop i H'/\Q (.ref l) H')\/(J.go i H'/\∀x H2,J.yld i H' x H2->g x zZ H2 λzV H3=>tt zV H3 λb H4=>if b=true then te zV H4 λy H5=>∃ys,H5 l=some (.lst ys)/\ys.length<sizeLine/\∃m',m'<m/\W (i+1) m' zV (BD H5 l (.lst (ys++[y]))) else ∃m',m'<m/\W (i+1) m' zV H4)
section
variable {X:Cx}{tg elt iter:Expr}{ifs:List Expr}{sc:Scope}{pos:Pos}{N':List Str}{js:List (Option Nat)}{wi:TI}{g:TG}{tt:TT}{te:TE}
theorem M_{zG:List (Ch×Obj)}{Z:St}{H:Hp}{s:On}{cl:List (Str×Ch)}{C l it:Ch}{fp:List Ch}{tn:Nat->dg->Prop}{J:It}{s3:On}{Q:VK}{R:Result->On->Prop}{W:Nat->Nat->St->Hp->Prop}{m0:Nat}{zI:St}{H0:Hp}
  (I:Inv X zG Z H s) (hf:∀b∈fp,IR X zG H b) (hlt:∀b∈fp,b<s.heap.objs.size) (hC:s.heap.objs.size<=C)
  (T:Turn X.prog X.w X.K tg J fp it tn)
  (hg:PG (BA X sc N' cl C s H fp) tg g) (ht:bL (BA X sc N' cl C s H fp) ifs tt) (he:PE (BA X sc N' cl C s H fp) elt te)
  (hW:∀i m zZ H',W i m zZ H' ->
   (J.stop i H'/\Q (.ref l) H')\/(J.go i H'/\∀x H2,J.yld i H' x H2->g x zZ H2 λzV H3=>tt zV H3 λb H4=>if b=true then te zV H4 λy H5=>∃ys,H5 l=some (.lst ys)/\ys.length<sizeLine/\∃m',m'<m/\W (i+1) m' zV (BD H5 l (.lst (ys++[y]))) else ∃m',m'<m/\W (i+1) m' zV H4))
  (hR:∀zZ H' s',Inv (BA X sc N' cl C s H fp) [] zZ H' s'->Q (.ref l) H'->R (.ok .next) s')
  (I3:Inv (BA X sc N' cl C s H fp) [] zI H0 s3) (t3:tn 0 s3.heap) (f3:∀b∈fp,H0 b=none) (w0:W 0 m0 zI H0) :
  codeAny (model X.prog X.w) X.A (.compLoop (.ListComp elt [⟨tg,iter,ifs,0⟩] sc pos) 0 (.ref it) (.ref l) (compEnvC sc cl C X.env)) R s3:=by
 have stat:∀{H':Hp},(∀b∈fp,H' b=none)->∀b∈fp,IR (BA X sc N' cl C s H fp) [] H' b:=λhn b hb=>by
  have q:=I3.ok.exf b hb;refine⟨hn b hb,q.1,I3.ok.exfs b hb,.inl hb,q.2,λp hp=>absurd (show p∈([]:List (Ch×Obj)) from hp) (by simp)⟩
 refine OS (λn s'=>∃i zZ H',Inv (BA X sc N' cl C s H fp) [] zZ H' s'/\tn i s'.heap/\(∀b∈fp,H' b=none)/\W i n zZ H') ?_ m0 ⟨0,zI,H0,I3,t3,f3,w0⟩;rintro n s4 ⟨i,zQ,H4,I4,st4,fr4,w4⟩
 rcases hW i n zQ H4 w4 with ⟨stop,qn⟩ | ⟨go,step⟩
 ·refine thn (T.done (BA X sc N' cl C s H fp) rfl rfl rfl rfl i [] s4 zQ H4 (λ_ _=>False) I4 (stat fr4) st4 stop) λr s5 ⟨hr,I5⟩=>?_
  subst hr;exact hR zQ H4 s5 I5 qn
 ·refine thn (T.item (BA X sc N' cl C s H fp) rfl rfl rfl rfl i [] s4 zQ H4 (λ_ _=>False) I4 (stat fr4) st4 go) λr s5 ⟨u,hr,h5⟩=>?_
  subst hr;refine thn h5 λ_ s6 ⟨x,H6,I6,r6,y6,st6,fr6⟩=>?_;have I6':=I6.pinned (stat fr6) (T.obj _ _ st6);refine thn (hg _ s6 zQ H6 x u _ I6' r6 (step x H6 y6)) λ_ s7 ⟨zM,H7,I7,q7⟩=>?_
  have again:∀{zJ:St} {H9:Hp} {s9:On} {m':Nat},Inv (BA X sc N' cl C s H fp) ([]++K6 fp s6.heap) zJ H9 s9->m'<n->W (i+1) m' zJ H9->∃m,m<n/\∃i zZ H',Inv (BA X sc N' cl C s H fp) [] zZ H' s9/\tn i s9.heap/\(∀b∈fp,H' b=none)/\W i m zZ H':=λ{zJ H9 s9 m'} I9 hm w9=>by
   refine⟨m',hm,i+1,zJ,H9,I9.unpinned,T.keep _ _ _ st6 λb hb o e=>(I9.pin (b,o) (df _ (df _ (Ex hb e)))).1,λb hb=>?_,w9⟩;obtain⟨o,e,d⟩:=T.obj _ _ st6 b hb;exact(I9.pin (b,o) (df _ (df _ (Ex hb e)))).2.1
  refine thn (ht _ s7 zM H7 _ I7 q7) λok s8 ⟨H8,I8,q8⟩=>?_;cases ok with
  | false =>
   have q8':∃m',m'<n/\W (i+1) m' zM H8:=q8;obtain⟨m',hm,w8⟩:=q8';show ∃m,m<n/\_;exact again I8 hm w8
  | true =>
   refine thn (he _ s8 zM H8 _ I8 q8) λy s9 ⟨yv,H9,I9,ry,q9⟩=>?_;obtain⟨ys,hl,hz,m',hm,w9⟩:=q9;refine thn (DJ (X:=BA X sc N' cl C s H fp) _ s9 zM H9 (.ref l) [yv] (.ref l) [y] (λv H'=>v=.non/\H'=BD H9 l (.lst (ys++[yv]))) I9 rfl (.cons ry .nil) ⟨l,ys,yv,rfl,rfl,hl,hz,rfl,rfl⟩) λ_ sa ⟨v,Ha,Ia,_,_,eH⟩=>?_;subst eH;exact again Ia hm w9
theorem Wz(hc:X.calm=true)(N':List Str)(js:List (Option Nat))(hi:PI X tg iter wi)
  (hB:JU sc X.env.scope X.N N' js=true)
  (hs:autoParam (∀x,foldedSetIterable iter X.env x=pure x) zau2._auto_1) :
  PE X (.ListComp elt [⟨tg,iter,ifs,0⟩] sc pos) (UZ X sc N' js tg elt ifs wi):=by
 intro zG s Z H Q I h;have O:CompOk X sc N' js:=CompOk.of hB;obtain⟨cl,hclos,hcl,hcl2⟩:=Ld (scope:=sc) (env:=X.env) λx hx=>I.ok.has x (O.free x hx);rw [eval_ListComp];refine wpAny_comprehension_free (use:=none) rfl hs hclos O.kind O.names (thn (hi zG s Z H _ I h) λv s1 h1=>thn h1 λitv s2 h2=>?_);obtain⟨it,fp,tn,J,H2,e,I2,T,st2,f2,hq⟩:=h2;subst e
 have kfree:X.K.lookup s2.heap.objs.size=none:=by
  cases q:X.K.lookup s2.heap.objs.size with
  | none=>rfl
  | some o=>exact absurd (XV (I2.kIn _ _ q)) (fH _)
 obtain⟨g,tt,te,W,hg,ht,he,⟨m0,w0⟩,hW⟩:=hq s2.heap.objs.size (I2.hok.fresh (Op _)) kfree cl (s2.heap.objs.size+1) s2 H2 fp;refine fw (wpAny_newFunctionEnv O.cell (by intro y hy; simp at hy) (λh₁ hns₁ hsb₁=>?_) O.kind)
 dsimp only at hns₁ hsb₁ ⊢
 generalize hH2:s2.heap.push { cls:=.type "list",dict:=none,data:=.seq ([]:List Db).toArray }=Hh at hns₁ hsb₁ ⊢;have hCe:Hh.objs.size=s2.heap.objs.size+1:=by rw [← hH2,ft]
 have hlt:∀b∈fp,b<s2.heap.objs.size:=λb hb=>by
  obtain⟨o,e,_⟩:=T.obj _ _ st2 b hb;exact XV e
 have old:∀b o,s2.heap.get? b=some o->h₁.get? b=some o:=λb o e=>hsb₁.extBut b o (by rw [hCe]; exact da (fG (XV e))) (FM _ (hH2▸FM _ e));have hD:∃n,h₁.get? s2.heap.objs.size=some { cls:=.type "list",data:=.seq #[] n }:=⟨_,hsb₁.extBut _ _ (by rw [hCe]; exact da (iW _)) (FM _ (hH2▸UF _ rfl))⟩
 have I3:∀tk,Inv (BA X sc N' cl (s2.heap.objs.size+1) s2 H2 fp) [] (Cp js Z) (BD H2 s2.heap.objs.size (.lst [])) { s2 with heap:=h₁,toks:=tk }:=λtk =>
  Pp I2 hc O hcl hcl2 f2 (λb hb=>let ⟨o,e,_⟩:=T.obj _ _ st2 b hb; ⟨o,e⟩) (by rw [← hCe]; exact hns₁) old hD
 have st3:tn 0 h₁:=T.keep _ _ _ st2 λb hb o e=>old b o e
 have fr3:∀b∈fp,BD H2 s2.heap.objs.size (.lst []) b=none:=λb hb=>by
  rw [Ag (da (hlt b hb))];exact(f2 b hb).1
 have loop:∀tk,codeAny (model X.prog X.w) X.A (.compLoop (.ListComp elt [⟨tg,iter,ifs,0⟩] sc pos) 0 (.ref it) (.ref s2.heap.objs.size) (compEnvC sc cl (s2.heap.objs.size+1) X.env))
   (compPost (model X.prog X.w) X.A X.xe none (EP X zG Z Q) (.ref s2.heap.objs.size) (s2.heap.objs.size+1)) { s2 with heap:=h₁,toks:=tk }:=λtk=>by
  refine M_ (W:=W) (m0:=m0) (Q:=Q) I2 f2 hlt (fm _) T hg ht he hW (λzZ H' s' J' q'=>?_) (I3 tk) st3 fr3 w0;obtain⟨m,hn,_⟩:=J'.loc;exact⟨m,hn,λh' hs'=>⟨.ref _,H',LO I2 f2 (fm _) J' λb hb=>hs'.2 b hb,rfl,q'⟩⟩
 rw [show (newEnv sc Hh.objs.size X.env.globals cl X.env.qual none .none (some X.env) builtinsNs).locals=s2.heap.objs.size+1 from hCe];show codeAny (model X.prog X.w) X.A (.compStart (.ListComp elt [⟨tg,iter,ifs,0⟩] sc pos) 0 (.ref it) (.ref s2.heap.objs.size) (compEnvC sc cl (s2.heap.objs.size+1) X.env)) _ _;exact codeAny_compStart_list (loop _) (T.self _ 0 _ _ _ st3 (loop _))
end
structure dP (B:dg) (l:List Env) (a C:Ch) (dx:Option Ch) (h:dg):Prop where
 stays:B.StaysIn h
 new:B.get? a=none
 frames:h.FunFrames B l
 obj:∃vs sl tb,h.get? a=some ⟨.ref C,dx,.fields vs,sl⟩/\vs[2]?=some .none/\vs[1]?=some tb/\(tb=.none\/∃T oT ts,tb=.ref T/\B.get? T=none/\T≠a/\h.get? T=some oT/\oT.data=.fields ts/\3<ts.size)
noncomputable def bB:List Db:=[.type "ValueError",.type "Exception",.type "BaseException",.type "object"]
structure XC (K:Frag) (nm:Str) (C U:Ch):Prop where
 obj:∃q N bs sn sub ab col dd k0 k1 k2 k3 k5,K.lookup C=some (excClassObj nm q C N bs (.ref U::bB) true sn sub ab col dd k0 k1 k2 k3 k5 "ValueError.__new__")
 up:∃q N bs sn sub ab col dd k0 k1 k2 k3 k5 hd,K.lookup U=some (excClassObj "ThinError" q U N bs bB hd sn sub ab col dd k0 k1 k2 k3 k5 "ValueError.__new__")
 kp:keepIn K (.ref C)=true
 ga:PySem.W.findIn K (.ref C) "__getattribute__"=some (some (.builtin "BaseException.__getattribute__"))
 gt:PySem.W.findIn K (.ref C) "__getattr__"=some none
 sa:PySem.W.findIn K (.ref C) "__setattr__"=some (some (.builtin "object.__setattr__"))
 at_:nsIn K mainGlobals nm=some (some (.ref C))
 atU:nsIn K mainGlobals "ThinError"=some (some (.ref U))
 ca:PySem.W.findIn K (.ref C) "__class__"=some (some (.builtin "object.__class__"))
 nw:PySem.W.findIn K (.ref C) "word"=some none
 nn:PySem.W.findIn K (.ref C) "number"=some none
 nr:PySem.W.findIn K (.ref C) "row"=some none
structure dU (P:eB) (w:eG) (outer:List Env) (H:Hp) (s:On) (a C:Ch) (dx:Option Ch) (B:dg) (H':Hp) (s':On):Prop where
 os:s'.os=s.os
 bare:iN s'.gens
 un:Un (SI outer) [] H H' s.heap s'.heap
 hok:HOk P w H' B
 all:∀b o o',s.heap.get? b=some o->b∉SI outer->s'.heap.get? b=some o'->B.get? b=some o'
 fly:dP B outer a C dx s'.heap
 new:s.heap.objs.size<=a
 free:H' a=none
noncomputable def XF(d:Ch)(fs:List (Str×V))(h:dg):Prop:=∃mA,h.Ns1 d mA/\(∀f,RelO (fs.lookup f) (mA f))/\PySem.Within mA (fs.map (·.1))/\fs.length<=1000
noncomputable def XT(C:Ch)(dx:Option Ch)(a:Ch)(u:HO):Prop:=∃vs sl,u=.frz ⟨.ref C,dx,.fields vs,sl⟩ (.own a)/\vs[2]?=some .none
end L2
namespace Dp
open L2
inductive D where
 | non | bl (b:Bool) | int (i:Int) | str (x:Str) | tup (xs:List D) | lst (xs:List D) | dic (ks:List Key) (xs:List D) | fdi (ks:List Key) (xs:List D) | dit (ks:List (List Key)) (xs:List D)
 deriving Inhabited
noncomputable def NdT(M:Ch->Prop)(H:Hp)(a:Ch)(vs:List V):Prop:=H a=some (.tup vs)
noncomputable def NdL(M:Ch->Prop)(H:Hp)(a:Ch)(vs:List V):Prop:=¬M a/\H a=some (.lst vs)
noncomputable def NdD(M:Ch->Prop)(H:Hp)(a:Ch)(ks:List Key)(vs:List V):Prop:=¬M a/\H a=some (.dK (ks.zip vs))
noncomputable def NdF(M:Ch->Prop)(H:Hp)(a:Ch)(ks:List Key)(vs:List V):Prop:=∃o,¬M a/\H a=some (.frz o (.dK (ks.zip vs)))
noncomputable def NdU(M:Ch->Prop)(H:Hp)(a:Ch)(ks:List (List Key))(vs:List V):Prop:=¬M a/\H a=some (.dT (ks.zip vs))
mutual
noncomputable def At(K:Frag)(M:Ch->Prop)(H:Hp):D->V->Prop
 | .non,v=>v=.non
 | .bl b,v=>v=.bl b
 | .int i,v=>v=.int i
 | .str x,v=>v=.str x/\x.length<=sizeLine
 | .tup ds,v=>∃a vs,v=.ref a/\NdT M H a vs/\Ats K M H ds vs
 | .lst ds,v=>∃a vs,v=.ref a/\NdL M H a vs/\Ats K M H ds vs
 | .dic ks ds,v=>∃a vs,v=.ref a/\NdD M H a ks vs/\ks.length=ds.length/\Ats K M H ds vs
 | .fdi ks ds,v=>∃a vs,v=.ref a/\NdF M H a ks vs/\ks.length=ds.length/\Ats K M H ds vs
 | .dit ks ds,v=>∃a vs,v=.ref a/\NdU M H a ks vs/\ks.length=ds.length/\Ats K M H ds vs
noncomputable def Ats(K:Frag)(M:Ch->Prop)(H:Hp):List D->List V->Prop
 | [],vs=>vs=[]
 | d::ds,vs=>∃v r,vs=v::r/\At K M H d v/\Ats K M H ds r
end
section
variable {K:Frag}{M M':Addr->Prop}{H H':Hp}{a:Addr}{vs:List V}{ks:List Key}
theorem NdT.sq(h:NdT M H a vs):SqT K H a vs:=.inl (.inl h)
theorem NdL.sq(h:NdL M H a vs):SqL K H a vs:=.inl (.inl h.2)
noncomputable def Pres(M:Ch->Prop)(H:Hp)(M':Ch->Prop)(H':Hp):Prop:=(∀b o,H b=some o->¬M b->H' b=some o)/\(∀b,M' b->M b\/H b=none)/\∀b vs,H b=some (.tup vs)->H' b=some (.tup vs)
theorem Pres.nd{u:HO}(p:Pres M H M' H')(n:¬M a)(h:H a=some u):¬M' a/\H' a=some u:=by
 refine⟨λz=>?_,p.1 _ _ h n⟩
 rcases p.2.1 a z with z | z
 ·exact n z
 grind
theorem NdT.pres(p:Pres M H M' H')(h:NdT M H a vs):NdT M' H' a vs:=p.2.2 _ _ h
theorem NdL.pres(p:Pres M H M' H')(h:NdL M H a vs):NdL M' H' a vs:=p.nd h.1 h.2
theorem NdD.pres(p:Pres M H M' H')(h:NdD M H a ks vs):NdD M' H' a ks vs:=p.nd h.1 h.2
theorem NdU.pres{ks:List (List Key)}(p:Pres M H M' H')(h:NdU M H a ks vs):NdU M' H' a ks vs:=p.nd h.1 h.2
theorem NdF.pres(p:Pres M H M' H')(h:NdF M H a ks vs):NdF M' H' a ks vs:=let ⟨o,h1,h2⟩:=h; ⟨o,p.nd h1 h2⟩
mutual
theorem At.pres(p:Pres M H M' H'):∀{d:D} {v:V},At K M H d v->At K M' H' d v
 | .non,v,h=>h
 | .bl b,v,h=>h
 | .int i,v,h=>h
 | .str x,v,h=>h
 | .tup ds,v,h=>by
  obtain⟨a,vs,e,hn,hs⟩:=h;exact⟨a,vs,e,hn.pres p,Ats.pres p hs⟩
 | .lst ds,v,h=>by
  obtain⟨a,vs,e,hn,hs⟩:=h;exact⟨a,vs,e,hn.pres p,Ats.pres p hs⟩
 | .dic ks ds,v,h=>by
  obtain⟨a,vs,e,hn,hl,hs⟩:=h;exact⟨a,vs,e,hn.pres p,hl,Ats.pres p hs⟩
 | .fdi ks ds,v,h=>by
  obtain⟨a,vs,e,hn,hl,hs⟩:=h;exact⟨a,vs,e,hn.pres p,hl,Ats.pres p hs⟩
 | .dit ks ds,v,h=>by
  obtain⟨a,vs,e,hn,hl,hs⟩:=h;exact⟨a,vs,e,hn.pres p,hl,Ats.pres p hs⟩
theorem Ats.pres(p:Pres M H M' H'):∀{ds:List D} {vs:List V},Ats K M H ds vs->Ats K M' H' ds vs
 | [],vs,h=>h
 | d::ds,vs,h=>by
  obtain⟨v,r,e,h1,h2⟩:=h;exact⟨v,r,e,At.pres p h1,Ats.pres p h2⟩
end
theorem Pres.trans{M1 M2 M3:Ch->Prop}{H1 H2 H3:Hp}(p:Pres M1 H1 M2 H2)(q:Pres M2 H2 M3 H3):Pres M1 H1 M3 H3:=by
 refine⟨λb o e n=>?_,λb z=>?_,λb vs e=>q.2.2 b vs (p.2.2 b vs e)⟩
 ·refine q.1 b o (p.1 b o e n) λz=>?_
  rcases p.2.1 b z with z | z
  ·exact n z
  grind
 ·rcases q.2.1 b z with z | z
  ·exact p.2.1 b z
  ·cases e:H1 b with
   | none=>grind
   | some o =>
    by_cases n:M1 b
    ·exact .inl n
    ·rw [p.1 b o e n] at z; cases z
theorem Pres.refl(M:Ch->Prop)(H:Hp):Pres M H M H:=⟨λ_ _ e _=>e,λ_ z=>.inl z,λ_ _ e=>e⟩
theorem Pres.less(h:∀b,M' b->M b):Pres M H M' H:=⟨λ_ _ e _=>e,λb z=>.inl (h b z),λ_ _ e=>e⟩
theorem Ats.length:∀{ds:List D} {vs:List V},Ats K M H ds vs->vs.length=ds.length
 | [],vs,h=>by cases h; rfl
 | d::ds,vs,h=>by
  obtain⟨v,r,e,h1,h2⟩:=h;subst e;rw [dq,dq,Ats.length h2]
theorem Ats.get:∀{ds:List D} {vs:List V} {i:Nat} {d:D},Ats K M H ds vs->ds[i]?=some d->∃v,vs[i]?=some v/\At K M H d v
 | [],vs,i,d,h,e=>by simp at e
 | d0::ds,vs,0,d,h,e=>by
  obtain⟨v,r,e1,h1,h2⟩:=h
  simp_all
 | d0::ds,vs,i+1,d,h,e=>by
  obtain⟨v,r,e1,h1,h2⟩:=h;obtain⟨u,e2,h3⟩:=Ats.get h2 (by simpa using e)
  simp_all
theorem Ats.append:∀{ds es:List D} {vs us:List V},Ats K M H ds vs->Ats K M H es us->Ats K M H (ds++es) (vs++us)
 | [],es,vs,us,h,g=>by cases h; exact g
 | d::ds,es,vs,us,h,g=>by
  obtain⟨v,r,e,h1,h2⟩:=h;subst e;exact⟨v,_,rfl,h1,Ats.append h2 g⟩
theorem Ats.drop:∀{ds:List D} {vs:List V} (n:Nat),Ats K M H ds vs->Ats K M H (ds.drop n) (vs.drop n)
 | ds,vs,0,h=>h
 | [],vs,n+1,h=>by cases h; exact rfl
 | d::ds,vs,n+1,h=>by
  obtain⟨v,r,e,h1,h2⟩:=h;subst e;exact Ats.drop n h2
theorem Ats.take:∀{ds:List D} {vs:List V} (n:Nat),Ats K M H ds vs->Ats K M H (ds.take n) (vs.take n)
 | ds,vs,0,h=>rfl
 | [],vs,n+1,h=>by cases h; exact rfl
 | d::ds,vs,n+1,h=>by
  obtain⟨v,r,e,h1,h2⟩:=h;subst e;exact⟨v,_,rfl,h1,Ats.take n h2⟩
theorem Ats.one{d:D}{v:V}(h:At K M H d v):Ats K M H [d] [v]:=⟨v,[],rfl,h,rfl⟩
theorem Ats.eraseIdx:∀{ds:List D} {vs:List V} (i:Nat),Ats K M H ds vs->Ats K M H (ds.eraseIdx i) (vs.eraseIdx i)
 | [],vs,i,h=>by cases h; exact rfl
 | d0::ds,vs,0,h=>by
  obtain⟨u,r,e1,h1,h2⟩:=h
  grind
 | d0::ds,vs,i+1,h=>by
  obtain⟨u,r,e1,h1,h2⟩:=h;subst e1;exact⟨u,_,rfl,h1,Ats.eraseIdx i h2⟩
theorem Ats.reverse:∀{ds:List D} {vs:List V},Ats K M H ds vs->Ats K M H ds.reverse vs.reverse
 | [],vs,h=>by cases h; exact rfl
 | d::ds,vs,h=>by
  obtain⟨v,r,e,h1,h2⟩:=h;subst e;rw [gU,gU];exact Ats.append (Ats.reverse h2) (Ats.one h1)
end
inductive Kd where
 | sh | tp | fr
noncomputable def Tops(K:Frag)(M:Ch->Prop)(H:Hp)(a:Ch):D->Prop
 | .lst ds=>∃vs,H a=some (.lst vs)/\Ats K M H ds vs
 | .dic ks ds=>∃vs,H a=some (.dK (ks.zip vs))/\ks.length=ds.length/\Ats K M H ds vs
 | .dit ks ds=>∃vs,H a=some (.dT (ks.zip vs))/\ks.length=ds.length/\Ats K M H ds vs
 | _=>False
theorem Tops.notT{K:Frag}{M:Ch->Prop}{H:Hp}{a:Ch}{d:D}(h:Tops K M H a d){vs:List V}:H a≠some (.tup vs):=λq=>by
 cases d with
 | lst ds=>obtain⟨us,e,_⟩:=h; grind
 | dic ks ds=>obtain⟨us,e,_⟩:=h; grind
 | dit ks ds=>obtain⟨us,e,_⟩:=h; grind
 | _=>exact h.elim
theorem Tops.pres{K:Frag}{M M':Ch->Prop}{H H':Hp}{a:Ch}{d:D}(h:Tops K M H a d)(p:Pres M H M' H')(e:∀o,H a=some o->H' a=some o):Tops K M' H' a d:=by
 cases d with
 | lst ds=>obtain⟨vs,h1,h2⟩:=h; exact⟨vs,e _ h1,h2.pres p⟩
 | dic ks ds=>obtain⟨vs,h1,h2,h3⟩:=h; exact⟨vs,e _ h1,h2,h3.pres p⟩
 | dit ks ds=>obtain⟨vs,h1,h2,h3⟩:=h; exact⟨vs,e _ h1,h2,h3.pres p⟩
 | _=>assumption
theorem Tops.at{K:Frag}{M:Ch->Prop}{H:Hp}{a:Ch}{d:D}(h:Tops K M H a d)(n:¬M a):At K M H d (.ref a):=by
 cases d with
 | lst ds=>obtain⟨vs,h1,h2⟩:=h; exact⟨a,vs,rfl,⟨n,h1⟩,h2⟩
 | dic ks ds=>obtain⟨vs,h1,h2,h3⟩:=h; exact⟨a,vs,rfl,⟨n,h1⟩,h2,h3⟩
 | dit ks ds=>obtain⟨vs,h1,h2,h3⟩:=h; exact⟨a,vs,rfl,⟨n,h1⟩,h2,h3⟩
 | _=>exact(h).elim
noncomputable def AtT(K:Frag)(U:Ch->Prop)(M:Ch->Prop)(H:Hp):D->V->Prop
 | .lst ds,v=>∃a vs,v=.ref a/\¬U a/\Rd H a (.lst vs)/\Ats K M H ds vs
 | .dic ks ds,v=>∃a vs,v=.ref a/\¬U a/\H a=some (.dK (ks.zip vs))/\ks.length=ds.length/\Ats K M H ds vs
 | .dit ks ds,v=>∃a vs,v=.ref a/\¬U a/\H a=some (.dT (ks.zip vs))/\ks.length=ds.length/\Ats K M H ds vs
 | d,v=>At K M H d v
theorem Tops.att{K:Frag}{U M:Ch->Prop}{H:Hp}{a:Ch}{d:D}(h:Tops K M H a d)(n:¬U a):AtT K U M H d (.ref a):=by
 cases d with
 | lst ds=>obtain⟨vs,h1,h2⟩:=h; exact⟨a,vs,rfl,n,.inl h1,h2⟩
 | dic ks ds=>obtain⟨vs,h1,h2,h3⟩:=h; exact⟨a,vs,rfl,n,h1,h2,h3⟩
 | dit ks ds=>obtain⟨vs,h1,h2,h3⟩:=h; exact⟨a,vs,rfl,n,h1,h2,h3⟩
 | _=>exact(h).elim
noncomputable def VR(K:Frag)(U:Ch->Prop)(M:Ch->Prop)(H H':Hp):Kd->V->D->Prop
 | .sh,v,d=>At K M H' d v
 | .tp,v,d=>AtT K U M H' d v
 | .fr,v,d=>∃a,v=.ref a/\H a=none/\Tops K (λb=>M b\/b=a) H' a d
noncomputable def FeedOk(K:Frag)(M:Ch->Prop)(H:Hp)(f:Ch×Ch)(n:Nat):Prop :=
 ∃(at_ rest:Int) (cells:List Int),H f.1=some (.lst [.ref f.2,.int at_,.int rest])/\f.2≠f.1/\NdL M H f.2 (cells.map V.int)/\cells.length<=63/\0<=at_/\at_+n<=2 ^ 60
noncomputable def FeedC(K:Frag)(F:Option (Ch×Ch))(M:Ch->Prop)(H:Hp)(n:Nat):Prop:=∀f,F=some f->FeedOk K M H f n
noncomputable def Ext(U:Ch->Prop)(H H':Hp):Prop:=∀b o,H b=some o->∃o',H' b=some o'/\(¬U b->o'=o)/\∀vs,o=.tup vs->o'=o
theorem Ext.keep{U:Ch->Prop}{H H':Hp}(p:Ext U H H'){b:Ch}{o:HO}(e:H b=some o)(n:¬U b):H' b=some o:=by
 obtain⟨o',q,r,_⟩:=p b o e;rw [q,r n]
theorem Ext.tup{U:Ch->Prop}{H H':Hp}(p:Ext U H H'){b:Ch}{vs:List V}(e:H b=some (.tup vs)):H' b=some (.tup vs):=by
 obtain⟨o',q,_,r⟩:=p b _ e
 grind
theorem Ext.free{U:Ch->Prop}{H H':Hp}(p:Ext U H H'){b:Ch}(e:H' b=none):H b=none:=by
 cases q:H b with
 | none=>rfl
 | some o =>
  obtain⟨o',z,_⟩:=p b o q
  grind
theorem Ext.refl(U:Ch->Prop)(H:Hp):Ext U H H:=λ_ o e=>⟨o,e,λ_=>rfl,λ_ _=>rfl⟩
theorem Ext.trans{U:Ch->Prop}{H1 H2 H3:Hp}(p:Ext U H1 H2)(q:Ext U H2 H3):Ext U H1 H3:=λb o e=>by
 obtain⟨o',e1,r1,t1⟩:=p b o e;obtain⟨o2,e2,r2,t2⟩:=q b o' e1;exact⟨o2,e2,λn=>(r2 n).trans (r1 n),λvs z=>(t2 vs ((t1 vs z).trans z)).trans (t1 vs z)⟩
noncomputable def Grow(H H':Hp):Prop:=H'=H\/∃p o,H p=none/\H'=BD H p o
theorem Grow.all{H H':Hp}(g:Grow H H'):∀b o,H b=some o->H' b=some o:=by
 intro b o e
 rcases g with rfl | ⟨p,u,n,rfl⟩
 ·exact e
 ·rw [Ag (A3 e n)]; exact e
theorem Grow.refl{H:Hp}:Grow H H:=.inl rfl
theorem Grow.ext{U:Ch->Prop}{H H':Hp}(g:Grow H H'):Ext U H H':=λb o e=>⟨o,g.all b o e,λ_=>rfl,λ_ _=>rfl⟩
theorem Grow.pres{M:Ch->Prop}{H H':Hp}(g:Grow H H'):Pres M H M H':=⟨λb o e _=>g.all b o e,λ_ z=>.inl z,λb vs e=>g.all b _ e⟩
theorem FeedOk.pres{K:Frag}{M M':Ch->Prop}{H H':Hp}{f:Ch×Ch}{n:Nat}(h:FeedOk K M H f n)(p:Pres M H M' H')(e:∀o,H f.1=some o->H' f.1=some o):FeedOk K M' H' f n:=by
 obtain⟨a,r,cs,h1,h2,h3,h4⟩:=h;exact⟨a,r,cs,e _ h1,h2,h3.pres p,h4⟩
theorem FeedC.pres{K:Frag}{F:Option (Ch×Ch)}{M M':Ch->Prop}{H H':Hp}{n:Nat}(h:FeedC K F M H n)(p:Pres M H M' H')(e:∀f o,F=some f->H f.1=some o->H' f.1=some o):FeedC K F M' H' n:=λf hf=>(h f hf).pres p λo q=>e f o hf q
theorem FeedC.grow{K:Frag}{F:Option (Ch×Ch)}{M:Ch->Prop}{H H':Hp}{n:Nat}(h:FeedC K F M H n)(g:Grow H H'):FeedC K F M H' n:=h.pres g.pres λf o _ e=>g.all _ o e
theorem FeedC.more{K:Frag}{F:Option (Ch×Ch)}{M:Ch->Prop}{H:Hp}{n:Nat}(h:FeedC K F M H n)(a:Ch)(ha:∀f,F=some f->f.2≠a):FeedC K F (λb=>M b\/b=a) H n:=λf hf=>by
 obtain⟨x,r,cs,h1,h2,h3,h4⟩:=h f hf;exact⟨x,r,cs,h1,h2,⟨λz=>z.elim h3.1 (ha f hf),h3.2⟩,h4⟩
noncomputable def AtX(K:Frag)(M:Ch->Prop)(H:Hp)(a:Ch)(nm:Str)(ks:List Str)(ds:List D):Prop:=∃C U dx u vs,XC K nm C U/\(¬M a/\H a=some u)/\XT C dx a u/\(dx=none/\ks=[]/\vs=[]\/∃d,dx=some d/\¬M d/\H d=some (.ext (XF d (ks.zip vs))))/\ks.length=ds.length/\Ats K M H ds vs
theorem AtX.pres{K:Frag}{M M':Ch->Prop}{H H':Hp}{a:Ch}{nm:Str}{ks:List Str}{ds:List D}(h:AtX K M H a nm ks ds)(p:Pres M H M' H'):AtX K M' H' a nm ks ds:=by
 obtain⟨C,U,dx,u,vs,c,⟨n,ha⟩,x,hd,hl,hs⟩:=h;refine⟨C,U,dx,u,vs,c,p.nd n ha,x,?_,hl,hs.pres p⟩
 rcases hd with z | ⟨d,e1,n1,h1⟩
 ·exact .inl z
 ·exact .inr ⟨d,e1,p.nd n1 h1⟩
inductive Slot where
 | no | sh (d:D) | br (d:D) | fd | ow (d:D) | lt (a:Ch) (d:D) | ex (a:Ch) (nm:Str) (ks:List Str) (ds:List D)
noncomputable def Slot.owns:Slot->Bool
 | .ow _=>true
 | .lt _ _=>true
 | _=>false
noncomputable def SlotOk(K:Frag)(F:Option (Ch×Ch))(U:Ch->Prop)(M:Ch->Prop)(H:Hp):Slot->Option V->Prop
 | .no,_=>True
 | .sh d,o=>∃v,o=some v/\At K M H d v
 | .br d,o=>∃v,o=some v/\AtT K U M H d v
 | .fd,o=>∃f,o=some (.ref f.1)/\F=some f
 | .ow d,o=>∃a,o=some (.ref a)/\M a/\¬U a/\Tops K M H a d
 | .lt a d,o=>o=some (.ref a)/\M a/\¬U a/\Tops K M H a d
 | .ex a nm ks ds,o=>o=some (.ref a)/\AtX K M H a nm ks ds
structure Fm where
 M0:Ch->Prop
 F:Option (Ch×Ch)
 U:Ch->Prop
 V:Ch->Prop
 H0:Hp
 zG:List ((Ch->Prop)×Hp)
 kp:List (Ch×HO)
noncomputable def Apart(ρ:List Slot)(Z:L2.St):Prop:=∀(i j:Nat) (s t:Slot) (a:Ch),ρ[i]?=some s->s.owns=true->ρ[j]?=some t->t.owns=true->(Z[i]?).getD none=some (.ref a)->(Z[j]?).getD none=some (.ref a)->i=j
structure Rel (K:Frag) (C:Fm) (M:Ch->Prop) (H:Hp) (n:Nat) (ρ:List Slot) (Z:L2.St):Prop where
 len:ρ.length=Z.length
 sub:∀a,C.M0 a->M a
 dom:∀a,M a->∃o,H a=some o
 ext:Ext C.U C.H0 H
 fU:∀f,C.F=some f->C.U f.1
 uV:∀a,C.U a->C.V a
 vM:∀a,C.V a->M a
 feed:FeedC K C.F M H n
 sl:∀(i:Nat) (s:Slot),ρ[i]?=some s->SlotOk K C.F C.V M H s ((Z[i]?).getD none)
 pin:∀p∈C.zG,Pres p.1 p.2 M H
 br0:∀(i:Nat) (d:D) (a:Ch),ρ[i]?=some (.br d)->(Z[i]?).getD none=some (.ref a)->∃o,C.H0 a=some o
 new:∀(i:Nat) (s:Slot) (a:Ch),ρ[i]?=some s->s.owns=true->(Z[i]?).getD none=some (.ref a)->¬C.M0 a/\C.H0 a=none
 two:Apart ρ Z
 kept:∀p∈C.kp,H p.1=some p.2/\M p.1/\¬C.V p.1/\∀(i:Nat) (d:D),ρ[i]?=some (.ow d)->(Z[i]?).getD none≠some (.ref p.1)
section
variable {K:Frag}{C:Fm}{M:Addr->Prop}{H H':Hp}{n n':Nat}{ρ:List Slot}{Z:L2.St}{d:D}{v:V}{κ:Kd}
theorem Rel.pres(R:Rel K C M H n ρ Z)(e:Ext C.U H H'):Pres M H M H':=⟨λb o q nb=>e.keep q λz=>nb (R.vM b (R.uV b z)),λ_ z=>.inl z,λb vs q=>e.tup q⟩
theorem AtT.pres{U V':Ch->Prop}{M':Ch->Prop}(h:AtT K V' M H d v)(p:Pres M H M' H')(e:Ext U H H')(uV:∀a,U a->V' a):AtT K V' M' H' d v:=by
 cases d with
 | lst ds =>
  obtain⟨a,vs,e1,n1,hq,hs⟩:=h;refine⟨a,vs,e1,n1,?_,hs.pres p⟩
  rcases hq with hq | ⟨o,hq⟩
  ·exact .inl (e.keep hq λz=>n1 (uV a z))
  ·exact .inr ⟨o,e.keep hq λz=>n1 (uV a z)⟩
 | dic ks ds =>
  obtain⟨a,vs,e1,n1,hq,hl,hs⟩:=h;exact⟨a,vs,e1,n1,e.keep hq λz=>n1 (uV a z),hl,hs.pres p⟩
 | dit ks ds =>
  obtain⟨a,vs,e1,n1,hq,hl,hs⟩:=h;exact⟨a,vs,e1,n1,e.keep hq λz=>n1 (uV a z),hl,hs.pres p⟩
 | non=>assumption
 | bl b=>assumption
 | int i=>assumption
 | str x=>assumption
 | tup ds=>exact At.pres p h
 | fdi ks ds=>exact At.pres p h
theorem AtT.same{U V':Ch->Prop}{M':Ch->Prop}(h:AtT K U M H d v)(p:Pres M H M' H')(e:∀a o,v=.ref a->H a=some o->H' a=some o)(nv:∀a,v=.ref a->¬U a->¬V' a):AtT K V' M' H' d v:=by
 cases d with
 | lst ds =>
  obtain⟨a,vs,e1,n1,hq,hs⟩:=h;refine⟨a,vs,e1,nv a e1 n1,?_,hs.pres p⟩
  rcases hq with hq | ⟨o,hq⟩
  ·exact .inl (e a _ e1 hq)
  ·exact .inr ⟨o,e a _ e1 hq⟩
 | dic ks ds =>
  obtain⟨a,vs,e1,n1,hq,hl,hs⟩:=h;exact⟨a,vs,e1,nv a e1 n1,e a _ e1 hq,hl,hs.pres p⟩
 | dit ks ds =>
  obtain⟨a,vs,e1,n1,hq,hl,hs⟩:=h;exact⟨a,vs,e1,nv a e1 n1,e a _ e1 hq,hl,hs.pres p⟩
 | non=>assumption
 | bl b=>assumption
 | int i=>assumption
 | str x=>assumption
 | tup ds=>exact At.pres p h
 | fdi ks ds=>exact At.pres p h
theorem AtT.lies{U:Ch->Prop}{a:Ch}(h:AtT K U M H d (.ref a)):∃o,H a=some o:=by
 cases d with
 | lst ds =>
  obtain⟨b,vs,e,_,hq,_⟩:=h;cases e
  rcases hq with hq | ⟨o,hq⟩
  ·exact⟨_,hq⟩
  grind
 | dic ks ds =>
  obtain⟨b,vs,e,_,hq,_⟩:=h
  grind
 | dit ks ds =>
  obtain⟨b,vs,e,_,hq,_⟩:=h
  grind
 | non=>cases (h)
 | bl b=>cases (h)
 | int i=>cases (h)
 | str x=>cases (h).1
 | tup ds =>
  obtain⟨b,vs,e,hq,_⟩:=h;cases e;exact⟨_,hq⟩
 | fdi ks ds =>
  obtain⟨b,vs,e,⟨o,_,hq⟩,_⟩:=h
  simp_all
theorem SlotOk.pres{F:Option (Ch×Ch)}{U V' M':Ch->Prop}{s:Slot}{o:Option V}(h:SlotOk K F V' M H s o)(p:Pres M H M' H')(m:∀a,M a->M' a)(e:Ext U H H')(uV:∀a,U a->V' a):SlotOk K F V' M' H' s o:=by
 cases s with
 | no=>trivial
 | sh d=>obtain⟨v,e1,h1⟩:=h; exact⟨v,e1,h1.pres p⟩
 | ex a nm ks ds=>obtain⟨e1,h1⟩:=h; exact⟨e1,h1.pres p⟩
 | br d=>obtain⟨v,e1,h1⟩:=h; exact⟨v,e1,h1.pres p e uV⟩
 | fd=>exact h
 | ow d=>obtain⟨a,e1,h1,h2,h3⟩:=h; exact⟨a,e1,m a h1,h2,h3.pres p λo q=>e.keep q λz=>h2 (uV a z)⟩
 | lt a d=>obtain⟨e1,h1,h2,h3⟩:=h; exact⟨e1,m a h1,h2,h3.pres p λo q=>e.keep q λz=>h2 (uV a z)⟩
theorem Rel.step(R:Rel K C M H n ρ Z)(e:Ext C.U H H')(f:FeedC K C.F M H' n'):Rel K C M H' n' ρ Z:=by
 have p:=R.pres e;refine⟨R.len,R.sub,λa z=>?_,R.ext.trans e,R.fU,R.uV,R.vM,f,λi s q=>(R.sl i s q).pres p (λ_ z=>z) e R.uV,λq hq=>(R.pin q hq).trans p,R.br0,R.new,R.two,λq hq=>?_⟩
 ·obtain⟨o,h1⟩:=R.dom a z
  obtain⟨o',h2,_⟩:=e a o h1
  grind
 ·obtain⟨h1,h2,h3,h4⟩:=R.kept q hq
  exact⟨e.keep h1 λz=>h3 (R.uV _ z),h2,h3,h4⟩
theorem Rel.udom(R:Rel K C M H n ρ Z):∀a,C.U a->∃o,H a=some o:=λa z=>R.dom a (R.vM a (R.uV a z))
theorem At.tp{U:Ch->Prop}(uM:∀a,U a->M a)(h:At K M H d v):AtT K U M H d v:=by
 cases d with
 | lst ds =>
  obtain⟨a,vs,e,hn,hs⟩:=h;exact⟨a,vs,e,λz=>hn.1 (uM a z),.inl hn.2,hs⟩
 | dic ks ds =>
  obtain⟨a,vs,e,hn,hl,hs⟩:=h;exact⟨a,vs,e,λz=>hn.1 (uM a z),hn.2,hl,hs⟩
 | dit ks ds =>
  obtain⟨a,vs,e,hn,hl,hs⟩:=h;exact⟨a,vs,e,λz=>hn.1 (uM a z),hn.2,hl,hs⟩
 | non=>exact h
 | bl b=>exact h
 | int i=>exact h
 | str x=>exact h
 | tup ds=>exact h
 | fdi ks ds=>exact h
theorem VR.back{U V':Ch->Prop}{H1:Hp}(e:Ext U H H1)(h:VR K V' M H1 H' κ v d):VR K V' M H H' κ v d:=by
 cases κ with
 | sh=>exact h
 | tp=>exact h
 | fr =>
  obtain⟨a,e1,h1,h2⟩:=h;exact⟨a,e1,e.free h1,h2⟩
theorem VR.shOf{U:Ch->Prop}(dom:∀a,M a->∃o,H a=some o)(h:VR K U M H H' κ v d)(hk:κ≠.tp):At K M H' d v:=by
 cases κ with
 | sh=>exact h
 | tp=>grind
 | fr =>
  obtain⟨a,rfl,h1,h2⟩:=h;refine(h2.pres (Pres.less λ_ z=>.inl z) λ_ z=>z).at λz=>?_
  grind
theorem VR.tpOf{U:Ch->Prop}(dom:∀a,M a->∃o,H a=some o)(uM:∀a,U a->M a)(h:VR K U M H H' κ v d):AtT K U M H' d v:=by
 cases κ with
 | sh=>exact At.tp uM h
 | tp=>exact h
 | fr=>exact At.tp uM (VR.shOf dom h (by grind))
theorem Ki{α:Type}{l:List α}{i j:Nat}{x y:α}(h:(l.set i x)[j]?=some y):(j=i/\i<l.length/\y=x)\/(j≠i/\l[j]?=some y):=by
 rw [List.getElem?_set] at h
 by_cases e:i=j
 ·simp_all
 ·rw [if_neg e] at h
  exact .inr ⟨λz=>e z.symm,h⟩
theorem NX{l:L2.St}{i j:Nat}{x:Option V}(h:j≠i):((l.set i x)[j]?).getD none=(l[j]?).getD none:=by
 rw [List.getElem?_set,if_neg (λz=>h z.symm)]
theorem Ui{l:L2.St}{i:Nat}{x:Option V}(h:i<l.length):((l.set i x)[i]?).getD none=x:=by
 simp_all
theorem Rel.set(R:Rel K C M H n ρ Z){i:Nat}(h:At K M H d v):Rel K C M H n (ρ.set i (.sh d)) (Z.set i (some v)):=by
 have two:∀(j:Nat) (s:Slot),(ρ.set i (.sh d))[j]?=some s->s.owns=true->ρ[j]?=some s/\((Z.set i (some v))[j]?).getD none=(Z[j]?).getD none:=λj s q o=>by
  rcases Ki q with ⟨_,_,rfl⟩ | ⟨hj,q⟩
  ·cases o
  ·exact⟨q,NX hj⟩
 refine⟨by rw [iC,iC]; exact R.len,R.sub,R.dom,R.ext,R.fU,R.uV,R.vM,R.feed,λj s q=>?_,R.pin,λj e a q q2=>?_,λj s a q o q2=>?_,λj k s t a q1 o1 q2 o2 z1 z2=>?_,λp hp=>?_⟩
 ·rcases Ki q with ⟨rfl,hl,rfl⟩ | ⟨hj,q⟩
  ·rw [Ui (by rw [← R.len]; exact hl)]
   exact⟨v,rfl,h⟩
  ·rw [NX hj]
   exact R.sl j s q
 ·rcases Ki q with ⟨_,_,e⟩ | ⟨hj,q⟩
  ·cases e
  ·rw [NX hj] at q2
   exact R.br0 j e a q q2
 ·obtain⟨q1,e⟩:=two j s q o
  rw [e] at q2;exact R.new j s a q1 o q2
 ·obtain⟨p1,e1⟩:=two j s q1 o1
  obtain⟨p2,e2⟩:=two k t q2 o2;rw [e1] at z1;rw [e2] at z2;exact R.two j k s t a p1 o1 p2 o2 z1 z2
 ·obtain⟨h1,h2,h3,h4⟩:=R.kept p hp
  refine⟨h1,h2,h3,λj e q=>?_⟩;obtain⟨q1,e2⟩:=two j _ q rfl;rw [e2];exact h4 j e q1
theorem Rel.owner(R:Rel K C M H n ρ Z){i:Nat}{s:Slot}(h:ρ[i]?=some s)(o:s.owns=true):∃a e,(Z[i]?).getD none=some (.ref a)/\M a/\¬C.V a/\Tops K M H a e/\¬C.M0 a/\C.H0 a=none:=by
 have q:=R.sl i s h;cases s with
 | ow d=>obtain⟨a,e1,h1,h2,h3⟩:=q; exact⟨a,d,e1,h1,h2,h3,R.new i _ a h o e1⟩
 | lt a d=>obtain⟨e1,h1,h2,h3⟩:=q; exact⟨a,d,e1,h1,h2,h3,R.new i _ a h o e1⟩
 | _=>cases o
theorem Rel.setOw(R:Rel K C M H n ρ Z){i:Nat}{a:Ch}(e:Ext C.U H H')(f:FeedC K C.F M H' n')(ha:H a=none)(h:Tops K (λb=>M b\/b=a) H' a d) :
  Rel K C (λb=>M b\/b=a) H' n' (ρ.set i (.ow d)) (Z.set i (some (.ref a))):=by
 have R1:=R.step e f
 have ne:∀b,M b->b≠a:=λb z q=>by
  obtain⟨o,w⟩:=R.dom b z;rw [q,ha] at w; cases w
 have a0:¬C.M0 a/\C.H0 a=none:=⟨λz=>ne a (R.sub a z) rfl,R.ext.free ha⟩;have pr:Pres M H (λb=>M b\/b=a) H':=⟨λb o q nb=>e.keep q λz=>nb (R.vM b (R.uV b z)),λb z=>z.elim .inl λz=>.inr (by rw [z]; exact ha),λb vs q=>e.tup q⟩
 have two:∀(j:Nat) (s:Slot),(ρ.set i (.ow d))[j]?=some s->(j=i/\s=.ow d/\((Z.set i (some (.ref a)))[j]?).getD none=some (.ref a))\/(j≠i/\ρ[j]?=some s/\((Z.set i (some (.ref a)))[j]?).getD none=(Z[j]?).getD none):=λj s q=>by
  rcases Ki q with ⟨rfl,hl,rfl⟩ | ⟨hj,q⟩
  ·exact .inl ⟨rfl,rfl,Ui (by rw [← R.len]; exact hl)⟩
  ·exact .inr ⟨hj,q,NX hj⟩
 have old:∀(j:Nat) (s:Slot) (b:Ch),ρ[j]?=some s->s.owns=true->(Z[j]?).getD none=some (.ref b)->b≠a:=λj s b q o z=>by
  obtain⟨c,_,e1,m,_⟩:=R.owner q o;rw [e1] at z;cases z;exact ne _ m
 have hd:∃o,H' a=some o:=by
  cases d with
  | lst ds=>obtain⟨vs,q,_⟩:=h; exact⟨_,q⟩
  | dic ks ds=>obtain⟨vs,q,_⟩:=h; exact⟨_,q⟩
  | dit ks ds=>obtain⟨vs,q,_⟩:=h; exact⟨_,q⟩
  | _=>exact(show False from h).elim
 refine⟨by rw [iC,iC]; exact R.len,λb z=>.inl (R.sub b z),λb z=>?_,R1.ext,R.fU,R.uV,λb z=>.inl (R.vM b z),f.more a λg hg q=>?_,λj s q=>?_,λq hq=>(R.pin q hq).trans pr,λj e2 b q q2=>?_,λj s b q o q2=>?_,λj k s t b q1 o1 q2 o2 z1 z2=>?_,λp hp=>?_⟩
 ·rcases z with z | z
  ·exact R1.dom b z
  ·rw [z]; exact hd
 ·obtain⟨_,_,_,_,_,h3,_⟩:=R.feed g hg
  have:=h3.2
  rw [q,ha] at this; cases this
 ·rcases two j s q with ⟨rfl,rfl,e1⟩ | ⟨hj,q1,e1⟩
  ·rw [e1]
   exact⟨a,rfl,.inr rfl,λz=>ne a (R.vM a z) rfl,h⟩
  ·rw [e1]
   exact(R.sl j s q1).pres pr (λ_ z=>.inl z) e R.uV
 ·rcases two j _ q with ⟨_,e1,_⟩ | ⟨hj,q1,e1⟩
  ·cases e1
  ·rw [e1] at q2
   exact R.br0 j e2 b q1 q2
 ·rcases two j s q with ⟨_,_,e1⟩ | ⟨hj,q1,e1⟩
  ·rw [e1] at q2
   cases q2;exact a0
  ·rw [e1] at q2
   exact R.new j s b q1 o q2
 ·rcases two j s q1 with ⟨rfl,_,e1⟩ | ⟨hj,p1,e1⟩
  ·rw [e1] at z1
   cases z1
   rcases two k t q2 with ⟨rfl,_,_⟩ | ⟨hk,p2,e2⟩
   ·rfl
   ·rw [e2] at z2
    exact absurd rfl (old k t a p2 o2 z2)
  ·rw [e1] at z1
   rcases two k t q2 with ⟨rfl,_,e2⟩ | ⟨hk,p2,e2⟩
   ·rw [e2] at z2
    cases z2;exact absurd rfl (old j s a p1 o1 z1)
   ·rw [e2] at z2
    exact R.two j k s t b p1 o1 p2 o2 z1 z2
 ·obtain⟨h1,h2,h3,h4⟩:=R1.kept p hp
  refine⟨h1,.inl h2,h3,λj e2 q=>?_⟩
  rcases two j _ q with ⟨_,_,e1⟩ | ⟨hj,q1,e1⟩
  ·rw [e1]
   intro z;cases z;exact ne _ h2 rfl
  ·rw [e1]
   exact h4 j e2 q1
theorem Rel.mut(R:Rel K C M H n ρ Z){i:Nat}{a:Ch}{e:D}{o:HO}(hi:ρ[i]?=some (.ow d))(ha:(Z[i]?).getD none=some (.ref a))(h:Tops K M (BD H a o) a e) :
  Rel K C M (BD H a o) n (ρ.set i (.ow e)) Z:=by
 obtain⟨b,_,e1,m,nv,t,n0,h0⟩:=R.owner hi rfl;rw [ha] at e1;cases e1;have pr:Pres M H M (BD H a o):=⟨λb o' q nb=>by rw [Ag (λz=>nb (by rw [z]; exact m))]; exact q,λ_ z=>.inl z,λb vs q=>by rw [Ag (λz=>t.notT (by rw [← z]; exact q))]; exact q⟩
 have old:∀(j:Nat) (s:Slot),(ρ.set i (.ow e))[j]?=some s->(j=i/\s=.ow e)\/(j≠i/\ρ[j]?=some s):=λj s q=>by
  rcases Ki q with ⟨rfl,hl,rfl⟩ | ⟨hj,q⟩
  ·exact .inl ⟨rfl,rfl⟩
  ·exact .inr ⟨hj,q⟩
 have far:∀(j:Nat) (s:Slot) (b:Ch),j≠i->ρ[j]?=some s->s.owns=true->(Z[j]?).getD none=some (.ref b)->b≠a:=λj s b hj q o z w=>by
  subst w;exact hj (R.two j i s _ b q o hi rfl z ha)
 refine⟨by rw [iC]; exact R.len,R.sub,λb z=>?_,λb o' q=>?_,R.fU,R.uV,R.vM,R.feed.pres pr λf o' hf q=>?_,λj s q=>?_,λq hq=>(R.pin q hq).trans pr,λj e2 b q q2=>?_,λj s b q o2 q2=>?_,λj k s t b q1 o1 q2 o2 z1 z2=>?_,λp hp=>?_⟩
 ·by_cases hb:b=a
  ·exact⟨o,by rw [hb,Al]⟩
  ·obtain⟨o',q⟩:=R.dom b z
   exact⟨o',by rw [Ag hb]; exact q⟩
 ·obtain⟨o2,q2,r⟩:=R.ext b o' q
  have hb:b≠a:=λz=>by rw [z,h0] at q; cases q
  exact⟨o2,by rw [Ag hb]; exact q2,r⟩
 ·have hb:f.1≠a:=λz=>nv (by rw [← z]; exact R.uV _ (R.fU f hf))
  rw [Ag hb]; exact q
 ·rcases old j s q with ⟨rfl,rfl⟩ | ⟨hj,q1⟩
  ·rw [ha]
   exact⟨a,rfl,m,nv,h⟩
  ·have q2:=R.sl j s q1
   cases s with
   | no=>trivial
   | sh d=>obtain⟨v,e1,h1⟩:=q2; exact⟨v,e1,h1.pres pr⟩
   | ex a nm ks ds=>obtain⟨e1,h1⟩:=q2; exact⟨e1,h1.pres pr⟩
   | br d =>
    obtain⟨v,e1,h1⟩:=q2;refine⟨v,e1,h1.same pr (λb o' z q=>?_) λ_ _ z=>z⟩;subst z;obtain⟨o3,w⟩:=R.br0 j d b q1 e1;rw [Ag (λz=>by rw [z,h0] at w; cases w)];exact q
   | fd=>exact q2
   | ow d =>
    obtain⟨b,e1,h1,h2,h3⟩:=q2;exact⟨b,e1,h1,h2,h3.pres pr λo' w=>by rw [Ag (far j _ b hj q1 rfl e1)]; exact w⟩
   | lt b d =>
    obtain⟨e1,h1,h2,h3⟩:=q2;exact⟨e1,h1,h2,h3.pres pr λo' w=>by rw [Ag (far j _ b hj q1 rfl e1)]; exact w⟩
 ·rcases old j _ q with ⟨_,e1⟩ | ⟨hj,q1⟩
  ·cases e1
  ·exact R.br0 j e2 b q1 q2
 ·rcases old j s q with ⟨rfl,_⟩ | ⟨hj,q1⟩
  ·exact R.new j _ b hi rfl q2
  ·exact R.new j s b q1 o2 q2
 ·rcases old j s q1 with ⟨rfl,rfl⟩ | ⟨hj,p1⟩
  ·rcases old k t q2 with ⟨rfl,_⟩ | ⟨hk,p2⟩
   ·rfl
   ·exact R.two j k _ t b hi rfl p2 o2 z1 z2
  ·rcases old k t q2 with ⟨rfl,rfl⟩ | ⟨hk,p2⟩
   ·exact R.two j k s _ b p1 o1 hi rfl z1 z2
   ·exact R.two j k s t b p1 o1 p2 o2 z1 z2
 ·obtain⟨h1,h2,h3,h4⟩:=R.kept p hp
  have hb:p.1≠a:=λz=>h4 i d hi (by rw [ha,z]);refine⟨by rw [Ag hb]; exact h1,h2,h3,λj e2 q=>?_⟩
  rcases old j _ q with ⟨rfl,_⟩ | ⟨hj,q1⟩
  ·exact h4 j d hi
  ·exact h4 j e2 q1
end
noncomputable abbrev DW:=Nat->List Slot->(D->Nat->Prop)->Prop
noncomputable abbrev Jh:=Nat->List Slot->(Bool->Nat->Prop)->Prop
noncomputable abbrev GQ:=Nat->List Slot->(List D->Nat->Prop)->Prop
noncomputable abbrev YK:=Nat->List Slot->(List Slot->Nat->Prop)->Prop
section
variable (X:Cx)
noncomputable def DE(e:d6)(κ:Kd)(w:DW):Prop:=∃t,PE X e t/\∀(C:Fm) (M:Ch->Prop) (H:Hp) (n:Nat) (ρ:List Slot) (Z:L2.St) (P:D->Nat->Prop) (Q:VK),Rel X.K C M H n ρ Z->w n ρ P ->
 (∀v H' d n',Ext C.U H H'->FeedC X.K C.F M H' n'->VR X.K C.V M H H' κ v d->P d n'->Q v H')->t Z H Q
noncomputable def DT(e:d6)(w:Jh):Prop:=∃t,PT X e t/\∀(C:Fm) (M:Ch->Prop) (H:Hp) (n:Nat) (ρ:List Slot) (Z:L2.St) (P:Bool->Nat->Prop) (Q:Bool->Hp->Prop),Rel X.K C M H n ρ Z->w n ρ P ->
 (∀b H' n',Ext C.U H H'->FeedC X.K C.F M H' n'->P b n'->Q b H')->t Z H Q
noncomputable def DTW(e:d6)(w:Jh):Prop:=∃t,PW X e t/\∀(C:Fm) (M:Ch->Prop) (H:Hp) (n:Nat) (ρ:List Slot) (Z:L2.St) (P:Bool->Nat->Prop) (Q:Bool->Hp->Prop),Rel X.K C M H n ρ Z->w n ρ P ->
 (∀b H' n',Ext C.U H H'->FeedC X.K C.F M H' n'->P b n'->Q b H')->t Z H Q
noncomputable def YL(es:List d6)(w:GQ):Prop:=∃t,PA X es t/\∀(C:Fm) (M:Ch->Prop) (H:Hp) (n:Nat) (ρ:List Slot) (Z:L2.St) (P:List D->Nat->Prop) (Q:List V->Hp->Prop),Rel X.K C M H n ρ Z->w n ρ P ->
 (∀vs H' ds n',Ext C.U H H'->FeedC X.K C.F M H' n'->Paired (λv d=>AtT X.K C.V M H' d v) vs ds->P ds n'->Q vs H')->t Z H Q
noncomputable def Zu(es:List d6)(w:GQ):Prop:=∃t,PA X es t/\∀(C:Fm) (M:Ch->Prop) (H:Hp) (n:Nat) (ρ:List Slot) (Z:L2.St) (P:List D->Nat->Prop) (Q:List V->Hp->Prop),Rel X.K C M H n ρ Z->w n ρ P ->
 (∀vs H' ds n',Ext C.U H H'->FeedC X.K C.F M H' n'->Ats X.K M H' ds vs->P ds n'->Q vs H')->t Z H Q
noncomputable def NP(K:Frag)(F:Option (Ch×Ch))(V' M:Ch->Prop)(H:Hp)(v:V)(s:Slot):Prop:=SlotOk K F V' M H s (some v)/\s.owns=false
noncomputable def bg(e:d6)(w:Nat->List Slot->(Slot->Nat->Prop)->Prop):Prop:=∃t,PE X e t/\∀(C:Fm) (M:Ch->Prop) (H:Hp) (n:Nat) (ρ:List Slot) (Z:L2.St) (P:Slot->Nat->Prop) (Q:VK),Rel X.K C M H n ρ Z->w n ρ P ->
 (∀v H' s n',Ext C.U H H'->FeedC X.K C.F M H' n'->NP X.K C.F C.V M H' v s->P s n'->Q v H')->t Z H Q
noncomputable def Z1(es:List d6)(w:YK):Prop:=∃t,PA X es t/\∀(C:Fm) (M:Ch->Prop) (H:Hp) (n:Nat) (ρ:List Slot) (Z:L2.St) (P:List Slot->Nat->Prop) (Q:List V->Hp->Prop),Rel X.K C M H n ρ Z->w n ρ P ->
 (∀vs H' ss n',Ext C.U H H'->FeedC X.K C.F M H' n'->Paired (NP X.K C.F C.V M H') vs ss->P ss n'->Q vs H')->t Z H Q
end
noncomputable def AB(i:Nat):DW:=λn ρ P=>match ρ[i]? with
 | some (.sh d)=>P d n
 | _=>False
noncomputable def A7(i:Nat):DW:=λn ρ P=>match ρ[i]? with
 | some (.sh d)=>P d n
 | some (.br d)=>P d n
 | some (.ow d)=>P d n
 | some (.lt _ d)=>P d n
 | _=>False
noncomputable def wC(d:D):DW:=λn _ P=>P d n
section
variable {X:Cx}{a b c e:Expr}{κ zU zP:Kd}{wa wb wc:DW}{pos:Pos}
theorem getD_some{Z:L2.St}{i:Nat}{v:V}(h:(Z[i]?).getD none=some v):Z[i]?=some (some v):=by
 cases q:Z[i]? with
 | none=>simp_all
 | some o=>simp_all
theorem Xb{i:Nat}(h:PE X e (B3 i)):DE X e .sh (AB i):=by
 refine⟨_,h,λC M H n ρ Z P Q R w q=>?_⟩;unfold AB at w
 split at w
 ·rename_i d hd
  obtain⟨v,e1,h1⟩:=R.sl i _ hd;exact⟨v,getD_some e1,q v H d n (Ext.refl _ _) R.feed h1 w⟩
 grind
theorem V4{i:Nat}(h:PE X e (B3 i)):DE X e .tp (A7 i):=by
 refine⟨_,h,λC M H n ρ Z P Q R w q=>?_⟩;unfold A7 at w
 split at w
 ·rename_i d hd
  obtain⟨v,e1,h1⟩:=R.sl i _ hd;exact⟨v,getD_some e1,q v H d n (Ext.refl _ _) R.feed (At.tp R.vM h1) w⟩
 ·rename_i d hd
  obtain⟨v,e1,h1⟩:=R.sl i _ hd;exact⟨v,getD_some e1,q v H d n (Ext.refl _ _) R.feed h1 w⟩
 ·rename_i d hd
  obtain⟨a,e1,_,h2,h3⟩:=R.sl i _ hd;exact⟨.ref a,getD_some e1,q _ H d n (Ext.refl _ _) R.feed (h3.att h2) w⟩
 ·rename_i a d hd
  obtain⟨e1,_,h2,h3⟩:=R.sl i _ hd;exact⟨.ref a,getD_some e1,q _ H d n (Ext.refl _ _) R.feed (h3.att h2) w⟩
 ·exact w.elim
theorem dv(i:Nat){x:Str}{pos:Pos}(hN:autoParam (X.N[i]?=some x) zau3._auto_1)(hv:autoParam (Zk X.env.scope x) zau5._auto_1)(hd:autoParam ((x==("__debug__":Str))=false) zau1._auto_1)
  (hcd:autoParam ((x==("__classdict__":Str))=false) zau1._auto_1):DE X (.Name x pos) .sh (AB i):=Xb (Nw hN hv hd hcd)
theorem J8(i:Nat){x:Str}{pos:Pos}(hN:autoParam (X.N[i]?=some x) zau3._auto_1)(hv:autoParam (Zk X.env.scope x) zau5._auto_1)(hd:autoParam ((x==("__debug__":Str))=false) zau1._auto_1)
  (hcd:autoParam ((x==("__classdict__":Str))=false) zau1._auto_1):DE X (.Name x pos) .tp (A7 i):=V4 (Nw hN hv hd hcd)
theorem Hg{d:D}{v:V}(h:PE X e (tC v))(hd:∀M H,At X.K M H d v):DE X e .sh (wC d) :=
 ⟨_,h,λC M H n ρ Z P Q R w q=>q v H d n (Ext.refl _ _) R.feed (hd M H) w⟩
theorem AG{i:Int}{j pos}:DE X (.Constant (.int i) j pos) .sh (wC (.int i)):=Hg A9 λ_ _=>rfl
theorem Bg{b:Bool}{j pos}:DE X (.Constant (.bool b) j pos) .sh (wC (.bl b)):=Hg aZ λ_ _=>rfl
theorem BG{j pos}:DE X (.Constant .none j pos) .sh (wC .non):=Hg Y2 λ_ _=>rfl
theorem A6{x:Str}{j pos}(hx:autoParam (decide (x.length<=1000)=true) zau3._auto_1):DE X (.Constant (.str x) j pos) .sh (wC (.str x)) :=
 Hg Yz λ_ _=>⟨rfl,dn (of_decide_eq_true hx) (by decide)⟩
theorem DE.sh(h:DE X e κ wa)(hk:autoParam (κ≠.tp) zau6._auto_1):DE X e .sh wa:=by
 obtain⟨t,h1,h2⟩:=h;exact⟨t,h1,λC M H n ρ Z P Q R w q=>h2 C M H n ρ Z P Q R w λv H' d n' e f r p=>q v H' d n' e f (r.shOf R.dom hk) p⟩
noncomputable def FC(K:Frag)(κ:Kd)(r:R2)(f:D->D->(D->Prop)->Prop):Prop:=∀(U:Ch->Prop) (M:Ch->Prop) (H:Hp) (d e:D) (x y:V) (P:D->Prop) (Q:VK),(∀a,M a->∃o,H a=some o)->(∀a,U a->M a) ->
 AtT K U M H d x->AtT K U M H e y->f d e P->(∀v H' z,Grow H H'->VR K U M H H' κ v z->P z->Q v H')->r x y H Q
noncomputable def Aa(f:D->D->(D->Prop)->Prop)(wa wb:DW):DW:=λn ρ P=>wa n ρ λx n1=>wb n1 ρ λy n2=>f x y λz=>P z n2
theorem E6{r:R2}{f:D->D->(D->Prop)->Prop}(hA:FC X.K κ r f){ta tb:TE}(ha:∀(C:Fm) (M:Ch->Prop) (H:Hp) (n:Nat) (ρ:List Slot) (Z:L2.St) (P:D->Nat->Prop) (Q:VK),Rel X.K C M H n ρ Z->wa n ρ P ->
   (∀v H' d n',Ext C.U H H'->FeedC X.K C.F M H' n'->VR X.K C.V M H H' zU v d->P d n'->Q v H')->ta Z H Q)
  (hb:∀(C:Fm) (M:Ch->Prop) (H:Hp) (n:Nat) (ρ:List Slot) (Z:L2.St) (P:D->Nat->Prop) (Q:VK),Rel X.K C M H n ρ Z->wb n ρ P ->
   (∀v H' d n',Ext C.U H H'->FeedC X.K C.F M H' n'->VR X.K C.V M H H' zP v d->P d n'->Q v H')->tb Z H Q)
  (C:Fm) (M:Ch->Prop) (H:Hp) (n:Nat) (ρ:List Slot) (Z:L2.St) (P:D->Nat->Prop) (Q:VK) (R:Rel X.K C M H n ρ Z) (w:Aa f wa wb n ρ P)
  (q:∀v H' d n',Ext C.U H H'->FeedC X.K C.F M H' n'->VR X.K C.V M H H' κ v d->P d n'->Q v H'):EH r ta tb Z H Q:=by
 refine ha C M H n ρ Z _ _ R w λx H1 d n1 e1 f1 r1 w1=>?_;have R1:=R.step e1 f1;refine hb C M H1 n1 ρ Z _ _ R1 w1 λy H2 e n2 e2 f2 r2 w2=>?_;have R2':=R1.step e2 f2;exact hA _ M H2 d e x y _ _ R2'.dom R2'.vM ((r1.tpOf R.dom R.vM).pres (R1.pres e2) e2 R.uV) (r2.tpOf R1.dom R1.vM) w2 λv H3 z g vr p=>q v H3 z n2 ((e1.trans e2).trans g.ext) (f2.grow g) (VR.back (e1.trans e2) vr) p
theorem BU{op:Operator}{r:R2}{f:D->D->(D->Prop)->Prop}(ho:OpR X (binaryOp op) r)(hA:FC X.K κ r f)(ha:DE X a zU wa)(hb:DE X b zP wb):DE X (.BinOp a op b pos) κ (Aa f wa wb):=by
 obtain⟨ta,ha1,ha2⟩:=ha;obtain⟨tb,hb1,hb2⟩:=hb;exact⟨_,B4 ho ha1 hb1,λC M H n ρ Z P Q R w q=>E6 hA ha2 hb2 C M H n ρ Z P Q R w q⟩
theorem AQ{r:R2}{f:D->D->(D->Prop)->Prop}(ho:IxR X r)(hA:FC X.K κ r f)(ha:DE X a zU wa)(hb:DE X b zP wb)(hs:autoParam (Ss b) zau7._auto_1):DE X (.Subscript a b pos) κ (Aa f wa wb):=by
 obtain⟨ta,ha1,ha2⟩:=ha;obtain⟨tb,hb1,hb2⟩:=hb;exact⟨_,FE ho ha1 hb1 hs,λC M H n ρ Z P Q R w q=>E6 hA ha2 hb2 C M H n ρ Z P Q R w q⟩
theorem BY{op:CmpOp}{r:R2}{f:D->D->(D->Prop)->Prop}(ho:OpR X (compareOp op) r)(hA:FC X.K .sh r f)(ha:DE X a zU wa)(hb:DE X b zP wb)(hm:behindInMarks op b=false):DE X (.Compare a [op] [b] pos) .sh (Aa f wa wb):=by
 obtain⟨ta,ha1,ha2⟩:=ha;obtain⟨tb,hb1,hb2⟩:=hb;exact⟨_,W0 ho ha1 hb1 hm,λC M H n ρ Z P Q R w q=>E6 hA ha2 hb2 C M H n ρ Z P Q R w q⟩
noncomputable def AS(w:DW):Jh:=λn ρ P=>w n ρ λd n1=>match d with
 | .bl b=>P b n1
 | _=>False
theorem Jz{U:Ch->Prop}{K:Frag}{M:Ch->Prop}{H H':Hp}{v:V}{b:Bool}(h:VR K U M H H' κ v (.bl b)):v=.bl b:=by
 cases κ with
 | sh=>exact h
 | tp=>exact h
 | fr=>obtain⟨a,_,_,t⟩:=h; exact(t).elim
theorem An{op:CmpOp}{r:R2}{f:D->D->(D->Prop)->Prop}(ho:OpR X (compareOp op) r)(hA:FC X.K .sh r f)(ha:DE X a zU wa)(hb:DE X b zP wb)(hm:behindInMarks op b=false):DT X (.Compare a [op] [b] pos) (AS (Aa f wa wb)):=by
 obtain⟨ta,ha1,ha2⟩:=ha;obtain⟨tb,hb1,hb2⟩:=hb;refine⟨_,HJ ho ha1 hb1 hm,λC M H n ρ Z P Q R w q=>?_⟩;refine E6 hA ha2 hb2 C M H n ρ Z _ _ R w λv H' d n' e f r p=>?_;cases d with
 | bl b=>exact⟨b,Jz r,q b H' n' e f p⟩
 | _=>exact p.elim
theorem Au(h:DE X e κ wa)(he:autoParam (∀whole,isTrue e X.env whole=(do let v ← whole; standAt e.pos; holding [v] (truthy v))) zau2._auto_1):DT X e (AS wa):=by
 obtain⟨t,h1,h2⟩:=h;refine⟨_,Ys h1 he,λC M H n ρ Z P Q R w q=>?_⟩;refine h2 C M H n ρ Z _ _ R w λv H' d n' e f r p=>?_;cases d with
 | bl b=>exact⟨b,Jz r,q b H' n' e f p⟩
 | _=>exact p.elim
noncomputable def NS(f g:D->D->(D->Prop)->Prop)(wa wb wc:DW):DW:=λn ρ P=>wa n ρ λx n1=>wb n1 ρ λy n2=>f x y λz=>match z with
 | .bl true=>wc n2 ρ λu n3=>g y u λr=>P r n3
 | .bl false=>P (.bl false) n2
 | _=>False
theorem V_{r r':R2}{f g:D->D->(D->Prop)->Prop}(hA:FC X.K .sh r f)(hB:FC X.K .sh r' g){ta tb tc:TE}{zH:Kd}(ha:∀(C:Fm) (M:Ch->Prop) (H:Hp) (n:Nat) (ρ:List Slot) (Z:L2.St) (P:D->Nat->Prop) (Q:VK),Rel X.K C M H n ρ Z->wa n ρ P ->
   (∀v H' d n',Ext C.U H H'->FeedC X.K C.F M H' n'->VR X.K C.V M H H' zU v d->P d n'->Q v H')->ta Z H Q)
  (hb:∀(C:Fm) (M:Ch->Prop) (H:Hp) (n:Nat) (ρ:List Slot) (Z:L2.St) (P:D->Nat->Prop) (Q:VK),Rel X.K C M H n ρ Z->wb n ρ P ->
   (∀v H' d n',Ext C.U H H'->FeedC X.K C.F M H' n'->VR X.K C.V M H H' zP v d->P d n'->Q v H')->tb Z H Q)
  (hc:∀(C:Fm) (M:Ch->Prop) (H:Hp) (n:Nat) (ρ:List Slot) (Z:L2.St) (P:D->Nat->Prop) (Q:VK),Rel X.K C M H n ρ Z->wc n ρ P ->
   (∀v H' d n',Ext C.U H H'->FeedC X.K C.F M H' n'->VR X.K C.V M H H' zH v d->P d n'->Q v H')->tc Z H Q)
  (C:Fm) (M:Ch->Prop) (H:Hp) (n:Nat) (ρ:List Slot) (Z:L2.St) (P:D->Nat->Prop) (Q:VK) (R:Rel X.K C M H n ρ Z) (w:NS f g wa wb wc n ρ P)
  (q:∀v H' d n',Ext C.U H H'->FeedC X.K C.F M H' n'->VR X.K C.V M H H' .sh v d->P d n'->Q v H'):Ua r r' ta tb tc Z H Q:=by
 refine ha C M H n ρ Z _ _ R w λx H1 d n1 e1 f1 r1 w1=>?_;have R1:=R.step e1 f1;refine hb C M H1 n1 ρ Z _ _ R1 w1 λy H2 e n2 e2 f2 r2 w2=>?_;have R2':=R1.step e2 f2;have ty:AtT X.K C.V M H2 e y:=r2.tpOf R1.dom R1.vM;refine hA C.V M H2 d e x y _ _ R2'.dom R2'.vM ((r1.tpOf R.dom R.vM).pres (R1.pres e2) e2 R.uV) ty w2 λv H3 z gr vr p=>?_;have R3:=R2'.step gr.ext (f2.grow gr);cases z with
 | bl k =>
  refine⟨k,vr,?_⟩;cases k with
  | false=>exact q _ H3 (.bl false) n2 ((e1.trans e2).trans gr.ext) (f2.grow gr) (show VR X.K C.V M H H3 .sh (.bl false) (.bl false) from rfl) p
  | true =>
   show tc Z H3 _;refine hc C M H3 n2 ρ Z _ _ R3 p λu H4 d4 n4 e4 f4 r4 w4=>?_;have R4:=R3.step e4 f4;refine hB C.V M H4 e d4 y u _ _ R4.dom R4.vM ((ty.pres gr.pres (gr.ext (U:=C.U)) R.uV).pres (R3.pres e4) e4 R.uV) (r4.tpOf R3.dom R3.vM) w4 λv5 H5 z5 g5 vr5 p5=>?_;exact q v5 H5 z5 n4 ((((e1.trans e2).trans gr.ext).trans e4).trans g5.ext) (f4.grow g5) vr5 p5
 | _=>exact p.elim
theorem Px{op op':CmpOp}{r r':R2}{f g:D->D->(D->Prop)->Prop}{zH:Kd}(ho:OpR X (compareOp op) r)(hA:FC X.K .sh r f)(ho':OpR X (compareOp op') r')(hB:FC X.K .sh r' g)(ha:DE X a zU wa)(hb:DE X b zP wb)(hc:DE X c zH wc)
  (hm:autoParam (lastMarks [op,op'] [b,c]=false) zau4._auto_1):DT X (.Compare a [op,op'] [b,c] pos) (AS (NS f g wa wb wc)):=by
 obtain⟨ta,ha1,ha2⟩:=ha;obtain⟨tb,hb1,hb2⟩:=hb;obtain⟨tc,hc1,hc2⟩:=hc;refine⟨_,U8 ho ho' ha1 hb1 hc1 hm,λC M H n ρ Z P Q R w q=>?_⟩;refine V_ hA hB ha2 hb2 hc2 C M H n ρ Z _ _ R w λv H' d n' e f r p=>?_;cases d with
 | bl b=>exact⟨b,r,q b H' n' e f p⟩
 | _=>exact p.elim
noncomputable def Rf(u v:Jh):Jh:=λn ρ P=>u n ρ λc n1=>if c=true then v n1 ρ P else P false n1
noncomputable def Bh(u v:Jh):Jh:=λn ρ P=>u n ρ λc n1=>if c=true then P true n1 else v n1 ρ P
noncomputable def A5(u:Jh):Jh:=λn ρ P=>u n ρ λc n1=>P (!c) n1
variable {wA wB:Jh}{rest:List Expr}
theorem SQ(h:DT X a wA):DTW X (.BoolOp .And [a] pos) wA:=by
 obtain⟨t,h1,h2⟩:=h;exact⟨t,Rp h1,h2⟩
theorem BQ(h:DT X a wA):DTW X (.BoolOp .Or [a] pos) wA:=by
 obtain⟨t,h1,h2⟩:=h;exact⟨t,Yr h1,h2⟩
theorem Vw(ha:DT X a wA)(hb:DTW X (.BoolOp .And (b::rest) pos) wB):DTW X (.BoolOp .And (a::b::rest) pos) (Rf wA wB):=by
 obtain⟨t,h1,h2⟩:=ha;obtain⟨u,g1,g2⟩:=hb;refine⟨_,U5 h1 g1,λC M H n ρ Z P Q R w q=>?_⟩;refine h2 C M H n ρ Z _ _ R w λc H1 n1 e1 f1 p=>?_;cases c with
 | false=>exact q _ H1 n1 e1 f1 p
 | true=>exact g2 C M H1 n1 ρ Z P Q (R.step e1 f1) p λb H2 n2 e2 f2 p2=>q b H2 n2 (e1.trans e2) f2 p2
theorem BK(ha:DT X a wA)(hb:DTW X (.BoolOp .Or (b::rest) pos) wB):DTW X (.BoolOp .Or (a::b::rest) pos) (Bh wA wB):=by
 obtain⟨t,h1,h2⟩:=ha;obtain⟨u,g1,g2⟩:=hb;refine⟨_,aX h1 g1,λC M H n ρ Z P Q R w q=>?_⟩;refine h2 C M H n ρ Z _ _ R w λc H1 n1 e1 f1 p=>?_;cases c with
 | true=>exact q _ H1 n1 e1 f1 p
 | false=>exact g2 C M H1 n1 ρ Z P Q (R.step e1 f1) p λb H2 n2 e2 f2 p2=>q b H2 n2 (e1.trans e2) f2 p2
theorem DTW.dt(h:DTW X e wA):DT X e wA:=by
 obtain⟨t,h1,h2⟩:=h;exact⟨t,h1.pt,h2⟩
theorem Ax(ha:DT X a wA):DT X (.UnaryOp .Not a pos) (A5 wA):=by
 obtain⟨t,h1,h2⟩:=ha;exact⟨_,Yt h1,λC M H n ρ Z P Q R w q=>h2 C M H n ρ Z _ _ R w λc H1 n1 e1 f1 p=>q _ H1 n1 e1 f1 p⟩
noncomputable def EI(u v:DW):DW:=λn ρ P=>u n ρ λc n1=>match c with
 | .bl true=>v n1 ρ P
 | .bl false=>P (.bl false) n1
 | _=>False
noncomputable def WZ(u:DW):DW:=λn ρ P=>u n ρ λc n1=>match c with
 | .bl b=>P (.bl (!b)) n1
 | _=>False
theorem CG{op}(h:DE X a κ wa):DE X (.BoolOp op [a] pos) κ wa:=by
 assumption
theorem Br(ha:DE X a zU wa)(hb:DE X (.BoolOp .And (b::rest) pos) .sh wb):DE X (.BoolOp .And (a::b::rest) pos) .sh (EI wa wb):=by
 obtain⟨t,h1,h2⟩:=ha;obtain⟨u,g1,g2⟩:=hb;refine⟨_,Y4 h1 g1,λC M H n ρ Z P Q R w q=>?_⟩;refine h2 C M H n ρ Z _ _ R w λc H1 d n1 e1 f1 r1 p=>?_;cases d with
 | bl k =>
  refine⟨k,Jz r1,?_⟩;cases k with
  | false=>exact q _ H1 _ n1 e1 f1 (show VR _ _ M H H1 _ _ (.bl _) from rfl) p
  | true =>
   exact g2 C M H1 n1 ρ Z P Q (R.step e1 f1) p λv H2 d n2 e2 f2 r2 p2=>q v H2 d n2 (e1.trans e2) f2 r2 p2
 | _=>exact p.elim
theorem OQ(ha:DE X a zU wa):DE X (.UnaryOp .Not a pos) .sh (WZ wa):=by
 obtain⟨t,h1,h2⟩:=ha;refine⟨_,Y1 h1,λC M H n ρ Z P Q R w q=>?_⟩;refine h2 C M H n ρ Z _ _ R w λc H1 d n1 e1 f1 r1 p=>?_;cases d with
 | bl k=>exact⟨k,Jz r1,q _ H1 _ n1 e1 f1 (show VR _ _ M H H1 _ _ (.bl _) from rfl) p⟩
 | _=>exact p.elim
noncomputable def bh(t:Jh)(u v:DW):DW:=λn ρ P=>t n ρ λc n1=>if c=true then u n1 ρ P else v n1 ρ P
theorem YE(hc:DT X c wA)(ha:DE X a κ wa)(hb:DE X b κ wb):DE X (.IfExp c a b pos) κ (bh wA wa wb):=by
 obtain⟨t,h1,h2⟩:=hc;obtain⟨u,g1,g2⟩:=ha;obtain⟨u',k1,k2⟩:=hb;refine⟨_,PB h1 g1 k1,λC M H n ρ Z P Q R w q=>?_⟩;refine h2 C M H n ρ Z _ _ R w λc H1 n1 e1 f1 p=>?_;cases c with
 | true=>exact g2 C M H1 n1 ρ Z P Q (R.step e1 f1) p λv H2 d n2 e2 f2 r2 p2=>q v H2 d n2 (e1.trans e2) f2 (VR.back e1 r2) p2
 | false=>exact k2 C M H1 n1 ρ Z P Q (R.step e1 f1) p λv H2 d n2 e2 f2 r2 p2=>q v H2 d n2 (e1.trans e2) f2 (VR.back e1 r2) p2
noncomputable def AY:GQ:=λn _ P=>P [] n
noncomputable def AE(w:DW)(ws:GQ):GQ:=λn ρ P=>w n ρ λd n1=>ws n1 ρ λds n2=>P (d::ds) n2
variable {es:List Expr}{ws:GQ}
theorem AW:YL X [] AY:=⟨_,CW,λC M H n ρ Z P Q R w q=>q [] H [] n (Ext.refl _ _) R.feed .nil w⟩
theorem Ac:Zu X [] AY:=⟨_,CW,λC M H n ρ Z P Q R w q=>q [] H [] n (Ext.refl _ _) R.feed rfl w⟩
theorem AN(ha:DE X e κ wa)(hr:YL X es ws)(hs:autoParam (starEach (e::es) X.env=(false,eval e X.env)::starEach es X.env) zau3._auto_1):YL X (e::es) (AE wa ws):=by
 obtain⟨t,h1,h2⟩:=ha;obtain⟨u,g1,g2⟩:=hr;refine⟨_,Bl h1 g1 hs,λC M H n ρ Z P Q R w q=>?_⟩;refine h2 C M H n ρ Z _ _ R w λv H1 d n1 e1 f1 r1 p=>?_;have R1:=R.step e1 f1;exact g2 C M H1 n1 ρ Z _ _ R1 p λvs H2 ds n2 e2 f2 r2 p2=>q _ H2 _ n2 (e1.trans e2) f2 (.cons ((r1.tpOf R.dom R.vM).pres (R1.pres e2) e2 R.uV) r2) p2
theorem AF(ha:DE X e κ wa)(hr:Zu X es ws)(hk:autoParam (κ≠.tp) zau6._auto_1)(hs:autoParam (starEach (e::es) X.env=(false,eval e X.env)::starEach es X.env) zau3._auto_1):Zu X (e::es) (AE wa ws):=by
 obtain⟨t,h1,h2⟩:=ha;obtain⟨u,g1,g2⟩:=hr;refine⟨_,Bl h1 g1 hs,λC M H n ρ Z P Q R w q=>?_⟩;refine h2 C M H n ρ Z _ _ R w λv H1 d n1 e1 f1 r1 p=>?_;have R1:=R.step e1 f1;exact g2 C M H1 n1 ρ Z _ _ R1 p λvs H2 ds n2 e2 f2 r2 p2=>q _ H2 (d::ds) n2 (e1.trans e2) f2 ⟨v,vs,rfl,(r1.shOf R.dom hk).pres (R1.pres e2),r2⟩ p2
noncomputable def BE(ws:GQ):DW:=λn ρ P=>ws n ρ λds n1=>ds.length<=sizeLine/\P (.tup ds) n1
noncomputable def DL(ws:GQ):DW:=λn ρ P=>ws n ρ λds n1=>ds.length<=sizeLine/\P (.lst ds) n1
theorem G8{M:Ch->Prop}{H:Hp}{p:Ch}{o:HO}(h:H p=none):Pres M H (λb=>M b\/b=p) (BD H p o):=⟨λb u e _=>by rw [Ag (A3 e h)]; exact e,λb z=>z.elim .inl λz=>.inr (by grind),λb vs e=>by rw [Ag (A3 e h)]; exact e⟩
theorem Av{H:Hp}{p:Ch}{o:HO}(h:H p=none):Grow H (BD H p o):=.inr ⟨p,o,h,rfl⟩
theorem Ay{x1}(h:Zu X es ws):DE X (.Tuple es x1 pos) .sh (BE ws):=by
 obtain⟨t,h1,h2⟩:=h;refine⟨_,Yx h1,λC M H n ρ Z P Q R w q=>?_⟩;refine h2 C M H n ρ Z _ _ R w λvs H1 ds n1 e1 f1 r1 p=>?_;refine⟨by rw [r1.length]; exact p.1,λa ha=>?_⟩;have g:Grow H1 (BD H1 a (.tup vs)):=Av ha;refine q _ _ (.tup ds) n1 (e1.trans g.ext) (f1.grow g) ⟨a,vs,rfl,Al,r1.pres g.pres⟩ p.2
theorem B6(h:Zu X es ws):DE X (.List es pos) .fr (DL ws):=by
 obtain⟨t,h1,h2⟩:=h;refine⟨_,Qu h1,λC M H n ρ Z P Q R w q=>?_⟩;refine h2 C M H n ρ Z _ _ R w λvs H1 ds n1 e1 f1 r1 p=>?_;refine⟨by rw [r1.length]; exact p.1,λa ha=>?_⟩;have g:Grow H1 (BD H1 a (.lst vs)):=Av ha;exact q _ _ (.lst ds) n1 (e1.trans g.ext) (f1.grow g) (VR.back e1 ⟨a,rfl,ha,vs,Al,r1.pres (G8 ha)⟩) p.2
noncomputable def Dy(K:Frag)(κ:Kd)(r:List V->Hp->VK->Prop)(f:List D->(D->Prop)->Prop):Prop:=∀(U:Ch->Prop) (M:Ch->Prop) (H:Hp) (ds:List D) (vs:List V) (P:D->Prop) (Q:VK),(∀a,M a->∃o,H a=some o)->(∀a,U a->M a) ->
 Paired (λv d=>AtT K U M H d v) vs ds->f ds P->(∀v H' z,Grow H H'->VR K U M H H' κ v z->P z->Q v H')->r vs H Q
noncomputable def Bs(f:List D->(D->Prop)->Prop)(ws:GQ):DW:=λn ρ P=>ws n ρ λds n1=>f ds λz=>P z n1
theorem YF{r:List V->Hp->VK->Prop}{f:List D->(D->Prop)->Prop}{t:TA}(hA:Dy X.K κ r f)(h2:∀(C:Fm) (M:Ch->Prop) (H:Hp) (n:Nat) (ρ:List Slot) (Z:L2.St) (P:List D->Nat->Prop) (Q:List V->Hp->Prop),Rel X.K C M H n ρ Z->ws n ρ P ->
   (∀vs H' ds n',Ext C.U H H'->FeedC X.K C.F M H' n'->Paired (λv d=>AtT X.K C.V M H' d v) vs ds->P ds n'->Q vs H')->t Z H Q)
  (C:Fm) (M:Ch->Prop) (H:Hp) (n:Nat) (ρ:List Slot) (Z:L2.St) (P:D->Nat->Prop) (Q:VK) (R:Rel X.K C M H n ρ Z) (w:Bs f ws n ρ P)
  (q:∀v H' d n',Ext C.U H H'->FeedC X.K C.F M H' n'->VR X.K C.V M H H' κ v d->P d n'->Q v H'):bS r t Z H Q:=by
 refine h2 C M H n ρ Z _ _ R w λvs H1 ds n1 e1 f1 r1 p=>?_;have R1:=R.step e1 f1;exact hA _ M H1 ds vs _ _ R1.dom R1.vM r1 p λv H2 z g vr pz=>q v H2 z n1 (e1.trans g.ext) (f1.grow g) (VR.back e1 vr) pz
theorem Ab{x:Str}{id:String}{p:Pos}{r:List V->Hp->VK->Prop}{f:List D->(D->Prop)->Prop}(hc:DC X (.builtin id) r)(hA:Dy X.K κ r f)(hg:Gl X x)(hm:X.mg x=none)(hv:bootBuiltins x=some (.builtin id))(ha:YL X (e::es) ws)
  (hn:autoParam (x ≠ "__name__") zau1._auto_1) (hdb:autoParam ((x==("__debug__":Str))=false) zau1._auto_1)
  (he:autoParam (starEach (e::es) X.env=(false,eval e X.env)::starEach es X.env) zau3._auto_1) (hpl:autoParam ((backTo pos (starEach es X.env)).any (·.1)=false) zau3._auto_1):DE X (.Call (.Name x p) (e::es) [] pos) κ (Bs f ws):=by
 obtain⟨t,h1,h2⟩:=ha;exact⟨_,HN hc hg hm hv h1 hn hdb he hpl,λC M H n ρ Z P Q R w q=>YF hA h2 C M H n ρ Z P Q R w q⟩
theorem Bq{x:Str}{T:String}{p:Pos}{r:List V->Hp->VK->Prop}{f:List D->(D->Prop)->Prop}(hc:DC X (.type T) r)(hA:Dy X.K κ r f)(hg:Gl X x)(hm:X.mg x=none)(hv:bootBuiltins x=some (.type T))(ha:YL X (e::es) ws)
  (hn:autoParam (x ≠ "__name__") zau1._auto_1) (hdb:autoParam ((x==("__debug__":Str))=false) zau1._auto_1)
  (he:autoParam (starEach (e::es) X.env=(false,eval e X.env)::starEach es X.env) zau3._auto_1) (hpl:autoParam ((backTo pos (starEach es X.env)).any (·.1)=false) zau3._auto_1):DE X (.Call (.Name x p) (e::es) [] pos) κ (Bs f ws):=by
 obtain⟨t,h1,h2⟩:=ha;exact⟨_,Mj hc hg hm hv h1 hn hdb he hpl,λC M H n ρ Z P Q R w q=>YF hA h2 C M H n ρ Z P Q R w q⟩
end
end Dp
namespace L2
noncomputable def cZ(z:Str):It:=⟨λi _=>i<z.cps.size,λi H x H'=>H'=H/\∃c,z.cps[i]?=some c/\x=.str ⟨#[c]⟩,λi _=>z.cps.size<=i⟩
theorem Om{P:eB}{w:eG}{K:Frag}{tg:d6}(it:Ch)(z:Str)(t:Tok)(ty:String)(hty:ty = "str_ascii_iterator"\/ty = "str_iterator")
  (W:∀A':eX,A'.handled=none->Walks P w A' it [it] [it] z.cps.size (SignAt z) (λi h=>h.IsStrIter it ty z t i)):Turn P w K tg (cZ z) [it] it (λi h=>h.IsStrIter it ty z t i) where
 mem:=by simp
 obj:=λi h st b hb=>by
  have e:b=it:=by simpa using hb
  subst e;obtain⟨o,e,c,d⟩:=st;exact⟨o,e,λv z=>by rw [d] at z; cases z⟩
 keep:=λi h h' st k=>let ⟨o,ho,r⟩:=st; ⟨o,k it (by simp) o ho,r⟩
 item:=by
  intro X hP hw hK hc i zG s Z H E I hf st hg;subst hP hw hK;obtain⟨f0,f1,f2,f3,f4,f5⟩:=hf it (by simp);refine(W X.A (I.ok.hd hc)).item i s _ _ hg st λv h' tk hv st' kk=>?_;obtain⟨c,u,hcu,rfl⟩:=hv;have I1:Inv X zG Z H { s with heap:=h',toks:=tk }:=I.turned (λb o hb e=>kk b o (by simpa using hb) e) f0 f1 f3 f4 f5;obtain⟨o,e,cc,d⟩:=id st';exact⟨_,rfl,Pq (s:={ s with heap:=h',toks:=tk }) e cc d (by rcases hty with rfl | rfl <;> decide) ⟨.str ⟨#[c]⟩,H,I1,⟨_,rfl⟩,⟨rfl,c,hcu,rfl⟩,st',λb hb=>(hf b hb).1⟩⟩
 done:=by
  intro X hP hw hK hc i zG s Z H E I hf st hg;subst hP hw hK;obtain⟨f0,f1,f2,f3,f4,f5⟩:=hf it (by simp)
  have hx:z.cps[i]?=none:=by
   have:z.cps.size<=i:=hg
   simp [this]
  rcases hty with rfl | rfl
  ·exact wpAny_pyNext_ascii_end (I.ok.hd hc) st hx λh' eb=>⟨rfl,I.turned (t':=s.toks) (λb o hb e=>eb b o hb e) f0 f1 f3 f4 f5⟩
  ·exact wpAny_pyNext_wide_end (I.ok.hd hc) st hx λh' eb=>⟨rfl,I.turned (t':=s.toks) (λb o hb e=>eb b o hb e) f0 f1 f3 f4 f5⟩
 self:=λA i s Q E st h=>by
  rcases hty with rfl | rfl
  ·exact wpAny_pyIter_striter_ascii st h
  ·exact wpAny_pyIter_striter_wide st h
section
variable {X:Cx}{tg:Expr}
noncomputable def cJ(K:Frag)(tl:TE):TI:=λZ H R=>tl Z H λx H1 =>
 (∃a,x=.ref a/\(∃xs,SqL K H1 a xs)/\R (cb K a) H1)\/(∃a,x=.ref a/\(∃xs,SqT K H1 a xs)/\R (Zq K a) H1)\/∃z,x=.str z/\R (cZ z) H1
theorem Qs{l:d6}{tl:TE}(hl:PE X l tl):PI X tg l (cJ X.K tl):=by
 intro zG s Z H R I h;refine thn (hl zG s Z H _ I h) λv s1 ⟨x,H1,I1,r1,q1⟩=>?_
 have hne:∀b,b∈[s1.heap.objs.size]->IR X zG H1 b:=λb hb=>by
  have e:b=s1.heap.objs.size:=by simpa using hb
  subst e;exact I1.fpOk (Op _) (I1.hok.fresh (Op _))
 rcases q1 with ⟨a,e,⟨xs,hq⟩,q⟩ | ⟨a,e,⟨xs,hq⟩,q⟩ | ⟨z,e,q⟩
 ·subst e
  cases r1;obtain⟨its,rv,p,hz⟩:=I1.list hq;refine fb p.isList ?_;exact⟨s1.heap.objs.size,[s1.heap.objs.size],_,_,H1,rfl,I1.kept (t':=s1.toks) λb o e=>FM _ e,Sx a _,⟨_,UF _ rfl,rfl,rfl⟩,hne,q⟩
 ·subst e
  cases r1;obtain⟨its,rv,p,hz⟩:=I1.tuple hq;refine fS (show s1.heap.IsTuple a its.toArray from p) ?_;exact⟨s1.heap.objs.size,[s1.heap.objs.size],_,_,H1,rfl,I1.kept (t':=s1.toks) λb o e=>FM _ e,KW a _,⟨_,UF _ rfl,rfl,rfl⟩,hne,q⟩
 ·subst e
  obtain⟨t,rfl⟩:=r1;cases ha:z.cps.all (·<128)
  ·refine wpAny_pyIter_wide ha ?_
   exact⟨s1.heap.objs.size,[s1.heap.objs.size],_,_,H1,rfl,I1.kept (t':=s1.toks) λb o e=>FM _ e,Om _ z t "str_iterator" (.inr rfl) (λA' hA=>Walks.strWide hA _ z t),⟨_,UF _ rfl,rfl,rfl⟩,hne,q⟩
  ·refine wpAny_pyIter_ascii ha ?_
   exact⟨s1.heap.objs.size,[s1.heap.objs.size],_,_,H1,rfl,I1.kept (t':=s1.toks) λb o e=>FM _ e,Om _ z t "str_ascii_iterator" (.inl rfl) (λA' hA=>Walks.strAscii hA _ z t),⟨_,UF _ rfl,rfl,rfl⟩,hne,q⟩
end
section
variable {X:Cx}
theorem MD(bs:List Bool):((eP bs.length).all λi=>(bs[i]?).getD true)=bs.all id:=by
 induction bs with
 | nil=>rfl
 | cons b r ih =>
  rw [dq,iS,iU,List.all_map]
  congr 1
theorem B7(hc:X.calm=true):DC X (.builtin "all") (λxs H Q=>∃(p:Ch) (bs:List Bool),xs=[.ref p]/\SqL X.K H p (bs.map V.bl)/\Q (.bl (bs.all id)) H):=by
 intro zG s Z H xs us Q I r h;obtain⟨p,bs,rfl,hq,q⟩:=h;obtain⟨u,rfl,rx⟩:=vals1 r;cases rx;obtain⟨its,r',pl,hz⟩:=I.list hq;have hlen:=r'.length;have hl:s.heap.IsList p its.toArray:=pl.isList;have hlt:p<s.heap.objs.size:=by obtain⟨_,e,_⟩:=id hl; exact XV e
 refine call_all_walk (fb hl ?_)
 refine⟨s.heap.objs.size,[s.heap.objs.size,p],[s.heap.objs.size],its.toArray.size,_,_,λi=>(bs[i]?).getD true,rfl,Walks.list (A:=X.A.in1) (I.ok.hd hc) _ p (da hlt) its.toArray,
  ⟨⟨_,UF _ rfl,rfl,rfl⟩,hl.push _⟩,λi v s' Q' E' hP hQ=>?_,λh' tk hk=>?_⟩
 ·have hv:its[i]?=some v:=by simpa using hP
  have hb:∃b,bs[i]?=some b:=by
   have hi:i<its.length:=(Uf.mp hv).1;rw [Go] at hlen;exact⟨bs[i]'(by omega),No (by omega)⟩
  obtain⟨b,eb⟩:=hb;obtain⟨u,eu,ru⟩:=r'.get (i:=i) (x:=.bl b) (by rw [dX,eb]; rfl);rw [hv] at eu;cases eu;cases ru;simp only [eb,Option.getD_some] at hQ;exact fY hQ
 ·have e:((eP its.toArray.size).all λi=>(bs[i]?).getD true)=bs.all id:=by
   rw [dW,← hlen,Go]; exact MD bs
  rw [e];exact⟨.bl _,H,I.kept (t':=tk) λb x e=>hk b x (λhm=>by rw [TM.mp hm] at e; exact fH _ (XV e)) (FM _ e),rfl,q⟩
theorem P7:DC X (.builtin "isinstance") (λxs H Q=>∃x T t b,xs=[x,.ty T]/\HG X.K H x t/\PySem.W.kitOne X.K t (.type T)=some b/\Q (.bl b) H):=by
 intro zG s Z H xs us Q I r h;obtain⟨x,T,t,b,rfl,ty,e,q⟩:=h;obtain⟨u,w',rfl,rx,rt⟩:=vals2 r;cases rt;exact Tu I rx ty e λtk=>⟨.bl b,H,I.tok _,rfl,q⟩
theorem TY:OpR X (compareOp .LtE) (λx y H Q=>∃i j,x=.str i/\y=.str j/\Q (.bl (!(j.cps.toList<i.cps.toList))) H):=by
 intro zG s Z H x y v u Q I rx ry h;obtain⟨i,j,rfl,rfl,q⟩:=h;obtain⟨t,rfl⟩:=rx;obtain⟨t',rfl⟩:=ry;exact PySem.P.le_str ⟨.bl _,H,I,rfl,q⟩
theorem Kb{ys:List Str}:∀{us:List Db},Vals (ys.map V.str) us->StrsAre us ys:=by
 induction ys with
 | nil=>intro us r; cases r; exact .nil
 | cons n ns ih =>
  intro us r;cases r with
  | cons r1 r2 =>
   obtain⟨t,e⟩:=r1;subst e;exact .cons n t (ih r2)
theorem Yh:SlR X (λx lo hi H Q=>∃z,x=.str z/\z.length<=sizeLine/\Q (.str (Txt.slice z lo hi)) H):=by
 intro zG s Z H x v vl vu lo hi sl Q I rx hs pl pu h;obtain⟨z,rfl,hz,q⟩:=h;obtain⟨t,rfl⟩:=rx;refine⟨"str",_,F.slot_str_getitem.lookup,typeIs_str _ _ _,?_⟩;have fin:∀t' k,EP X zG Z Q (.str _ t') { s with toks:=k }:=λt' k=>⟨.str _,H,I.tok _,⟨_,rfl⟩,q⟩;cases pl with
 | none =>
  cases pu with
  | none=>exact gl (l:=none) (u:=none) (st:=none) hs rfl (ip ⟨dn (Txt.slice_le z _ _) hz,λt' k=>fin t' k⟩)
  | int j tj=>exact gl (l:=none) (u:=some (j,tj)) (st:=none) hs rfl (ip ⟨dn (Txt.slice_le z _ _) hz,λt' k=>fin t' k⟩)
 | int i ti =>
  cases pu with
  | none=>exact gl (l:=some (i,ti)) (u:=none) (st:=none) hs rfl (ip ⟨dn (Txt.slice_le z _ _) hz,λt' k=>fin t' k⟩)
  | int j tj=>exact gl (l:=some (i,ti)) (u:=some (j,tj)) (st:=none) hs rfl (ip ⟨dn (Txt.slice_le z _ _) hz,λt' k=>fin t' k⟩)
theorem TV(hu:X.A.units<cLine):OpR X (compareOp .NotEq) (λx y H Q=>∃a b xs,x=.ref a/\y=.ref b/\SqL X.K H a xs/\SqL X.K H b []/\Q (.bl (!xs.isEmpty)) H):=by
 intro zG s Z H x y v u Q I rx ry h;obtain⟨a,b,xs,rfl,rfl,ha,hb,q⟩:=h;cases rx;cases ry;obtain⟨its,r1,p1,_⟩:=I.list ha;obtain⟨its2,r2,p2,_⟩:=I.list hb;cases r2;cases r1 with
 | nil=>exact SeqAt.RcNeAt.lists (e:=λ_=>true) p1.isList p2.isList rfl hu (λj h1 h2=>absurd h1 (by simp)) _ _ _ _ ⟨.bl _,H,I,rfl,q⟩
 | cons r1 r2=>exact SeqAt.RcNeAt.lists_lengths p1.isList p2.isList (by simp) hu _ _ _ _ ⟨.bl _,H,I,rfl,q⟩
end
end L2
namespace Dp
open L2
noncomputable def bJ(K:Frag)(F:Option (Ch×Ch))(U V' M:Ch->Prop)(H:Hp)(n:Nat)(ss:List Slot)(vs:List V):Prop :=
 (∀a,M a->∃o,H a=some o)/\(∀f,F=some f->U f.1)/\(∀a,U a->V' a)/\(∀a,V' a->M a)/\FeedC K F M H n/\Paired (NP K F V' M H) vs ss
noncomputable abbrev W2:=List Slot->Nat->(D->Nat->Prop)->Prop
noncomputable def CO(K:Frag)(κ:Kd)(W:W2)(np:Nat):Sp:=λvs H Q _=>vs.length=np/\∃(F:Option (Ch×Ch)) (U V' M:Ch->Prop) (n:Nat) (ss:List Slot) (P:D->Nat->Prop),bJ K F U V' M H n ss vs/\W ss n P /\
 ∀v H' d n',Ext U H H'->FeedC K F M H' n'->VR K V' M H H' κ v d->P d n'->Q v H'
noncomputable def AD(w:DW):Nat->List Slot->(Slot->Nat->Prop)->Prop:=λn ρ P=>w n ρ λd n1=>P (.sh d) n1
noncomputable def Ec(w:DW):Nat->List Slot->(Slot->Nat->Prop)->Prop:=λn ρ P=>w n ρ λd n1=>P (.br d) n1
noncomputable def CA(i:Nat):Nat->List Slot->(Slot->Nat->Prop)->Prop:=λn ρ P=>match ρ[i]? with
 | some .fd=>P .fd n
 | _=>False
noncomputable def AV:YK:=λn _ P=>P [] n
noncomputable def AC(w:Nat->List Slot->(Slot->Nat->Prop)->Prop)(ws:YK):YK:=λn ρ P=>w n ρ λs n1=>ws n1 ρ λss n2=>P (s::ss) n2
noncomputable def AU(W:W2)(was:YK):DW:=λn ρ P=>was n ρ λss n1=>W ss n1 P
section
variable {X:Cx}{a e:Expr}{es:List Expr}{κ zU:Kd}{wa:DW}{pos:Pos}{w1:Nat->List Slot->(Slot->Nat->Prop)->Prop}{was:YK}
theorem AI(h:DE X e κ wa)(hk:autoParam (κ≠.tp) zau6._auto_1):bg X e (AD wa):=by
 obtain⟨t,h1,h2⟩:=h;exact⟨t,h1,λC M H n ρ Z P Q R w q=>h2 C M H n ρ Z _ _ R w λv H' d n' e f r p=>q v H' (.sh d) n' e f ⟨⟨v,rfl,r.shOf R.dom hk⟩,rfl⟩ p⟩
theorem M9(h:DE X e κ wa):bg X e (Ec wa):=by
 obtain⟨t,h1,h2⟩:=h;exact⟨t,h1,λC M H n ρ Z P Q R w q=>h2 C M H n ρ Z _ _ R w λv H' d n' e f r p=>q v H' (.br d) n' e f ⟨⟨v,rfl,r.tpOf R.dom R.vM⟩,rfl⟩ p⟩
theorem Cg(i:Nat){x:Str}{pos:Pos}(hN:autoParam (X.N[i]?=some x) zau3._auto_1)(hv:autoParam (Zk X.env.scope x) zau5._auto_1)(hd:autoParam ((x==("__debug__":Str))=false) zau1._auto_1)
  (hcd:autoParam ((x==("__classdict__":Str))=false) zau1._auto_1):bg X (.Name x pos) (CA i):=by
 refine⟨_,Nw hN hv hd hcd,λC M H n ρ Z P Q R w q=>?_⟩;unfold CA at w
 split at w
 ·rename_i hd
  obtain⟨f,e1,h1⟩:=R.sl i _ hd;exact⟨_,getD_some e1,q _ H .fd n (Ext.refl _ _) R.feed ⟨⟨f,rfl,h1⟩,rfl⟩ w⟩
 grind
theorem AM:Z1 X [] AV:=⟨_,CW,λC M H n ρ Z P Q R w q=>q [] H [] n (Ext.refl _ _) R.feed .nil w⟩
theorem AA(ha:bg X e w1)(hr:Z1 X es was)(hs:autoParam (starEach (e::es) X.env=(false,eval e X.env)::starEach es X.env) zau3._auto_1):Z1 X (e::es) (AC w1 was):=by
 obtain⟨t,h1,h2⟩:=ha;obtain⟨u,g1,g2⟩:=hr;refine⟨_,Bl h1 g1 hs,λC M H n ρ Z P Q R w q=>?_⟩;refine h2 C M H n ρ Z _ _ R w λv H1 d n1 e1 f1 r1 p=>?_;have R1:=R.step e1 f1;exact g2 C M H1 n1 ρ Z _ _ R1 p λvs H2 ds n2 e2 f2 r2 p2=>q _ H2 _ n2 (e1.trans e2) f2 (.cons ⟨r1.1.pres (R1.pres e2) (λ_ z=>z) e2 R.uV,r1.2⟩ r2) p2
theorem Xe{k:Nat}{f:Ch}{fd:eY}{ps:List Str}{W:W2}{x:Str}{p:Pos}(G:A4 X.prog X.w X.K X.mg X.base Bw k f fd ps (CO X.K κ W ps.length))(hW:∀ss n P,W ss n P->ss.length=ps.length)
  (hr:Room k X.A) (hg:Gl X x) (hm:X.mg x=some (.ref f)) (hk:keepIn X.K (.ref f)=true) (hb:Binds X.K fd ps []) (ha:Z1 X (e::es) was)
  (hdb:autoParam ((x==("__debug__":Str))=false) zau1._auto_1) (he:autoParam (starEach (e::es) X.env=(false,eval e X.env)::starEach es X.env) zau3._auto_1) (hpl:autoParam ((backTo pos (starEach es X.env)).any (·.1)=false) zau3._auto_1) :
  DE X (.Call (.Name x p) (e::es) [] pos) κ (AU W was):=by
 obtain⟨t,h1,h2⟩:=ha;refine⟨_,Rz G hr hg hm hk hb .nil X6 h1 hdb he hpl,λC M H n ρ Z P Q R w q=>?_⟩;refine h2 C M H n ρ Z _ _ R w λvs H1 ss n1 e1 f1 r1 p=>?_;have R1:=R.step e1 f1;rw [eO];exact⟨(Paired.length r1).trans (hW _ _ _ p),_,_,_,M,n1,ss,P,⟨R1.dom,R1.fU,R1.uV,R1.vM,f1,r1⟩,p,λv H2 d n2 e2 f2 r2 p2=>q v H2 d n2 (e1.trans e2) f2 (VR.back e1 r2) p2⟩
noncomputable def dM(K:Frag)(κ:Kd)(T:String)(r:V->List V->Hp->VK->Prop)(f:D->List D->(D->Prop)->Prop):Prop:=∀(U:Ch->Prop) (M:Ch->Prop) (H:Hp) (d:D) (ds:List D) (x:V) (vs:List V) (P:D->Prop) (Q:VK),(∀a,M a->∃o,H a=some o)->(∀a,U a->M a) ->
 AtT K U M H d x->Paired (λv d=>AtT K U M H d v) vs ds->f d ds P->(∀v H' z,Grow H H'->VR K U M H H' κ v z->P z->Q v H')->r x vs H Q
noncomputable def ah(T:String)(d:D):Prop:=match d with
 | .str _=>T = "str"
 | .int _=>T = "int"
 | .lst _=>T = "list"
 | _=>False
theorem OE{T:String}{K:Frag}{U:Ch->Prop}{M:Ch->Prop}{H:Hp}{d:D}{x:V}(h:ah T d)(hx:AtT K U M H d x):bj K T x H:=by
 cases d with
 | str z=>obtain⟨e,_⟩:=hx; subst e; exact h
 | int i=>cases (hx); exact h
 | lst ds=>obtain⟨a,vs,e,_,hq,_⟩:=hx; subst e; exact .inl ⟨h,vs,.inl hq⟩
 | _=>exact(h).elim
noncomputable def DO(X:Cx)(e:Option d6)(w:Nat->List Slot->(Option Int->Nat->Prop)->Prop):Prop:=∃t,PO X e t/\∀(C:Fm) (M:Ch->Prop) (H:Hp) (n:Nat) (ρ:List Slot) (Z:L2.St) (P:Option Int->Nat->Prop) (Q:Option Int->Hp->Prop),Rel X.K C M H n ρ Z->w n ρ P ->
 (∀o H' n',Ext C.U H H'->FeedC X.K C.F M H' n'->P o n'->Q o H')->t Z H Q
noncomputable def Ee:Nat->List Slot->(Option Int->Nat->Prop)->Prop:=λn _ P=>P none n
noncomputable def KR(w:DW):Nat->List Slot->(Option Int->Nat->Prop)->Prop:=λn ρ P=>w n ρ λd n1=>match d with
 | .int i=>P (some i) n1
 | _=>False
theorem J_:DO X none Ee:=⟨_,Rx,λC M H n ρ Z P Q R w q=>q _ H n (Ext.refl _ _) R.feed w⟩
theorem Iz{U:Ch->Prop}{K:Frag}{M:Ch->Prop}{H H':Hp}{v:V}{i:Int}(h:VR K U M H H' κ v (.int i)):v=.int i:=by
 cases κ with
 | sh=>exact h
 | tp=>exact h
 | fr=>obtain⟨a,_,_,t⟩:=h; exact(t).elim
theorem J9(h:DE X e κ wa):DO X (some e) (KR wa):=by
 obtain⟨t,h1,h2⟩:=h;refine⟨_,Rv h1,λC M H n ρ Z P Q R w q=>?_⟩;refine h2 C M H n ρ Z _ _ R w λv H1 d n1 e1 f1 r1 p=>?_;cases d with
 | int i=>exact⟨i,Iz r1,q _ H1 n1 e1 f1 p⟩
 | _=>exact p.elim
noncomputable def cu(K:Frag)(κ:Kd)(r:V->Option Int->Option Int->Hp->VK->Prop)(f:D->Option Int->Option Int->(D->Prop)->Prop):Prop:=∀(U:Ch->Prop) (M:Ch->Prop) (H:Hp) (d:D) (x:V) (lo hi:Option Int) (P:D->Prop) (Q:VK),(∀a,M a->∃o,H a=some o)->(∀a,U a->M a) ->
 AtT K U M H d x->f d lo hi P->(∀v H' z,Grow H H'->VR K U M H H' κ v z->P z->Q v H')->r x lo hi H Q
noncomputable def YT(f:D->Option Int->Option Int->(D->Prop)->Prop)(w:DW)(wl wh:Nat->List Slot->(Option Int->Nat->Prop)->Prop):DW:=λn ρ P=>w n ρ λd n1=>wl n1 ρ λlo n2=>wh n2 ρ λhi n3=>f d lo hi λz=>P z n3
theorem SW{lo hi:Option d6}{p2:Pos}{r:V->Option Int->Option Int->Hp->VK->Prop}{f:D->Option Int->Option Int->(D->Prop)->Prop}{wl wh:Nat->List Slot->(Option Int->Nat->Prop)->Prop}(hr:SlR X r)(hA:cu X.K κ r f)(he:DE X e zU wa)(hl:DO X lo wl)(hh:DO X hi wh) :
  DE X (.Subscript e (.Slice lo hi none p2) pos) κ (YT f wa wl wh):=by
 obtain⟨t,h1,h2⟩:=he;obtain⟨u,g1,g2⟩:=hl;obtain⟨u',k1,k2⟩:=hh;refine⟨_,O_ hr h1 g1 k1,λC M H n ρ Z P Q R w q=>?_⟩;refine h2 C M H n ρ Z _ _ R w λv H1 d n1 e1 f1 r1 p=>?_;have R1:=R.step e1 f1;have tv:=r1.tpOf R.dom R.vM;refine g2 C M H1 n1 ρ Z _ _ R1 p λlo H2 n2 e2 f2 p2=>?_;have R2':=R1.step e2 f2;refine k2 C M H2 n2 ρ Z _ _ R2' p2 λhi H3 n3 e3 f3 p3=>?_;have R3:=R2'.step e3 f3;refine hA C.V M H3 d v lo hi _ _ R3.dom R3.vM ((tv.pres (R1.pres e2) e2 R.uV).pres (R2'.pres e3) e3 R.uV) p3 λv H4 z g vr pz=>?_;exact q v H4 z n3 (((e1.trans e2).trans e3).trans g.ext) (f3.grow g) (VR.back ((e1.trans e2).trans e3) vr) pz
end
structure E2 where
 nx:Nat->List Slot->Prop
 rt:D->Nat->Prop
 bk:Nat->List Slot->Prop:=λ_ _=>False
 ct:Nat->List Slot->Prop:=λ_ _=>False
noncomputable abbrev Ai:=E2->Nat->List Slot->Prop
structure WQ (K:Frag) (C:Fm) (κ:Kd) (D2:E2) (E:Ends):Prop where
 nx:∀M H n ρ Z,Rel K C M H n ρ Z->D2.nx n ρ->E.nx Z H
 rt:∀v H d n,Ext C.U C.H0 H->FeedC K C.F C.M0 H n->VR K C.V C.M0 C.H0 H κ v d->D2.rt d n->E.rt v H
 bk:∀M H n ρ Z,Rel K C M H n ρ Z->D2.bk n ρ->E.bk Z H
 ct:∀M H n ρ Z,Rel K C M H n ρ Z->D2.ct n ρ->E.ct Z H
noncomputable def DS(X:Cx)(κ:Kd)(st:eA)(w:Ai):Prop:=∃t,PS X st t/\∀(C:Fm) (M:Ch->Prop) (H:Hp) (n:Nat) (ρ:List Slot) (Z:L2.St) (D2:E2) (E:Ends),Rel X.K C M H n ρ Z->WQ X.K C κ D2 E->w D2 n ρ->t E Z H
noncomputable def UJ(X:Cx)(κ:Kd)(st:List eA)(w:Ai):Prop:=∃t,PSs X st t/\∀(C:Fm) (M:Ch->Prop) (H:Hp) (n:Nat) (ρ:List Slot) (Z:L2.St) (D2:E2) (E:Ends),Rel X.K C M H n ρ Z->WQ X.K C κ D2 E->w D2 n ρ->t E Z H
noncomputable def Ap:Ai:=λD2 n ρ=>D2.nx n ρ
noncomputable def Af(u v:Ai):Ai:=λD2 n ρ=>u { D2 with nx:=v D2 } n ρ
noncomputable def Am(w:DW):Ai:=λD2 n ρ=>w n ρ λd n1=>D2.rt d n1
noncomputable def A2(t:Jh)(u v:Ai):Ai:=λD2 n ρ=>t n ρ λc n1=>if c=true then u D2 n1 ρ else v D2 n1 ρ
noncomputable def A0(i:Nat)(w:DW):Ai:=λD2 n ρ=>w n ρ λd n1=>D2.nx n1 (ρ.set i (.sh d))
section
variable {X:Cx}{κ zR:Kd}{st:Stmt}{rest:List Stmt}{u v:Ai}{wa:DW}{wA:Jh}{e c:Expr}{pos:Pos}
theorem Aj:UJ X κ [] Ap:=⟨_,Nq,λC M H n ρ Z D2 E R L w=>L.nx M H n ρ Z R w⟩
theorem AH(h1:DS X κ st u)(h2:UJ X κ rest v):UJ X κ (st::rest) (Af u v):=by
 obtain⟨t,a1,a2⟩:=h1;obtain⟨t',b1,b2⟩:=h2;exact⟨_,BV a1 b1,λC M H n ρ Z D2 E R L w=>a2 C M H n ρ Z { D2 with nx:=v D2 } _ R ⟨λM H n ρ Z R w=>b2 C M H n ρ Z D2 E R L w,L.rt,L.bk,L.ct⟩ w⟩
theorem AK(h1:DS X κ st u):UJ X κ [st] u:=by
 obtain⟨t,a1,a2⟩:=h1;exact⟨t,Dr a1,a2⟩
theorem Yk{K:Frag}{C:Fm}{M:Ch->Prop}{H H':Hp}{n n':Nat}{ρ:List Slot}{Z:L2.St}{D2:E2}{E:Ends}{d:D}{v:V}(R:Rel K C M H n ρ Z)(L:WQ K C κ D2 E)(e:Ext C.U H H')(f:FeedC K C.F M H' n')(r:VR K C.V M H H' κ v d)(hk:κ≠.tp)(p:D2.rt d n'):E.rt v H':=by
 have less:Pres M H' _ H':=Pres.less R.sub;refine L.rt v H' d n' (R.ext.trans e) (f.pres less λ_ _ _ z=>z) ?_ p;cases κ with
 | sh=>exact At.pres less r
 | tp=>grind
 | fr =>
  obtain⟨a,e1,h1,h2⟩:=VR.back R.ext r;exact⟨a,e1,h1,h2.pres (Pres.less λb z=>z.imp (R.sub b) id) λ_ z=>z⟩
theorem AZ(h:DE X e κ wa)(hk:autoParam (κ≠.tp) zau6._auto_1):DS X κ (.Return (some e) pos) (Am wa):=by
 obtain⟨t,a1,a2⟩:=h;exact⟨_,G2 a1,λC M H n ρ Z D2 E R L w=>a2 C M H n ρ Z _ _ R w λv H' d n' e1 f1 r1 p=>Yk R L e1 f1 r1 hk p⟩
theorem Az{a b:List eA}(hc:DT X c wA)(ha:UJ X κ a u)(hb:UJ X κ b v):DS X κ (.If c a b pos) (A2 wA u v):=by
 obtain⟨t,a1,a2⟩:=hc;obtain⟨t',b1,b2⟩:=ha;obtain⟨t'',c1,c2⟩:=hb;refine⟨_,U_ a1 b1 c1,λC M H n ρ Z D2 E R L w=>?_⟩;refine a2 C M H n ρ Z _ _ R w λb H1 n1 e1 f1 p=>?_;cases b with
 | true=>exact b2 C M H1 n1 ρ Z D2 E (R.step e1 f1) L p
 | false=>exact c2 C M H1 n1 ρ Z D2 E (R.step e1 f1) L p
theorem Aq{i:Nat}{x:Str}{pos':Pos}(hN:X.N.Nodup)(hi:X.N[i]?=some x)(hx:Loc X.env.scope x)(he:DE X e zR wa)(hk:autoParam (zR≠.tp) zau6._auto_1)(hs:autoParam (swapsWith e (some (.Name x pos')) pos.line X.env=pure false) zau3._auto_1)
  (hf:autoParam (X.fn x=true\/X.env.scope.names.lookup x=some .local) zau0._auto_1):DS X κ (.Assign [.Name x pos'] e pos) (A0 i wa):=by
 obtain⟨t,a1,a2⟩:=he;exact⟨_,Fb hN hi hx a1 hs hf,λC M H n ρ Z D2 E R L w=>a2 C M H n ρ Z _ _ R w λv H' d n' e1 f1 r1 p=>L.nx M H' n' _ _ ((R.step e1 f1).set (r1.shOf R.dom hk)) p⟩
end
section
variable {X:Cx}{κ:Kd}{e:Expr}{wa:DW}{pos:Pos}
noncomputable def FD(i:Nat)(w:DW):Ai:=λD2 n ρ=>w n ρ λd n1=>D2.nx n1 (ρ.set i (.ow d))
theorem Cy{i:Nat}{x:Str}{pos':Pos}(hN:X.N.Nodup)(hi:X.N[i]?=some x)(hx:Loc X.env.scope x)(he:DE X e .fr wa)(hs:autoParam (swapsWith e (some (.Name x pos')) pos.line X.env=pure false) zau3._auto_1)
  (hf:autoParam (X.fn x=true\/X.env.scope.names.lookup x=some .local) zau0._auto_1):DS X κ (.Assign [.Name x pos'] e pos) (FD i wa):=by
 obtain⟨t,a1,a2⟩:=he;refine⟨_,Fb hN hi hx a1 hs hf,λC M H n ρ Z D2 E R L w=>?_⟩;refine a2 C M H n ρ Z _ _ R w λv H' d n' e1 f1 r1 p=>?_;obtain⟨a,rfl,h1,h2⟩:=r1;exact L.nx _ H' n' _ _ (R.setOw e1 f1 h1 h2) p
noncomputable def Oh(i:Nat):Ai:=λD2 n ρ=>∃d,ρ[i]?=some (.ow d)/\D2.rt d n
theorem SS{x:Str}{p:Pos}(i:Nat)(h:PE X (.Name x p) (B3 i)):DS X .fr (.Return (some (.Name x p)) pos) (Oh i):=by
 refine⟨_,G2 h,λC M H n ρ Z D2 E R L ⟨d,hd,hw⟩=>?_⟩;obtain⟨a,e1,m,nv,t⟩:=R.sl i _ hd;exact⟨_,getD_some e1,L.rt _ H d n R.ext (R.feed.pres (Pres.less R.sub) λ_ _ _ z=>z) ⟨a,rfl,(R.new i _ a hd rfl e1).2,t.pres (Pres.less λb z=>z.elim (R.sub b) λz=>by grind) λ_ z=>z⟩ hw⟩
noncomputable def Xr(K:Frag)(r:V->List V->Hp->VK->Prop)(f:D->List D->(D->D->Prop)->Prop):Prop:=∀(M:Ch->Prop) (H:Hp) (a:Ch) (d:D) (ds:List D) (vs:List V) (P:D->D->Prop) (Q:VK),M a->Tops K M H a d->Ats K M H ds vs->f d ds P ->
 (∀o e z v,Tops K M (BD H a o) a e->At K M (BD H a o) z v->P e z->Q v (BD H a o))->r (.ref a) vs H Q
noncomputable def WU(i:Nat)(T:String)(f:D->List D->(D->D->Prop)->Prop)(ws:GQ):Ai:=λD2 n ρ=>∃d,ρ[i]?=some (.ow d)/\ah T d/\ws n ρ λds n1=>f d ds λe _=>D2.nx n1 (ρ.set i (.ow e))
theorem CJ{M:Ch->Prop}{H:Hp}{a:Ch}{o u:HO}(m:M a)(e:H a=some u)(t:autoParam (∀vs,u≠.tup vs) zau8._auto_1):Pres M H M (BD H a o):=⟨λb o' q nb=>by rw [Ag (λz=>nb (by simp_all))]; exact q,λ_ z=>.inl z,λb vs q=>by rw [Ag (λz=>by grind)]; exact q⟩
theorem LZ{x name:Str}{p apos cpos:Pos}{T id:String}{r:V->List V->Hp->VK->Prop}{f:D->List D->(D->D->Prop)->Prop}{es:List d6}{ws:GQ}(i:Nat)(pa:PlainAttrs T)(slot:PySem.Slot T name id)(hty:typeOf (.builtin id)=pure (.type "method_descriptor"))
  (hm:bP X id r) (hA:Xr X.K r f) (h:PE X (.Name x p) (B3 i)) (ha:Zu X (e::es) ws)
  (hbase:autoParam (attributeBase (.Name x p) name X.env (eval (.Name x p) X.env)=eval (.Name x p) X.env) zau3._auto_1)
  (hfew:autoParam (((backTo cpos (starEach (e::es) X.env)).all (λx=>!x.1)&&(backToKw cpos (keywordEach [] X.env)).all (λx=>x.1.isSome)
   && decide ((e::es).length+([]:List gG).length+(if ([]:List gG).isEmpty then 0 else 1)<30))=true) zau3._auto_1)
  (hline:autoParam ((apos.endLine==cpos.line)=true) zau3._auto_1) (hs:autoParam (starEach (e::es) X.env=(false,eval e X.env)::starEach es X.env) zau3._auto_1) (hplain:autoParam ((backTo cpos (starEach es X.env)).any (·.1)=false) zau3._auto_1)
  (hsw:autoParam (swapsWith (.Call (.Attribute (.Name x p) name apos) (e::es) [] cpos) none pos.line X.env=pure false) zau3._auto_1) :
  DS X κ (.Expr (.Call (.Attribute (.Name x p) name apos) (e::es) [] cpos) pos) (WU i T f ws):=by
 obtain⟨t,a1,a2⟩:=ha;refine⟨_,Ru (R0 pa slot hty hm h a1 hbase hfew hline hs hplain) hsw,λC M H n ρ Z D2 E R L ⟨d,hd,hT,hw⟩=>?_⟩;obtain⟨a,e1,m,nv,tt⟩:=R.sl i _ hd;refine⟨.ref a,getD_some e1,OE hT (tt.att nv),?_⟩;refine a2 C M H n ρ Z _ _ R hw λvs H1 ds n1 ee f1 r1 p=>?_;have R1:=R.step ee f1;obtain⟨a',e1',m',nv',tt'⟩:=R1.sl i _ hd;rw [e1] at e1';cases e1';exact hA M H1 a d ds vs _ _ m' tt' r1 p λo d' z v t2 hz pp=>L.nx M _ n1 _ Z (R1.mut hd e1 t2) pp
noncomputable def RC(d:D)(ds:List D)(P:D->D->Prop):Prop:=∃xs y,d=.lst xs/\ds=[y]/\xs.length<sizeLine/\P (.lst (xs++[y])) .non
theorem QJ{K:Frag}:Xr K Ro RC:=by
 intro M H a d ds vs P Q m t hv w q;obtain⟨xs,y,rfl,rfl,hl,w⟩:=w;obtain⟨us,h1,h2⟩:=t;obtain⟨u,r,rfl,hu,hr⟩:=hv;cases (hr);exact⟨a,us,u,rfl,rfl,h1,by rw [h2.length]; exact hl,q _ (.lst _) .non _ ⟨_,Al,(h2.append (Ats.one hu)).pres (CJ m h1)⟩ rfl w⟩
noncomputable def ZT(d:D)(ds:List D)(P:D->D->Prop):Prop:=∃xs ys,d=.lst xs/\ds=[.lst ys]/\xs.length+ys.length<=sizeLine/\P (.lst (xs++ys)) .non
theorem YJ{K:Frag}:Xr K Rn ZT:=by
 intro M H a d ds vs P Q m t hv w q;obtain⟨xs,ys,rfl,rfl,hl,w⟩:=w;obtain⟨us,h1,h2⟩:=t;obtain⟨u,r,rfl,hu,hr⟩:=hv;cases (hr);obtain⟨b,zs,rfl,hb,hz⟩:=hu;exact⟨a,b,us,zs,rfl,rfl,h1,hb.2,by rw [h2.length,hz.length]; exact hl,q _ (.lst _) .non _ ⟨_,Al,(h2.append hz).pres (CJ m h1)⟩ rfl w⟩
end
noncomputable def Yields(K:Frag)(M:Ch->Prop)(H:Hp)(J:It)(ds:List D):Prop:=∀(i:Nat) (M':Ch->Prop) (H':Hp),Pres M H M' H'->(∀a,M' a->∃o,H' a=some o) ->
 (∀d,ds[i]?=some d->J.go i H'/\∀x H2,J.yld i H' x H2->Grow H' H2/\At K M' H2 d x)/\(ds.length<=i->J.stop i H')
noncomputable def Sk(K:Frag)(U M:Ch->Prop)(H:Hp)(J:It)(ds:List D):Prop:=∀(i:Nat) (M':Ch->Prop) (H':Hp),Pres M H M' H'->Ext U H H'->(∀a,M' a->∃o,H' a=some o) ->
 (∀d,ds[i]?=some d->J.go i H'/\∀x H2,J.yld i H' x H2->Grow H' H2/\At K M' H2 d x)/\(ds.length<=i->J.stop i H')
theorem Yields.e{K:Frag}{U M:Ch->Prop}{H:Hp}{J:It}{ds:List D}(h:Yields K M H J ds):Sk K U M H J ds:=λi M' H' p _ d=>h i M' H' p d
noncomputable def Zt(X:Cx)(tg iter:d6)(w:GQ):Prop:=∃wi,PI X tg iter wi/\∀(C:Fm) (M:Ch->Prop) (H:Hp) (n:Nat) (ρ:List Slot) (Z:L2.St) (P:List D->Nat->Prop) (R:It->Hp->Prop),Rel X.K C M H n ρ Z->w n ρ P ->
 (∀J H' ds n',Ext C.U H H'->FeedC X.K C.F M H' n'->Sk X.K C.U M H' J ds->P ds n'->R J H')->wi Z H R
noncomputable def DI(X:Cx)(tg iter:d6)(w:GQ):Prop:=∃wi,PI X tg iter wi/\∀(C:Fm) (M:Ch->Prop) (H:Hp) (n:Nat) (ρ:List Slot) (Z:L2.St) (P:List D->Nat->Prop) (R:It->Hp->Prop),Rel X.K C M H n ρ Z->w n ρ P ->
 (∀J H' ds n',Ext C.U H H'->FeedC X.K C.F M H' n'->Yields X.K M H' J ds->P ds n'->R J H')->wi Z H R
noncomputable def signs(x:Str):List D:=x.cps.toList.map λc=>.str ⟨#[c]⟩
noncomputable def A1(w:DW):GQ:=λn ρ P=>w n ρ λd n1=>match d with
 | .lst ds=>P ds n1
 | .tup ds=>P ds n1
 | .str x=>P (signs x) n1
 | _=>False
theorem Oe{K:Frag}{M:Ch->Prop}{H:Hp}{a:Ch}{vs:List V}{ds:List D}(h:NdL M H a vs)(hs:Ats K M H ds vs):Yields K M H (cb K a) ds:=by
 intro i M' H' p _;have hq:SqL K H' a vs:=(h.pres p).sq;refine⟨λd hd=>?_,λhl=>⟨vs,hq,by rw [hs.length]; exact hl⟩⟩;obtain⟨v,e,hv⟩:=(hs.pres p).get hd;refine⟨⟨vs,v,hq,e⟩,λx H2 y=>?_⟩;obtain⟨e2,y⟩:=y;subst e2
 have:=e.symm.trans (y vs hq)
 cases this;exact⟨.refl,hv⟩
theorem KO{K:Frag}{M:Ch->Prop}{H:Hp}{a:Ch}{vs:List V}{ds:List D}(h:NdT M H a vs)(hs:Ats K M H ds vs):Yields K M H (Zq K a) ds:=by
 intro i M' H' p _;have hq:SqT K H' a vs:=(h.pres p).sq;refine⟨λd hd=>?_,λhl=>⟨vs,hq,by rw [hs.length]; exact hl⟩⟩;obtain⟨v,e,hv⟩:=(hs.pres p).get hd;refine⟨⟨vs,v,hq,e⟩,λx H2 y=>?_⟩;obtain⟨e2,y⟩:=y;subst e2
 have:=e.symm.trans (y vs hq)
 cases this;exact⟨.refl,hv⟩
theorem yields_str{K:Frag}{M:Ch->Prop}{H:Hp}{z:Str}:Yields K M H (cZ z) (signs z):=by
 intro i M' H' p _;refine⟨λd hd=>?_,λhl=>?_⟩
 ·unfold signs at hd
  rw [dX] at hd
  have hi:i<z.cps.size:=by
   cases q:z.cps.toList[i]? with
   | none=>simp_all
   | some c=>simpa using (Uf.mp q).1
  refine⟨hi,λx H2 y=>?_⟩;obtain⟨e2,c,hc,rfl⟩:=y;subst e2
  have:z.cps.toList[i]?=some c:=by grind
  rw [this] at hd;have hd':D.str ⟨#[c]⟩=d:=dh hd;subst hd';exact⟨.refl,rfl,by rw [eK]; show 1<=16777216; decide⟩
 ·show z.cps.size<=i
  unfold signs at hl
  simp_all
noncomputable def Dl(lo:Int)(n:Nat):List D:=(eP n).map fun(i:Nat)=>.int (lo+(i:Int))
theorem NQ{K:Frag}{M:Ch->Prop}{H:Hp}{lo:Int}{m:Nat}:Yields K M H (bc lo m) (Dl lo m):=by
 intro i M' H' p _;refine⟨λd hd=>?_,λhl=>?_⟩
 ·unfold Dl at hd
  rw [dX] at hd
  have hi:=by
   cases q:(eP m)[i]? with
   | none=>simp_all
   | some c=>simpa using (Uf.mp q).1
  rw [List.getElem?_range hi] at hd;have hd':=dh hd;subst hd';refine⟨hi,λx H2 y=>?_⟩;obtain⟨e2,e3⟩:=y;subst e2;exact⟨.refl,e3⟩
 ·show m<=i
  unfold Dl at hl
  simp_all
section
variable {X:Cx}{tg e e2:Expr}{κ:Kd}{wa:DW}{ws:GQ}{p pos:Pos}
theorem ED(h:DE X e κ wa)(hk:autoParam (κ≠.tp) zau6._auto_1):DI X tg e (A1 wa):=by
 obtain⟨t,a1,a2⟩:=h;refine⟨_,Qs a1,λC M H n ρ Z P Rr R w q=>?_⟩;refine a2 C M H n ρ Z _ _ R w λv H1 d n1 e1 f1 r1 p=>?_;have hv:=r1.shOf R.dom hk;cases d with
 | lst ds =>
  obtain⟨a,vs,e,hn,hs⟩:=hv;exact .inl ⟨a,e,⟨vs,hn.sq⟩,q _ H1 ds n1 e1 f1 (Oe hn hs) p⟩
 | tup ds =>
  obtain⟨a,vs,e,hn,hs⟩:=hv;exact .inr (.inl ⟨a,e,⟨vs,hn.sq⟩,q _ H1 ds n1 e1 f1 (KO hn hs) p⟩)
 | str z=>exact .inr (.inr ⟨z,hv.1,q _ H1 _ n1 e1 f1 yields_str p⟩)
 | _=>exact p.elim
noncomputable def GV(ws:GQ):GQ:=λn ρ P=>ws n ρ λds n1=>∃j:Int,ds=[.int j]/\(-(2 ^ 62)<=j/\j<2 ^ 62)/\P (Dl 0 j.toNat) n1
theorem Ct(hg:Gl X "range")(hm:X.mg "range"=none)(ha:YL X [e] ws)(hs:autoParam (starEach [e] X.env=[(false,eval e X.env)]) zau3._auto_1):DI X tg (.Call (.Name "range" p) [e] [] pos) (GV ws):=by
 obtain⟨t,a1,a2⟩:=ha;refine⟨_,TL hg hm a1 hs,λC M H n ρ Z P Rr R w q=>?_⟩;refine a2 C M H n ρ Z _ _ R w λvs H1 ds n1 e1 f1 r1 p=>?_;obtain⟨j,rfl,hj,p⟩:=p;cases r1 with
 | cons r rr =>
  cases rr;exact⟨j,by rw [r],hj.1,hj.2,q _ H1 _ n1 e1 f1 NQ p⟩
theorem DI.c(h:DI X tg e ws):Zt X tg e ws:=by
 obtain⟨wi,a1,a2⟩:=h;exact⟨wi,a1,λC M H n ρ Z P Rr R w q=>a2 C M H n ρ Z P Rr R w λJ H' ds n' e1 f1 y p=>q J H' ds n' e1 f1 y.e p⟩
theorem BH(h:DE X e κ wa):Zt X tg e (A1 wa):=by
 obtain⟨t,a1,a2⟩:=h;refine⟨_,Qs a1,λC M H n ρ Z P Rr R w q=>?_⟩;refine a2 C M H n ρ Z _ _ R w λv H1 d n1 e1 f1 r1 p=>?_;have hv:AtT X.K C.V M H1 d v:=r1.tpOf R.dom R.vM;cases d with
 | lst ds =>
  obtain⟨a,vs,e,nv,hr,hs⟩:=hv;refine .inl ⟨a,e,⟨vs,.inl hr⟩,q _ H1 ds n1 e1 f1 (λi M' H' pr ex _=>?_) p⟩
  have hq:SqL X.K H' a vs:=by
   rcases hr with hr | ⟨o,hr⟩
   ·exact .inl (.inl (ex.keep hr λz=>nv (R.uV a z)))
   ·exact .inl (.inr ⟨o,ex.keep hr λz=>nv (R.uV a z)⟩)
  refine⟨λd hd=>?_,λhl=>⟨vs,hq,by rw [hs.length]; exact hl⟩⟩;obtain⟨v,e,hv⟩:=(hs.pres pr).get hd;refine⟨⟨vs,v,hq,e⟩,λx H2 y=>?_⟩;obtain⟨e2,y⟩:=y;subst e2
  have:some v=some x:=e.symm.trans (y vs hq)
  cases this;exact⟨.refl,hv⟩
 | tup ds =>
  obtain⟨a,vs,e,hn,hs⟩:=hv;exact .inr (.inl ⟨a,e,⟨vs,hn.sq⟩,q _ H1 ds n1 e1 f1 (KO hn hs).e p⟩)
 | str z=>exact .inr (.inr ⟨z,hv.1,q _ H1 _ n1 e1 f1 yields_str.e p⟩)
 | _=>exact p.elim
end
noncomputable abbrev BW:=D->List Slot->(List Slot->Prop)->Prop
noncomputable def DG(X:Cx)(tg:d6)(b:BW):Prop:=∃g,PG X tg g/\∀(C:Fm) (M:Ch->Prop) (H:Hp) (n:Nat) (ρ:List Slot) (Z:L2.St) (d:D) (v:V) (P:List Slot->Prop) (Q:L2.St->Hp->Prop),Rel X.K C M H n ρ Z->At X.K M H d v->b d ρ P ->
 (∀zY zZ,Rel X.K C M H n zY zZ->P zY->Q zZ H)->g v Z H Q
noncomputable def AR(i:Nat):BW:=λd ρ P=>P (ρ.set i (.sh d))
theorem AT{X:Cx}{i:Nat}{x:Str}{pos:Pos}(hN:X.N.Nodup)(hi:X.N[i]?=some x)(hx:Loc X.env.scope x)(hf:autoParam (X.fn x=true\/X.env.scope.names.lookup x=some .local) zau0._auto_1):DG X (.Name x pos) (AR i) :=
 ⟨_,HM hN hi hx hf,λC M H n ρ Z d v P Q R h w q=>q _ _ (R.set h) w⟩
noncomputable def BF(b:BW)(body:Ai)(D2:E2):List D->Nat->List Slot->Prop
 | [],n,ρ=>D2.nx n ρ
 | d::ds,n,ρ=>b d ρ λzT=>body { D2 with nx:=BF b body D2 ds,ct:=BF b body D2 ds,bk:=D2.nx } n zT
noncomputable def Cj(src:GQ)(b:BW)(body:Ai):Ai:=λD2 n ρ=>src n ρ λds n1=>BF b body D2 ds n1 ρ
theorem Rel.unpin{K:Frag}{C:Fm}{p:(Ch->Prop)×Hp}{M:Ch->Prop}{H:Hp}{n:Nat}{ρ:List Slot}{Z:L2.St}(R:Rel K { C with zG:=p::C.zG } M H n ρ Z):Rel K C M H n ρ Z :=
 ⟨R.len,R.sub,R.dom,R.ext,R.fU,R.uV,R.vM,R.feed,R.sl,λq hq=>R.pin q (Sc _ hq),R.br0,R.new,R.two,R.kept⟩
theorem Rel.pinned{K:Frag}{C:Fm}{M:Ch->Prop}{H:Hp}{n:Nat}{ρ:List Slot}{Z:L2.St}(R:Rel K C M H n ρ Z):Rel K { C with zG:=(M,H)::C.zG } M H n ρ Z :=
 ⟨R.len,R.sub,R.dom,R.ext,R.fU,R.uV,R.vM,R.feed,R.sl,λq hq=>(ZB.mp hq).elim (λe=>e▸Pres.refl M H) (R.pin q),R.br0,R.new,R.two,R.kept⟩
section
variable {X:Cx}{κ:Kd}{tg iter:Expr}{body:List Stmt}{src:GQ}{b:BW}{wb:Ai}{pos:Pos}
theorem Ba(hp:jr (model X.prog X.w) X.A X.env X.xe)(hc:X.calm=true)(hi:DI X tg iter src)(hg:DG X tg b)(hb:UJ X κ body wb)
  (hs:autoParam (∀x,foldedSetIterable iter X.env x=pure x) zau2._auto_1):DS X κ (.For tg iter body [] pos) (Cj src b wb):=by
 obtain⟨wi,a1,a2⟩:=hi;obtain⟨g,g1,g2⟩:=hg;obtain⟨tb,b1,b2⟩:=hb;refine⟨_,Nu hp hc a1 g1 b1 hs,λC M H n ρ Z D2 E R L w=>?_⟩;refine a2 C M H n ρ Z _ _ R w λJ H1 ds n1 e1 f1 y w1=>?_;have R1:=R.step e1 f1;refine⟨λi m zZ H'=>m=ds.length - i/\i<=ds.length/\∃M' n' zY,Rel X.K { C with zG:=(M,H1)::C.zG } M' H' n' zY zZ/\BF b wb D2 (ds.drop i) n' zY,⟨ds.length,by simp,dY _,M,n1,ρ,R1.pinned,w1⟩,?_⟩;rintro i m zZ H' ⟨rfl,hi,M',n',zY,R',w'⟩;have pr:Pres M H1 M' H':=R'.pin (M,H1) Re
 by_cases hlt:i<ds.length
 ·have ed:ds.drop i=ds[i]::ds.drop (i+1):=gB hlt
  rw [ed] at w';obtain⟨go,yl⟩:=(y i M' H' pr R'.dom).1 ds[i] (No hlt);refine .inr ⟨go,λzN H2=>∃M2 n2 zL,Rel X.K { C with zG:=(M,H1)::C.zG } M2 H2 n2 zL zN/\BF b wb D2 (ds.drop (i+1)) n2 zL,λzN H2 ⟨M2,n2,zL,R2',w2⟩=>⟨ds.length - (i+1),by omega,rfl,hlt,M2,n2,zL,R2',w2⟩,λx H2 hy=>?_⟩;obtain⟨gr,hx⟩:=yl x H2 hy;have R2':=R'.step gr.ext (R'.feed.grow gr);refine g2 _ M' H2 n' zY zZ ds[i] x _ _ R2' hx w' λzO zV R3 w3=>?_;refine b2 _ M' H2 n' zO zV { D2 with nx:=BF b wb D2 (ds.drop (i+1)),ct:=BF b wb D2 (ds.drop (i+1)),bk:=D2.nx } _ R3 ⟨λM4 H4 n4 zS zQ R4 w4=>⟨M4,n4,zS,R4,w4⟩,L.rt,λM4 H4 n4 zS zQ R4 w4=>L.nx M4 H4 n4 zS zQ R4.unpin w4,λM4 H4 n4 zS zQ R4 w4=>⟨M4,n4,zS,R4,w4⟩⟩ w3
 ·have e:i=ds.length:=by omega
  subst e;rw [hV] at w';exact .inl ⟨(y _ M' H' pr R'.dom).2 (Op _),L.nx M' H' n' zY zZ R'.unpin w'⟩
end
noncomputable def EO(b:BW)(tt:Jh)(te:DW)(P:List D->Nat->Prop):List D->List D->Nat->List Slot->Prop
 | [],acc,n,_=>P acc n
 | d::ds,acc,n,ρ=>b d ρ λzT=>tt n zT λc n1=>if c=true then te n1 zT λy n2=>EO b tt te P ds (acc++[y]) n2 zT else EO b tt te P ds acc n1 zT
noncomputable def VU:Slot->Slot
 | .ow d=>.br d
 | .lt _ d=>.br d
 | s=>s
theorem Tp(s:Slot):(VU s).owns=false:=by cases s <;> rfl
theorem Ey{js:List (Option Nat)}{ρ:List Slot}{i:Nat}{s:Slot}(h:(js.map λo=>match o with | some i=>VU ((ρ[i]?).getD .no) | none=>Slot.no)[i]?=some s):s.owns=false:=by
 rw [dX] at h;cases q:js[i]? with
 | none=>grind
 | some o =>
  rw [q] at h;cases o with
  | none =>
   rw [← dh h]; rfl
  | some j =>
   rw [← dh h]; exact Tp _
noncomputable def HX(js:List (Option Nat))(ρ:List Slot):List Slot:=js.map λo=>match o with
 | some i=>VU ((ρ[i]?).getD .no)
 | none=>.no
noncomputable def BS(js:List (Option Nat))(src:GQ)(b:BW)(tt:Jh)(te:DW):DW:=λn ρ P=>src n ρ λds n1=>ds.length<=10000000/\EO b tt te (λacc n2=>P (.lst acc) n2) ds [] n1 (HX js ρ)
noncomputable def Z0(X:Cx)(ifs:List d6)(w:Jh):Prop:=∃t,bL X ifs t/\∀(C:Fm) (M:Ch->Prop) (H:Hp) (n:Nat) (ρ:List Slot) (Z:L2.St) (P:Bool->Nat->Prop) (Q:Bool->Hp->Prop),Rel X.K C M H n ρ Z->w n ρ P ->
 (∀b H' n',Ext C.U H H'->FeedC X.K C.F M H' n'->P b n'->Q b H')->t Z H Q
noncomputable def Cf:Jh:=λn _ P=>P true n
theorem BR{X:Cx}:Z0 X [] Cf:=⟨_,Ww,λC M H n ρ Z P Q R w q=>q _ H n (Ext.refl _ _) R.feed w⟩
theorem GK{X:Cx}{c:d6}{w:Jh}(h:DT X c w):Z0 X [c] w:=by
 obtain⟨t,h1,h2⟩:=h;exact⟨t,Wv h1,h2⟩
theorem Mo{js:List (Option Nat)}{ρ:List Slot}{Z:L2.St}{i:Nat}{s:Slot}(hs:(HX js ρ)[i]?=some s):s=.no\/∃(j:Nat) (s':Slot),ρ[j]?=some s'/\s=VU s'/\((Cp js Z)[i]?).getD none=(Z[j]?).getD none:=by
 unfold HX at hs;unfold Cp;rw [dX] at hs ⊢;cases q:js[i]? with
 | none=>simp_all
 | some o =>
  rw [q] at hs;cases o with
  | none=>simp_all
  | some j =>
   have e:VU _=s:=dh hs;cases q2:ρ[j]? with
   | none=>rw [q2] at e; exact .inl e.symm
   | some s' =>
    rw [q2] at e;exact .inr ⟨j,s',q2,e.symm,rfl⟩
theorem Pc{K:Frag}{F:Option (Ch×Ch)}{U U' M M':Ch->Prop}{H H':Hp}{js:List (Option Nat)}{ρ:List Slot}{Z:L2.St}(hsl:∀(i:Nat) (s:Slot),ρ[i]?=some s->SlotOk K F U M H s ((Z[i]?).getD none))
  (pr:Pres M H M' H') (br:∀d v,AtT K U M H d v->AtT K U' M' H' d v):∀(i:Nat) (s:Slot),(HX js ρ)[i]?=some s->SlotOk K F U' M' H' s (((Cp js Z)[i]?).getD none):=by
 intro i s hs
 rcases Mo hs with rfl | ⟨j,s',q,rfl,e⟩
 ·trivial
 ·rw [e]
  have h1:=hsl j s' q;cases s' with
  | no=>trivial
  | sh d=>obtain⟨v,e1,h2⟩:=h1; exact⟨v,e1,h2.pres pr⟩
  | ex a nm ks ds=>obtain⟨e1,h2⟩:=h1; exact⟨e1,h2.pres pr⟩
  | br d=>obtain⟨v,e1,h2⟩:=h1; exact⟨v,e1,br d v h2⟩
  | fd=>exact h1
  | ow d=>obtain⟨a,e1,_,nv,t⟩:=h1; exact⟨_,e1,br d _ (t.att nv)⟩
  | lt a d=>obtain⟨e1,_,nv,t⟩:=h1; exact⟨_,e1,br d _ (t.att nv)⟩
theorem R9{K:Frag}{F:Option (Ch×Ch)}{U M:Ch->Prop}{H:Hp}{js:List (Option Nat)}{ρ:List Slot}{Z:L2.St}(hsl:∀(i:Nat) (s:Slot),ρ[i]?=some s->SlotOk K F U M H s ((Z[i]?).getD none)){i:Nat}{d:D}{a:Ch}
  (hs:(HX js ρ)[i]?=some (.br d)) (ha:((Cp js Z)[i]?).getD none=some (.ref a)):∃o,H a=some o:=by
 rcases Mo hs with z | ⟨j,s',q,z,e⟩
 ·cases z
 ·rw [e] at ha
  have h1:=hsl j s' q;rw [ha] at h1;cases s' with
  | br d=>obtain⟨v,e1,h2⟩:=h1; cases e1; exact h2.lies
  | ow d=>obtain⟨b,e1,_,nv,t⟩:=h1; cases e1; exact(t.att nv).lies
  | lt b d=>obtain⟨e1,_,nv,t⟩:=h1; cases e1; exact(t.att nv).lies
  | no=>cases z
  | sh d=>cases z
  | ex a nm ks ds=>cases z
  | fd=>cases z
section
variable {X:Cx}{zR:Kd}{tg elt iter:Expr}{ifs:List Expr}{sc:Scope}{pos:Pos}{src:GQ}{b:BW}{tt:Jh}{te:DW}
theorem Xd(hc:X.calm=true)(N':List Str)(js:List (Option Nat))(hi:Zt X tg iter src)(hg:∀cl C s H fp,DG (BA X sc N' cl C s H fp) tg b)(ht:∀cl C s H fp,Z0 (BA X sc N' cl C s H fp) ifs tt)(he:∀cl C s H fp,DE (BA X sc N' cl C s H fp) elt zR te)
  (hB:JU sc X.env.scope X.N N' js=true) (hk:autoParam (zR≠.tp) zau6._auto_1)
  (hs:autoParam (∀x,foldedSetIterable iter X.env x=pure x) zau2._auto_1):DE X (.ListComp elt [⟨tg,iter,ifs,0⟩] sc pos) .fr (BS js src b tt te):=by
 obtain⟨wi,a1,a2⟩:=hi;refine⟨_,Wz hc N' js a1 hB hs,λC M H n ρ Z P Q R w q=>?_⟩;refine a2 C M H n ρ Z _ _ R w λJ H1 ds n1 e1 f1 y w1=>?_;obtain⟨hlen,w1⟩:=w1;have R1:=R.step e1 f1;intro l hl hkl cl Ca s0 H0 fp;obtain⟨g,g1,g2⟩:=hg cl Ca s0 H0 fp;obtain⟨tc,c1,c2⟩:=ht cl Ca s0 H0 fp;obtain⟨tx,x1,x2⟩:=he cl Ca s0 H0 fp
 have noU:¬C.U l:=λz=>by
  obtain⟨o,z⟩:=R1.udom l z;rw [hl] at z; cases z
 generalize hM':(λb=>M b\/b=l)=M';have M'l:M' l:=by rw [← hM']; exact .inr rfl
 have M'of:∀b,M b->M' b:=λb z=>by rw [← hM']; exact .inl z
 have ofM':∀b,M' b->M b\/b=l:=λb z=>by rw [← hM'] at z; exact z
 have inV:∀b,C.V b\/b=l->M' b:=λb z=>z.elim (λz=>M'of b (R1.vM b z)) λz=>by rw [z]; exact M'l
 have lenj:js.length=N'.length:=Fn (CompOk.of hB).cap
 refine⟨g,tc,tx,λi m zZ H'=>m=ds.length - i/\i<=ds.length/\∃n' zY acc vs,Rel X.K ⟨M',C.F,C.U,λb=>C.V b\/b=l,H1,[],[]⟩ M' H' n' zY zZ/\H' l=some (.lst vs)/\Ats X.K M' H' acc vs/\acc.length<=i/\Pres M H1 M' H' /\
   EO b tt te (λacc n2=>P (.lst acc) n2) (ds.drop i) acc n' zY,g1,c1,x1,⟨ds.length,by simp,dY _,n1,HX js ρ,[],[],?_⟩,?_⟩
 ·have gr:Grow H1 (BD H1 l (.lst [])):=Av hl
  have pr:Pres M H1 M' (BD H1 l (.lst [])):=⟨λb o e _=>gr.all b o e,λb z=>(ofM' b z).elim .inl λz=>.inr (by rw [z]; exact hl),λb vs e=>gr.all b _ e⟩;refine⟨⟨?_,λa z=>z,λa z=>?_,gr.ext,R1.fU,λa z=>.inl (R1.uV a z),inV,f1.pres pr λf o _ e=>gr.all f.1 o e,?_,λp hp=>absurd hp (by simp),λi d a q z=>R9 R1.sl q z,λi s a q o _=>absurd o (by rw [Ey q]; decide),λi j s t a q o _ _ _ _=>absurd o (by rw [Ey q]; decide),λp hp=>absurd hp (by simp)⟩,Al,rfl,dY _,pr,w1⟩
  ·unfold HX Cp
   rw [Go,Go]
  ·rcases ofM' a z with z | z
   ·obtain⟨o,z⟩:=R1.dom a z
    exact⟨o,gr.all a o z⟩
   ·subst z
    exact⟨_,Al⟩
  ·refine Pc R1.sl pr λd v h=>h.same pr (λa o _ e=>gr.all a o e) λa e n1 z=>z.elim n1 λz=>?_
   subst e;obtain⟨o,w⟩:=h.lies;rw [z,hl] at w;cases w
 ·rintro i m zZ H' ⟨rfl,hi,n',zY,acc,vs,R',hlv,hac,hal,pr,w'⟩
  by_cases hlt:i<ds.length
  ·have ed:ds.drop i=ds[i]::ds.drop (i+1):=gB hlt
   rw [ed] at w';obtain⟨go,yl⟩:=(y i M' H' pr R'.ext R'.dom).1 ds[i] (No hlt);refine .inr ⟨go,λx H2 hy=>?_⟩;obtain⟨gr,hx⟩:=yl x H2 hy;have R2':=R'.step gr.ext (R'.feed.grow gr);refine g2 _ M' H2 n' zY zZ ds[i] x _ _ R2' hx w' λzO zV R3 w3=>?_;refine c2 _ M' H2 n' zO zV _ _ R3 w3 λc H4 n4 e4 f4 w4=>?_;have R4:=R3.step e4 f4;have p4:Pres M' H' M' H4:=gr.pres.trans (R3.pres e4);have l4:H4 l=some (.lst vs):=e4.keep (gr.all _ _ hlv) noU;cases c with
   | false=>exact⟨ds.length - (i+1),by omega,rfl,hlt,n4,zO,acc,vs,R4,l4,hac.pres p4,by omega,pr.trans p4,w4⟩
   | true =>
    refine x2 _ M' H4 n4 zO zV _ _ R4 w4 λyv H5 d5 n5 e5 f5 r5 w5=>?_;have R5:=R4.step e5 f5;have p5:Pres M' H4 M' H5:=R4.pres e5;have l5:H5 l=some (.lst vs):=e5.keep l4 noU;have hy5:=r5.shOf R4.dom hk;have a5:=(hac.pres p4).pres p5;have pu:Pres M' H5 M' (BD H5 l (.lst (vs++[yv]))):=CJ M'l l5;have hvl:vs.length=acc.length:=hac.length;refine⟨vs,l5,by rw [eK]; omega,ds.length - (i+1),by omega,rfl,hlt,n5,zO,acc++[d5],vs++[yv],?_,Al,(a5.append (Ats.one hy5)).pres pu,by rw [dZ,eC]; omega,(pr.trans p4).trans (p5.trans pu),w5⟩;refine⟨R5.len,R5.sub,λa z=>?_,λb o e=>?_,R5.fU,R5.uV,R5.vM,?_,λj s hs=>?_,λp hp=>absurd hp (by simp),R5.br0,R5.new,R5.two,λp hp=>absurd hp (by simp)⟩
    ·by_cases ha:a=l
     ·subst ha; exact⟨_,Al⟩
     ·rw [Ag ha]; exact R5.dom a z
    ·obtain⟨o',q1,q2⟩:=R5.ext b o e
     by_cases hb:b=l
     ·subst hb
      have e':H1 b=some o:=e;rw [hl] at e'; cases e'
     ·exact⟨o',by rw [Ag hb]; exact q1,q2⟩
    ·refine f5.pres pu λf o hf e=>?_
     rw [Ag (λz=>noU (by rw [← z]; exact R1.fU f hf))];exact e
    ·have hs5:=R5.sl j s hs
     cases s with
     | no=>trivial
     | sh d=>obtain⟨v,e1,h2⟩:=hs5; exact⟨v,e1,h2.pres pu⟩
     | ex a nm ks ds=>obtain⟨e1,h2⟩:=hs5; exact⟨e1,h2.pres pu⟩
     | br d =>
      obtain⟨v,e1,h2⟩:=hs5;refine⟨v,e1,h2.same pu (λa o z e=>?_) λ_ _ z=>z⟩;subst z;obtain⟨o3,w⟩:=R5.br0 j d a hs e1
      have hal:a≠l:=λz=>by
       have w':H1 a=some o3:=w;rw [z,hl] at w'; cases w'
      rw [Ag hal]; exact e
     | ow d =>
      obtain⟨a,e1,h2,_⟩:=hs5;exact absurd h2 (R5.new j _ a hs rfl e1).1
     | lt a d =>
      obtain⟨e1,h2,_⟩:=hs5;exact absurd h2 (R5.new j _ a hs rfl e1).1
     | fd=>exact hs5
  ·have e:i=ds.length:=by omega
   subst e;rw [hV] at w';refine .inl ⟨(y _ M' H' pr R'.ext R'.dom).2 (Op _),?_⟩;have eb:Ext C.U H1 H':=R'.ext;have less:Pres M' H' M H':=Pres.less M'of;refine q _ H' (.lst acc) n' (e1.trans eb) (R'.feed.pres less λ_ _ _ z=>z) (VR.back e1 ?_) w';exact⟨l,rfl,hl,vs,hlv,by rw [hM']; exact hac⟩
end
theorem S8{K:Frag}{F:Option (Ch×Ch)}{U V' M:Ch->Prop}{H:Hp}{n:Nat}{ss:List Slot}{vs:List V}{N:List Str}(h:bJ K F U V' M H n ss vs)(hl:vs.length<=N.length) :
  Rel K ⟨M,F,U,V',H,[],[]⟩ M H n (ss++Tk (N.length - ss.length) .no) (L2.start N vs):=by
 obtain⟨dom,fU,uV,vM,fd,pa⟩:=h;have el:vs.length=ss.length:=Paired.length pa
 have go:∀{vs:List V} {ss:List Slot} {i:Nat} {s:Slot},Paired (NP K F V' M H) vs ss->ss[i]?=some s->∃v,vs[i]?=some v/\NP K F V' M H v s:=by
  intro vs ss i s pa
  induction pa generalizing i with
  | nil=>intro e; simp at e
  | cons r t ih =>
   intro e;cases i with
   | zero=>simp at e; subst e; exact⟨_,rfl,r⟩
   | succ i =>
    obtain⟨v,e1,h1⟩:=ih (i:=i) (by simpa using e);exact⟨v,by simpa using e1,h1⟩
 have at_:∀(i:Nat) (s:Slot),(ss++Tk (N.length - ss.length) Slot.no)[i]?=some s->s=.no\/∃v,((L2.start N vs)[i]?).getD none=some v/\NP K F V' M H v s:=by
  intro i s hs
  by_cases hi:i<ss.length
  ·rw [gX hi] at hs
   obtain⟨v,e1,h1⟩:=go pa hs;refine .inr ⟨v,?_,h1⟩;unfold L2.start;rw [gX (by rw [Go,el]; exact hi),dX,e1];rfl
  ·rw [fA (by omega),iO] at hs
   split at hs
   ·exact .inl (dh hs).symm
   ·cases hs
 refine⟨?_,λa z=>z,dom,Ext.refl _ _,fU,uV,vM,fd,λi s hs=>?_,λp hp=>absurd hp (by simp),λi d a hs ha=>?_,λi s a hs o _=>?_,λi j s t a hs o _ _ _ _=>?_,λp hp=>absurd hp (by simp)⟩
 ·unfold L2.start
  simp only [dZ,Go,j6];omega
 ·rcases at_ i s hs with rfl | ⟨v,e,h⟩
  ·trivial
  ·rw [e]; exact h.1
 ·rcases at_ i _ hs with z | ⟨v,e,h⟩
  ·cases z
  ·rw [e] at ha
   cases ha;obtain⟨v,e1,h1⟩:=h.1;cases e1;exact h1.lies
 ·rcases at_ i s hs with rfl | ⟨v,e,h⟩
  ·cases o
  ·rw [h.2] at o; cases o
 ·rcases at_ i s hs with rfl | ⟨v,e,h⟩
  ·cases o
  ·rw [h.2] at o; cases o
theorem dD{P:eB}{w:eG}{K:Frag}{mg:Str->Option Db}{base:dg}{x qual:Str}{st:eA}{f:Ch}{fd:eY}{N ps:List Str}{k:Nat}{κ:Kd}{W:W2}{wb:Ai}(F:Fun K x qual st f fd)(S:Ad N ps (AO st))(hNp:ps.length<=N.length)
  (hb:∀(cdv:Db) (A:eX) (outer:List Env) (s:On) (H:Hp) (E:XK),Room k (A.deeper (envOfC qual (AO st) s.heap.objs.size f cdv))->UJ (MU Bw P w K mg base N qual (AO st) f cdv A outer s H E).nox κ (CK st) wb)
  (hW:∀ss n Pd,ss.length=ps.length->W ss n Pd->wb { nx:=λn _=>κ=.sh/\Pd .non n,rt:=Pd } n (ss++Tk (N.length - ps.length) .no)) :
  A4 P w K mg base Bw (k+1) f fd ps (CO K κ W ps.length):=by
 refine F.ok S (λvs H Q E h=>h.1) (λcdv A outer s H vs Q E hr h=>?_);obtain⟨hl,F0,U,V',M,n,ss,Pd,ra,hw,q⟩:=h;obtain⟨t,t1,t2⟩:=hb cdv A outer s H E hr;refine⟨t,t1,?_⟩;have el:vs.length=ss.length:=Paired.length ra.2.2.2.2.2;have R:=S8 (N:=N) ra (by omega);refine t2 ⟨M,F0,U,V',H,[],[]⟩ M H n _ _ { nx:=λn _=>κ=.sh/\Pd .non n,rt:=Pd } _ R ⟨λM1 H1 n1 zT zK R1 p=>?_,λv H1 d n1 e1 f1 r1 p=>q v H1 d n1 e1 f1 r1 p,λ_ _ _ _ _ _ z=>z.elim,λ_ _ _ _ _ _ z=>z.elim⟩ ?_
 ·obtain⟨hk,p⟩:=p
  subst hk;exact q .non H1 .non n1 R1.ext (R1.feed.pres (Pres.less R1.sub) λ_ _ _ z=>z) rfl p
 grind
end Dp
namespace L2
section
variable {X:Cx}
theorem Inv.rdl{zG:List (Ch×Obj)}{Z:L2.St}{H:Hp}{s:On}{l:Ch}{xs:List V}(I:Inv X zG Z H s)(h:Rd H l (.lst xs)):xs.length<=sizeLine/\∃(its:List Db) (n:Nat),Vals xs its/\xs.length=its.length/\s.heap.get? l=some { cls:=.type "list",data:=.seq its.toArray n }:=by
 obtain⟨z,its,n,r,e⟩:=h.ok I.hok;exact⟨z,_,n,r,r.length,e⟩
theorem W4:OpR X (binaryOp .Add) (λx y H Q=>∃l b xs zs,x=.ref l/\y=.ref b/\Rd H l (.lst xs)/\Rd H b (.lst zs)/\xs.length+zs.length<=sizeLine/\∀p,H p=none->Q (.ref p) (BD H p (.lst (xs++zs)))):=by
 intro zG s Z H x y v u Q I rx ry h;obtain⟨l,b,xs,zs,rfl,rfl,hH,hB,hz,q⟩:=h;cases rx;cases ry;obtain⟨z,its,n,r,hl,e⟩:=I.rdl hH;obtain⟨z2,its2,n2,r2,hl2,e2⟩:=I.rdl hB;refine PySem.P.add_list e e2 ?_ (by grind);have ea:its.toArray++its2.toArray=(its++its2).toArray:=by simp
 rw [ea];exact⟨.ref _,_,I.lnew (r.append r2) (by grind),rfl,q _ I.fresh⟩
end
end L2
namespace Dp
open L2
section
variable {K:Frag}
theorem AtT.int{U M:Ch->Prop}{H:Hp}{i:Int}{v:V}(h:AtT K U M H (.int i) v):v=.int i:=h
theorem AtT.bl{U M:Ch->Prop}{H:Hp}{i:Bool}{v:V}(h:AtT K U M H (.bl i) v):v=.bl i:=h
theorem AtT.str{U M:Ch->Prop}{H:Hp}{x:Str}{v:V}(h:AtT K U M H (.str x) v):v=.str x/\x.length<=sizeLine:=h
theorem AtT.tup{U M:Ch->Prop}{H:Hp}{ds:List D}{v:V}(h:AtT K U M H (.tup ds) v):∃a vs,v=.ref a/\NdT M H a vs/\Ats K M H ds vs:=h
noncomputable def bX(g:Int->Int->(D->Prop)->Prop)(d e:D)(P:D->Prop):Prop:=match d,e with
 | .int i,.int j=>g i j P
 | _,_=>False
theorem OH{g:Int->Int->(D->Prop)->Prop}{d e:D}{P:D->Prop}(w:bX g d e P):∃i j,d=.int i/\e=.int j/\g i j P:=by
 unfold bX at w
 split at w
 ·grind
 grind
noncomputable def f2(g:Int->Int->D):D->D->(D->Prop)->Prop:=bX λi j P=>P (g i j)
noncomputable def YB(C:Int->Int->Prop)(g:Int->Int->D):D->D->(D->Prop)->Prop:=bX λi j P=>C i j/\P (g i j)
theorem WI{g:Int->Int->Int}:FC K .sh (JK λi j=>.int (g i j)) (f2 λi j=>.int (g i j)):=by
 intro U M H d e x y P Q dom vM hx hy w q;obtain⟨i,j,rfl,rfl,w⟩:=OH w;exact⟨i,j,hx,hy,q _ H (.int _) .refl rfl w⟩
theorem OX{g:Int->Int->Bool}:FC K .sh (JK λi j=>.bl (g i j)) (f2 λi j=>.bl (g i j)):=by
 intro U M H d e x y P Q dom vM hx hy w q;obtain⟨i,j,rfl,rfl,w⟩:=OH w;exact⟨i,j,hx,hy,q _ H (.bl _) .refl rfl w⟩
theorem HB{C:Int->Int->Prop}{g:Int->Int->Int}:FC K .sh (rI C λi j=>.int (g i j)) (YB C λi j=>.int (g i j)):=by
 intro U M H d e x y P Q dom vM hx hy w q;obtain⟨i,j,rfl,rfl,w⟩:=OH w;exact⟨i,j,hx,hy,w.1,q _ H (.int _) .refl rfl w.2⟩
noncomputable def bW(g:Str->Str->(D->Prop)->Prop)(d e:D)(P:D->Prop):Prop:=match d,e with
 | .str i,.str j=>g i j P
 | _,_=>False
theorem SM{g:Str->Str->(D->Prop)->Prop}{d e:D}{P:D->Prop}(w:bW g d e P):∃i j,d=.str i/\e=.str j/\g i j P:=by
 unfold bW at w
 split at w
 ·grind
 grind
theorem WH{g:Str->Str->Bool}:FC K .sh (λx y H Q=>∃i j,x=.str i/\y=.str j/\Q (.bl (g i j)) H) (bW λi j P=>P (.bl (g i j))):=by
 intro U M H d e x y P Q dom vM hx hy w q;obtain⟨i,j,rfl,rfl,w⟩:=SM w;exact⟨i,j,hx.1,hy.1,q _ H (.bl _) .refl rfl w⟩
theorem UD:FC K .sh (λx y H Q=>∃i j,x=.str i/\y=.str j/\i.length+j.length<=sizeLine/\Q (.str (i++j)) H) (bW λi j P=>i.length+j.length<=sizeLine/\P (.str (i++j))):=by
 intro U M H d e x y P Q dom vM hx hy w q;obtain⟨i,j,rfl,rfl,w⟩:=SM w;exact⟨i,j,hx.1,hy.1,w.1,q _ H (.str _) .refl ⟨rfl,by rw [Str.length_append i j]; exact w.1⟩ w.2⟩
noncomputable def cO(g:List D->List D->(D->Prop)->Prop)(d e:D)(P:D->Prop):Prop:=match d,e with
 | .tup i,.tup j=>g i j P
 | _,_=>False
noncomputable def cP(g:List D->List D->(D->Prop)->Prop)(d e:D)(P:D->Prop):Prop:=match d,e with
 | .lst i,.lst j=>g i j P
 | _,_=>False
theorem XM{g:List D->List D->(D->Prop)->Prop}{d e:D}{P:D->Prop}(w:cO g d e P):∃i j,d=.tup i/\e=.tup j/\g i j P:=by
 unfold cO at w
 split at w
 ·grind
 grind
theorem XN{g:List D->List D->(D->Prop)->Prop}{d e:D}{P:D->Prop}(w:cP g d e P):∃i j,d=.lst i/\e=.lst j/\g i j P:=by
 unfold cP at w
 split at w
 ·grind
 grind
theorem C3{M:Ch->Prop}{H:Hp}{p:Ch}{vs:List V}{ds:List D}(dom:∀a,M a->∃o,H a=some o)(hp:H p=none)(h:Ats K M H ds vs):At K M (BD H p (.tup vs)) (.tup ds) (.ref p):=⟨p,vs,rfl,Al,h.pres (Av hp).pres⟩
theorem CI{U M:Ch->Prop}{H:Hp}{p:Ch}{vs:List V}{ds:List D}(hp:H p=none)(h:Ats K M H ds vs):VR K U M H (BD H p (.lst vs)) .fr (.ref p) (.lst ds) :=
 ⟨p,rfl,hp,vs,Al,h.pres (G8 hp)⟩
theorem UC:FC K .sh (U3 K) (cO λi j P=>i≠[]/\i.length+j.length<=sizeLine/\P (.tup (i++j))):=by
 intro U M H d e x y P Q dom vM hx hy w q;obtain⟨i,j,rfl,rfl,w⟩:=XM w;obtain⟨a,vs,rfl,ha,hs⟩:=hx.tup;obtain⟨b,us,rfl,hb,ht⟩:=hy.tup;have l1:=hs.length;have l2:=ht.length;refine⟨a,b,vs,us,rfl,rfl,ha.sq,hb.sq,λz=>w.1 ?_,by simp_all,λz=>?_,λz p hp=>?_⟩
 ·rw [z] at l1; exact iP.mp l1.symm
 ·rw [z] at l2
  have:j=[]:=iP.mp l2.symm
  subst this;exact q _ H (.tup i) .refl ⟨a,vs,rfl,ha,hs⟩ (by grind)
 ·exact q _ _ (.tup (i++j)) (Av hp) (C3 dom hp (hs.append ht)) w.2.2
theorem UE:FC K .fr (λx y H Q=>∃l b xs zs,x=.ref l/\y=.ref b/\Rd H l (.lst xs)/\Rd H b (.lst zs)/\xs.length+zs.length<=sizeLine/\∀p,H p=none->Q (.ref p) (BD H p (.lst (xs++zs)))) (cP λi j P=>i.length+j.length<=sizeLine/\P (.lst (i++j))):=by
 intro U M H d e x y P Q dom vM hx hy w q;obtain⟨i,j,rfl,rfl,w⟩:=XN w;obtain⟨a,vs,rfl,_,ha,hs⟩:=hx;obtain⟨b,us,rfl,_,hb,ht⟩:=hy;exact⟨a,b,vs,us,rfl,rfl,ha,hb,by rw [hs.length,ht.length]; exact w.1,λp hp=>q _ _ _ (Av hp) (CI hp (hs.append ht)) w.2⟩
noncomputable def LV(neg:Bool)(d e:D)(P:D->Prop):Prop:=match d,e with
 | .bl i,.bl j=>P (.bl (if neg then !(i==j) else i==j))
 | .int i,.int j=>P (.bl (if neg then !(i==j) else i==j))
 | .str i,.str j=>P (.bl (if neg then !(i==j) else i==j))
 | _,_=>False
theorem SO{neg:Bool}{d e:D}{P:D->Prop}(w:LV neg d e P):(∃i j,d=.bl i/\e=.bl j/\P (.bl (if neg then !(i==j) else i==j)))\/(∃i j,d=.int i/\e=.int j/\P (.bl (if neg then !(i==j) else i==j)))\/∃i j,d=.str i/\e=.str j/\P (.bl (if neg then !(i==j) else i==j)):=by
 unfold LV at w
 split at w
 ·simp_all
 ·simp_all
 ·simp_all
 grind
theorem OY:FC K .sh cm (LV false):=by
 intro U M H d e x y P Q dom vM hx hy w q
 rcases SO w with ⟨i,j,rfl,rfl,w⟩ | ⟨i,j,rfl,rfl,w⟩ | ⟨i,j,rfl,rfl,w⟩
 ·rw [hx.bl,hy.bl]; exact⟨rfl,q _ H _ .refl (by rw [OP]; rfl) w⟩
 ·rw [hx.int,hy.int]; exact⟨rfl,q _ H _ .refl (by rw [KG]; rfl) w⟩
 ·rw [hx.str.1,hy.str.1]; exact⟨rfl,q _ H _ .refl (by rw [KD]; rfl) w⟩
theorem MX:FC K .sh cf (LV true):=by
 intro U M H d e x y P Q dom vM hx hy w q
 rcases SO w with ⟨i,j,rfl,rfl,w⟩ | ⟨i,j,rfl,rfl,w⟩ | ⟨i,j,rfl,rfl,w⟩
 ·rw [hx.bl,hy.bl]; exact⟨rfl,q _ H _ .refl (by rw [OP]; rfl) w⟩
 ·rw [hx.int,hy.int]; exact⟨rfl,q _ H _ .refl (by rw [KG]; rfl) w⟩
 ·rw [hx.str.1,hy.str.1]; exact⟨rfl,q _ H _ .refl (by rw [KD]; rfl) w⟩
noncomputable def Vd:D->Bool
 | .non=>true
 | _=>false
theorem Pn{U M:Ch->Prop}{H:Hp}{d:D}{x:V}(h:AtT K U M H d x):decide (x=.non)=Vd d:=by
 cases d with
 | non=>rw [h]; rfl
 | bl b=>rw [h.bl]; rfl
 | int i=>rw [h.int]; rfl
 | str z=>rw [h.str.1]; rfl
 | tup ds=>obtain⟨a,vs,rfl,_⟩:=h.tup; rfl
 | lst ds=>obtain⟨a,vs,rfl,_⟩:=h; rfl
 | dic ks ds=>obtain⟨a,vs,rfl,_⟩:=h; rfl
 | fdi ks ds=>obtain⟨a,vs,rfl,_⟩:=h; rfl
 | dit ks ds=>obtain⟨a,vs,rfl,_⟩:=h; rfl
noncomputable def Ar(d e:D)(P:D->Prop):Prop:=match d,e with
 | .lst ds,.int i=>∃z,atI ds i=some z/\P z
 | .tup ds,.int i=>∃z,atI ds i=some z/\P z
 | .str x,.int i=>∃c,atI x.cps.toList i=some c/\P (.str ⟨#[c]⟩)
 | _,_=>False
theorem XO{d e:D}{P:D->Prop}(w:Ar d e P):(∃ds i z,d=.lst ds/\e=.int i/\atI ds i=some z/\P z)\/(∃ds i z,d=.tup ds/\e=.int i/\atI ds i=some z/\P z)\/∃x i c,d=.str x/\e=.int i/\atI x.cps.toList i=some c/\P (.str ⟨#[c]⟩):=by
 unfold Ar at w
 split at w
 ·simp_all
 ·simp_all
 ·simp_all
 grind
theorem Ats.atI{M:Ch->Prop}{H:Hp}{ds:List D}{vs:List V}{i:Int}{z:D}(h:Ats K M H ds vs)(e:atI ds i=some z):∃v,L2.atI vs i=some v/\At K M H z v:=by
 unfold L2.atI at e ⊢;rw [h.length];cases q:Vc _ i with
 | none=>grind
 | some j =>
  rw [q] at e;exact h.get e
theorem Ah:FC K .sh (ci K) Ar:=by
 intro U M H d e x y P Q dom vM hx hy w q
 rcases XO w with ⟨ds,i,z,rfl,rfl,hz,w⟩ | ⟨ds,i,z,rfl,rfl,hz,w⟩ | ⟨x,i,c,rfl,rfl,hc,w⟩
 ·obtain⟨a,vs,rfl,_,ha,hs⟩:=hx
  obtain⟨v,hv,hAt⟩:=hs.atI hz;exact .inl ⟨a,vs,i,v,rfl,hy,.inl ha,hv,q v H z .refl hAt w⟩
 ·obtain⟨a,vs,rfl,ha,hs⟩:=hx.tup
  obtain⟨v,hv,hAt⟩:=hs.atI hz;exact .inr (.inl ⟨a,vs,i,v,rfl,hy,ha.sq,hv,q v H z .refl hAt w⟩)
 ·exact .inr (.inr ⟨x,i,c,hx.str.1,hy,hx.str.2,hc,q _ H (.str _) .refl ⟨rfl,by show 1<=16777216; decide⟩ w⟩)
noncomputable def cutD{α:Type}(xs:List α)(lo hi:Option Int):List α:=(xs.drop (HT.sIx xs.length 0 lo)).take (HT.sIx xs.length xs.length hi - HT.sIx xs.length 0 lo)
theorem FF{R:V->D->Prop}{vs:List V}{d:D}(h:Paired R vs [d]):∃v,vs=[v]/\R v d:=by
 cases h with
 | cons r t=>cases t; grind
noncomputable def cC:D->Option Nat
 | .str x=>some x.length
 | .tup xs=>some xs.length
 | .lst xs=>some xs.length
 | _=>none
noncomputable def CF(ds:List D)(P:D->Prop):Prop:=∃d n,ds=[d]/\cC d=some n/\P (.int (n:Int))
theorem Bj:Dy K .sh (λxs H Q=>∃x n,xs=[x]/\Zp K x H n/\Q (.int n) H) CF:=by
 intro U M H ds vs P Q dom vM hp w q;obtain⟨d,n,rfl,hn,w⟩:=w;obtain⟨v,rfl,hx⟩:=FF hp;refine⟨v,n,rfl,?_,q _ H (.int _) .refl rfl w⟩;cases d with
 | str z=>cases hn; rw [hx.str.1]; exact⟨hx.str.2,rfl⟩
 | tup xs =>
  cases hn;obtain⟨a,us,rfl,ha,hs⟩:=hx.tup;exact .inr ⟨us,ha.sq,hs.length.symm⟩
 | lst xs =>
  cases hn;obtain⟨a,us,rfl,_,ha,hs⟩:=hx;exact .inl ⟨us,.inl ha,hs.length.symm⟩
 | _=>cases hn
noncomputable def allB:List D->Option (List Bool)
 | []=>some []
 | .bl b::r=>(allB r).map (b::·)
 | _::_=>none
theorem Sf{M:Ch->Prop}{H:Hp}:∀{ds:List D} {vs:List V} {bs:List Bool},allB ds=some bs->Ats K M H ds vs->vs=bs.map V.bl
 | [],vs,bs,e,h=>by cases e; exact h
 | .bl b::r,vs,bs,e,h=>by
  obtain⟨v,r',e1,h1,h2⟩:=h;obtain⟨bs',e2,rfl⟩:=eT.mp e;rw [e1,Sf e2 h2,h1];rfl
 | .non::r,vs,bs,e,h=>by cases e
 | .int _::r,vs,bs,e,h=>by cases e
 | .str _::r,vs,bs,e,h=>by cases e
 | .tup _::r,vs,bs,e,h=>by cases e
 | .lst _::r,vs,bs,e,h=>by cases e
 | .dic _ _::r,vs,bs,e,h=>by cases e
 | .fdi _ _::r,vs,bs,e,h=>by cases e
 | .dit _ _::r,vs,bs,e,h=>by cases e
noncomputable def Fk(ds:List D)(P:D->Prop):Prop:=∃xs bs,ds=[.lst xs]/\allB xs=some bs/\P (.bl (bs.all id))
theorem F1:Dy K .sh (λxs H Q=>∃(p:Ch) (bs:List Bool),xs=[.ref p]/\SqL K H p (bs.map V.bl)/\Q (.bl (bs.all id)) H) Fk:=by
 intro U M H ds vs P Q dom vM hp w q;obtain⟨xs,bs,rfl,e,w⟩:=w;obtain⟨v,rfl,hx⟩:=FF hp;obtain⟨a,us,rfl,_,ha,hs⟩:=hx
 have:=Sf e hs
 subst this;exact⟨a,bs,rfl,.inl ha,q _ H (.bl _) .refl rfl w⟩
noncomputable def RP:List D->Option (List Str)
 | []=>some []
 | .str b::r=>(RP r).map (b::·)
 | _::_=>none
theorem Sd{M:Ch->Prop}{H:Hp}:∀{ds:List D} {vs:List V} {bs:List Str},RP ds=some bs->Ats K M H ds vs->vs=bs.map V.str
 | [],vs,bs,e,h=>by cases e; exact h
 | .str b::r,vs,bs,e,h=>by
  obtain⟨v,r',e1,h1,h2⟩:=h;obtain⟨bs',e2,rfl⟩:=eT.mp e;rw [e1,Sd e2 h2,h1.1];rfl
 | .non::r,vs,bs,e,h=>by cases e
 | .int _::r,vs,bs,e,h=>by cases e
 | .bl _::r,vs,bs,e,h=>by cases e
 | .tup _::r,vs,bs,e,h=>by cases e
 | .lst _::r,vs,bs,e,h=>by cases e
 | .dic _ _::r,vs,bs,e,h=>by cases e
 | .fdi _ _::r,vs,bs,e,h=>by cases e
 | .dit _ _::r,vs,bs,e,h=>by cases e
noncomputable def OG(ds:List D)(P:D->Prop):Prop:=match ds with
 | [.lst xs]=>P (.lst xs)
 | [.tup xs]=>P (.lst xs)
 | _=>False
theorem Sj:Dy K .fr (λxs H Q=>∃p ys,xs=[.ref p]/\(SqL K H p ys\/SqT K H p ys)/\∀l,H l=none->Q (.ref l) (BD H l (.lst ys))) OG:=by
 intro U M H ds vs P Q dom vM hp w q;unfold OG at w
 split at w
 ·obtain⟨v,rfl,hx⟩:=FF hp
  obtain⟨a,us,rfl,_,ha,hs⟩:=hx;exact⟨a,us,rfl,.inl (.inl ha),λl hl=>q _ _ _ (Av hl) (CI hl hs) w⟩
 ·obtain⟨v,rfl,hx⟩:=FF hp
  obtain⟨a,us,rfl,ha,hs⟩:=hx.tup;exact⟨a,us,rfl,.inr ha.sq,λl hl=>q _ _ _ (Av hl) (CI hl hs) w⟩
 grind
end
noncomputable def bR:D->String
 | .non => "NoneType"
 | .bl _ => "bool"
 | .int _ => "int"
 | .str _ => "str"
 | .tup _ => "tuple"
 | .lst _ => "list"
 | .dic _ _ => "dict"
 | .fdi _ _ => "dict"
 | .dit _ _ => "dict"
noncomputable def ag(t T:String):Bool:=t==T||(t == "bool"&&T == "int")
noncomputable def Dk(T:String)(wa:DW):DW:=λn ρ P=>wa n ρ λd n1=>P (.bl (ag (bR d) T)) n1
structure WR (K:Frag) (T:String):Prop where
 ans:∀t∈["NoneType","bool","int","str","tuple","list","dict"],PySem.W.kitOne K (.type t) (.type T)=some (ag t T)
theorem Wc{K:Frag}{M U:Ch->Prop}{H:Hp}{d:D}{x:V}(h:AtT K U M H d x):HG K H x (.type (bR d)):=by
 cases d with
 | non=>cases (h); exact .non
 | bl b=>cases h.bl; exact .bl b
 | int i=>cases h.int; exact .int i
 | str z=>cases h.str.1; exact .str z
 | tup ds =>
  obtain⟨a,vs,rfl,ha,hs⟩:=h.tup;exact .tup ha
 | lst ds =>
  obtain⟨a,vs,rfl,_,ha,hs⟩:=h
  rcases ha with ha | ⟨o,ha⟩
  ·exact .lst ha
  ·exact .frz ha
 | dic ks ds =>
  obtain⟨a,vs,rfl,_,ha,_⟩:=h;exact .dK ha
 | fdi ks ds =>
  obtain⟨a,vs,rfl,⟨o,_,ha⟩,_⟩:=h;exact .dF ha
 | dit ks ds =>
  obtain⟨a,vs,rfl,_,ha,_⟩:=h;exact .dT ha
theorem Wd(d:D):bR d∈["NoneType","bool","int","str","tuple","list","dict"]:=by cases d <;> simp [bR]
theorem Bc{X:Cx}{a:d6}{κ:Kd}{wa:DW}{T:String}{Tn:Str}{p p2 pos:Pos}(kt:WR X.K T)(ha:DE X a κ wa)(hg:Gl X "isinstance")(hm:X.mg "isinstance"=none)(hgT:Gl X Tn)(hmT:X.mg Tn=none)(hvT:bootBuiltins Tn=some (.type T))
  (hnT:autoParam (Tn ≠ "__name__") zau1._auto_1) (hdT:autoParam ((Tn==("__debug__":Str))=false) zau1._auto_1)
  (he:autoParam (starEach [a,.Name Tn p2] X.env=(false,eval a X.env)::starEach [.Name Tn p2] X.env) zau3._auto_1) (he2:autoParam (starEach [.Name Tn p2] X.env=[(false,eval (.Name Tn p2) X.env)]) zau3._auto_1)
  (hpl:autoParam ((backTo pos (starEach [.Name Tn p2] X.env)).any (·.1)=false) zau3._auto_1):DE X (.Call (.Name "isinstance" p) [a,.Name Tn p2] [] pos) .sh (Dk T wa):=by
 obtain⟨t,h1,h2⟩:=ha;have pT:PE X (.Name Tn p2) (tC (.ty T)):=W1 hgT hmT hvT rfl hnT hdT;exact⟨_,HN P7 hg hm (by decide +kernel) (Bl h1 (Bl pT CW he2) he) (by decide) (by decide) he hpl,λC M H n ρ Z P Q R w q=>h2 C M H n ρ Z _ _ R w λv H1 d n1 e1 f1 r1 p=>⟨v,T,_,_,rfl,Wc (r1.tpOf R.dom R.vM),kt.ans _ (Wd d),q _ H1 (.bl _) n1 e1 f1 rfl p⟩⟩
section
variable {K:Frag}{X:Cx}
noncomputable def YA(d e:D)(P:D->Prop):Prop:=match d,e with
 | .int i,.int j=>P (.int (i+j))
 | .str i,.str j=>i.length+j.length<=sizeLine/\P (.str (i++j))
 | .tup i,.tup j=>i≠[]/\i.length+j.length<=sizeLine/\P (.tup (i++j))
 | .lst i,.lst j=>i.length+j.length<=sizeLine/\P (.lst (i++j))
 | _,_=>False
noncomputable def aW:R2:=λx y H Q=>∃l b xs zs,x=.ref l/\y=.ref b/\Rd H l (.lst xs)/\Rd H b (.lst zs)/\xs.length+zs.length<=sizeLine/\∀p,H p=none->Q (.ref p) (BD H p (.lst (xs++zs)))
noncomputable def aV:R2:=λx y H Q=>∃i j,x=.str i/\y=.str j/\i.length+j.length<=sizeLine/\Q (.str (i++j)) H
noncomputable def Xy(g:Str->Str->Bool):R2:=λx y H Q=>∃i j,x=.str i/\y=.str j/\Q (.bl (g i j)) H
noncomputable def U4(K:Frag):R2:=λx y H Q=>(JK λi j=>.int (i+j)) x y H Q\/aV x y H Q\/U3 K x y H Q\/aW x y H Q
theorem op_addU:OpR X (binaryOp .Add) (U4 X.K):=op_add.or ((Qx).or (op_catT.or (W4)))
theorem OZ:FC X.K .sh (U4 X.K) YA:=λU M H d e x y P Q dom vM hx hy w q=>by
 unfold YA at w
 split at w
 ·exact .inl (WI U M H _ _ x y P Q dom vM hx hy w q)
 ·exact .inr (.inl (UD U M H _ _ x y P Q dom vM hx hy w q))
 ·exact .inr (.inr (.inl (UC U M H _ _ x y P Q dom vM hx hy w q)))
 ·exact .inr (.inr (.inr (UE U M H _ _ x y P Q dom vM hx hy w λv H' z g r p=>q v H' z g (r.shOf dom (by grind)) p)))
 grind
noncomputable def ax(d e:D)(P:D->Prop):Prop:=match d,e with
 | .int i,.int j=>P (.bl (decide (i<j)))
 | .str i,.str j=>P (.bl (decide (i.cps.toList<j.cps.toList)))
 | _,_=>False
noncomputable def Yo:R2:=λx y H Q=>(JK λi j=>.bl (decide (i<j))) x y H Q\/Xy (λi j=>decide (i.cps.toList<j.cps.toList)) x y H Q
theorem op_ltU:OpR X (compareOp .Lt) Yo:=op_lt.or TX
theorem YH:FC X.K .sh Yo ax:=λU M H d e x y P Q dom vM hx hy w q=>by
 unfold ax at w
 split at w
 ·exact .inl (OX U M H _ _ x y P Q dom vM hx hy w q)
 ·exact .inr (WH U M H _ _ x y P Q dom vM hx hy w q)
 grind
noncomputable def Pu(d e:D)(P:D->Prop):Prop:=match d,e with
 | .int i,.int j=>P (.bl (decide (i<=j)))
 | .str i,.str j=>P (.bl (!(decide (j.cps.toList<i.cps.toList))))
 | _,_=>False
noncomputable def aN:R2:=λx y H Q=>(JK λi j=>.bl (decide (i<=j))) x y H Q\/Xy (λi j=>!(decide (j.cps.toList<i.cps.toList))) x y H Q
theorem K8:OpR X (compareOp .LtE) aN:=op_le.or TY
theorem QI:FC X.K .sh aN Pu:=λU M H d e x y P Q dom vM hx hy w q=>by
 unfold Pu at w
 split at w
 ·exact .inl (OX U M H _ _ x y P Q dom vM hx hy w q)
 ·exact .inr (WH U M H _ _ x y P Q dom vM hx hy w q)
 grind
noncomputable def aR:R2:=JK λi j=>.bl (decide (j<i))
theorem Y7:OpR X (compareOp .Gt) aR:=X7
theorem bF:FC X.K .sh aR (f2 λi j=>.bl (decide (j<i))):=OX
noncomputable def aS:R2:=JK λi j=>.bl (decide (j<=i))
theorem VN:OpR X (compareOp .GtE) aS:=X8
theorem YI:FC X.K .sh aS (f2 λi j=>.bl (decide (j<=i))):=OX
noncomputable def aG:V->Option Int->Option Int->Hp->VK->Prop:=λx lo hi H Q=>∃z,x=.str z/\z.length<=sizeLine/\Q (.str (Txt.slice z lo hi)) H
theorem sl_U:SlR X aG:=Yh
noncomputable def Wa(w:DW):DW:=λn ρ P=>w n ρ λd n1=>∃i,d=.int i/\P (.int (-i)) n1
theorem RF{a:d6}{κ:Kd}{wa:DW}{pos:Pos}(h:DE X a κ wa):DE X (.UnaryOp .USub a pos) .sh (Wa wa):=by
 obtain⟨t,h1,h2⟩:=h;refine⟨_,aY YW h1,λC M H n ρ Z P Q R w q=>?_⟩;refine h2 C M H n ρ Z _ _ R w λv H1 d n1 e1 f1 r1 p=>?_;obtain⟨i,rfl,p⟩:=p;exact⟨i,Iz r1,q _ H1 (.int _) n1 e1 f1 rfl p⟩
noncomputable def Got(P:eB)(w:eG)(K:Frag)(mg:Str->Option Db)(base:dg)(x:Str)(k:Nat)(ps:List Str)(κ:Kd)(W:W2):Prop :=
 ∃f fd,A4 P w K mg base Bw k f fd ps (CO K κ W ps.length)/\mg x=some (.ref f)/\keepIn K (.ref f)=true/\Binds K fd ps []/\∀ss n P,W ss n P->ss.length=ps.length
theorem V6{e:d6}{es:List d6}{k:Nat}{ps:List Str}{κ:Kd}{W:W2}{x:Str}{p pos:Pos}{was:YK}(G:Got X.prog X.w X.K X.mg X.base x k ps κ W)
  (hr:Room k X.A) (hg:Gl X x) (ha:Z1 X (e::es) was)
  (hdb:autoParam ((x==("__debug__":Str))=false) zau1._auto_1) (he:autoParam (starEach (e::es) X.env=(false,eval e X.env)::starEach es X.env) zau3._auto_1) (hpl:autoParam ((backTo pos (starEach es X.env)).any (·.1)=false) zau3._auto_1) :
  DE X (.Call (.Name x p) (e::es) [] pos) κ (AU W was):=by
 obtain⟨f,fd,G,hm,hk,hb,hW⟩:=G;exact Xe G hW hr hg hm hk hb ha hdb he hpl
noncomputable def X5(np:Nat)(g:List D->D):W2:=λss n P=>∃ds:List D,ds.length=np/\ss=ds.map .sh/\P (g ds) n
theorem Mi{np:Nat}{g:List D->D}{ss:List Slot}{n:Nat}{P:D->Nat->Prop}(h:X5 np g ss n P):ss.length=np:=by
 obtain⟨ds,e,rfl,_⟩:=h
 grind
theorem SD:WR K "int":=⟨λt ht=>by
 simp at ht
 rcases ht with rfl | rfl | rfl | rfl | rfl | rfl | rfl <;> kernel_rfl⟩
theorem Pj:WR K "bool":=⟨λt ht=>by
 simp at ht
 rcases ht with rfl | rfl | rfl | rfl | rfl | rfl | rfl <;> kernel_rfl⟩
theorem J6:WR K "str":=⟨λt ht=>by
 simp at ht
 rcases ht with rfl | rfl | rfl | rfl | rfl | rfl | rfl <;> kernel_rfl⟩
theorem kit_tuple:WR K "tuple":=⟨λt ht=>by
 simp at ht
 rcases ht with rfl | rfl | rfl | rfl | rfl | rfl | rfl <;> kernel_rfl⟩
end
theorem Hx{α:Type}(p:α->Bool):∀l:List α,allB (l.map λc=>.bl (p c))=some (l.map p)
 | []=>rfl
 | a::l=>by
  rw [eR];unfold allB;rw [Hx p l];rfl
theorem WA{b1 b2:Bool}{P:D->Nat->Prop}{n:Nat}{k:(D->Nat->Prop)->Prop}(hk:b1=true->P (.bl b2) n->k P)(h:P (.bl (b1&&b2)) n):(match (.bl b1:D) with | .bl true=>k P | .bl false=>P (.bl false) n | _=>False):=by
 cases b1 with
 | false=>exact h
 | true=>grind
theorem ZQ{P:eB}{w:eG}{K:Frag}{mg:Str->Option Db}{base:dg}{x:Str}{st:eA}{f:Ch}{fd:eY}{k:Nat}{ps:List Str}{κ:Kd}{W:W2}(F:Fun K x x st f fd)(m:mg x=some (.ref f))(b:Binds K fd ps [])
  (hW:∀ss n P,W ss n P->ss.length=ps.length) (ok:A4 P w K mg base Bw k f fd ps (CO K κ W ps.length)):Got P w K mg base x k ps κ W:=⟨f,fd,ok,m,F.kp,b,hW⟩
noncomputable def Ow(K:Frag):Sp:=λvs H Q _=>∃a ns,vs=[V.ref a]/\(iR (α:=Int) ns<=63/\SqL K H a (ns.map V.int))/\∀H',Q (.bl true) H'
noncomputable def NV(K:Frag):Sp:=λvs H Q _=>∃a ns,vs=[V.ref a]/\(iR (α:=Int) ns<=63/\SqL K H a (ns.map V.int)) /\
 ∀(c f:Ch) (H':Hp),c≠f->H' c=some (.lst (ns.map V.int))->H' f=some (.lst [.ref c,.int 0,.int 0])->Q (.ref f) H'
theorem bA{ns:List Int}(h:ns.length<=63):P1 (ns.map V.int) none (some 63)=ns.map V.int:=by
 have e:HT.sIx (ns.map V.int).length (ns.map V.int).length (some 63)=ns.length:=by
  rw [show (63:Int)=(63:Nat) from rfl,HT.sIx_nat,Go,Nat.min_eq_right h]
 unfold P1;rw [HT.sIx_none]
 grind
theorem Mn{b:BW}{body:Ai}{D2:E2}(I:Nat->Nat->List Slot->Prop)(hend:∀n ρ,I 0 n ρ->D2.nx n ρ)
  (hstep:∀(k:Nat) (d:D) (n:Nat) (ρ:List Slot) (nx:Nat->List Slot->Prop),I (k+1) n ρ->(∀n' zY,I k n' zY->nx n' zY)->b d ρ λzT=>body { D2 with nx:=nx,ct:=nx,bk:=D2.nx } n zT) :
  ∀(ds:List D) (n:Nat) (ρ:List Slot),I ds.length n ρ->BF b body D2 ds n ρ
 | [],n,ρ,h=>hend n ρ h
 | d::ds,n,ρ,h=>hstep _ d n ρ _ h λn' zY h'=>Mn I hend hstep ds n' _ h'
theorem aq{P:eB}{w:eG}{K:Frag}{mg:Str->Option Db}{base:dg}{st s1:eA}{rest:List eA}{f:Ch}{fd:eY}{Nr:List Str}{k n0:Nat}{wb:Ai}(F:Fun K "law" "law" st f fd)
  (S:Ad ("_law_script" :: "_law_feed_here"::Nr) ["_law_script"] (AO st)) (hbd:CK st=s1::rest) (hn0:n0<=2 ^ 60)
  (h1:∀(cdv:Db) (A:eX) (outer:List Env) (s:On) (H:Hp) (E:XK),Room k (A.deeper (envOfC "law" (AO st) s.heap.objs.size f cdv)) ->
   PS (MU Bw P w K mg base ("_law_script" :: "_law_feed_here"::Nr) "law" (AO st) f cdv A outer s H E).nox s1 (Ot (Ub (NV K) [] E0 (Rj (B3 0) Wi)) (JP 1)))
  (h2:∀(cdv:Db) (A:eX) (outer:List Env) (s:On) (H:Hp) (E:XK),Room k (A.deeper (envOfC "law" (AO st) s.heap.objs.size f cdv)) ->
   UJ (MU Bw P w K mg base ("_law_script" :: "_law_feed_here"::Nr) "law" (AO st) f cdv A outer s H E).nox .sh rest wb)
  (hW:wb { nx:=λ_ _=>False,rt:=λd _=>d=.bl true } n0 (.no::.fd::Tk Nr.length .no)):A4 P w K mg base Bw (k+1) f fd ["_law_script"] (Ow K):=by
 refine F.ok S (λvs H Q E h=>?_) (λcdv A outer s H vs Q E hr h=>?_)
 ·obtain⟨a,ns,rfl,_⟩:=h
  rfl
 ·obtain⟨a,ns,rfl,⟨hl,hS⟩,q⟩:=h
  obtain⟨t,t1,t2⟩:=h2 cdv A outer s H E hr;refine⟨S1 (Ot (Ub (NV K) [] E0 (Rj (B3 0) Wi)) (JP 1)) t,by rw [hbd]; exact BV (h1 cdv A outer s H E hr) t1,?_⟩;refine⟨_,rfl,a,ns,rfl,⟨hl,hS⟩,λc g H' hcg hc hg=>?_⟩
  have at_:∀(i:Nat) (sl:Slot),(Slot.no::Slot.fd::Tk Nr.length Slot.no)[i]?=some sl->Slot.no=sl\/(Slot.fd=sl/\i=1):=by
   intro i sl hs
   match i,hs with
   | 0,hs=>exact .inl (dh hs)
   | 1,hs=>exact .inr ⟨dh hs,rfl⟩
   | i+2,hs =>
    rw [jp,jp,iO] at hs
    split at hs
    ·exact .inl (dh hs)
    ·cases hs
  have R:Rel K ⟨λb=>b=g,some (g,c),λb=>b=g,λb=>b=g,H',[],[]⟩ (λb=>b=g) H' n0 (.no::.fd::Tk Nr.length .no) ((start ("_law_script" :: "_law_feed_here"::Nr) [V.ref a]).set 1 (some (.ref g))):=by
   refine⟨by simp [L2.start],λ_ z=>z,λb z=>⟨_,(congrArg H' z).trans hg⟩,Ext.refl _ _,λb z=>by rw [← dh z],λ_ z=>z,λ_ z=>z,λb z=>?_,λi sl hs=>?_,λp hp=>absurd hp (by simp),λi d b hs _=>?_,λi sl b hs o _=>?_,λi j sl t b hs o _ _ _ _=>?_,λp hp=>absurd hp (by simp)⟩
   ·have e:(g,c)=b:=dh z
    subst e;exact⟨0,0,ns,hg,hcg,⟨hcg,hc⟩,hl,by decide,by omega⟩
   ·rcases at_ i sl hs with e | ⟨e,rfl⟩
    ·rw [← e]; trivial
    ·rw [← e]
     exact⟨(g,c),by simp [L2.start],rfl⟩
   ·rcases at_ i _ hs with e | ⟨e,_⟩ <;> cases e
   ·rcases at_ i sl hs with e | ⟨e,_⟩ <;> (rw [← e] at o; cases o)
   ·rcases at_ i sl hs with e | ⟨e,_⟩ <;> (rw [← e] at o; cases o)
  refine t2 _ _ H' n0 _ _ { nx:=λ_ _=>False,rt:=λd _=>d=.bl true } _ R ⟨λ_ _ _ _ _ _ z=>z.elim,λv H2 d n' _ _ r p=>?_,λ_ _ _ _ _ _ z=>z.elim,λ_ _ _ _ _ _ z=>z.elim⟩ hW;have e:d=.bl true:=p;subst e;have e2:v=.bl true:=r;subst e2;exact q H2
end Dp
namespace L2
section
variable {X:Cx}
theorem CS:∀{us:List Db} {ys:List Str},StrsAre us ys->Vals (ys.map V.str) us
 | _,_,.nil=>.nil
 | _,_,.cons x t r=>.cons ⟨t,rfl⟩ (CS r)
noncomputable def Uy(K:Frag):List V->Hp->VK->Prop:=λxs H Q=>∃(p:Ch) (ss:List Str),xs=[.ref p]/\SqL K H p (ss.map V.str)/\ss.length<64/\∀(ss':List Str) (l:Ch),ss'.Perm ss->sortedS ss'=true->H l=none->Q (.ref l) (BD H l (.lst (ss'.map V.str)))
theorem RJ:DC X (.builtin "sorted") (Uy X.K):=by
 intro zG s Z H xs us Q I r h;obtain⟨p,ss,rfl,hq,h64,q⟩:=h;obtain⟨u,rfl,rx⟩:=vals1 r;cases rx;obtain⟨its,r',pl,hz⟩:=I.list hq;have hlen:=r'.length;rw [Go] at hlen;refine sorted_strs pl.isList (Kb r') (by omega) λout ss' a1 a2 a3=>?_;obtain⟨e,he⟩:=sortedAll_at _ _ _;have hl':=a2.length_eq;have hn:=I.hok.fresh (fm _);refine⟨.ref _,_,I.laid (λb o z=>sortedAll_old z) (fm _) (show ObjOk _ _ _ _ _ (.lst _) from⟨?_,_,e,CS a1,?_⟩),rfl,q _ _ a2 a3 hn⟩
 ·grind
 ·exact he
noncomputable def X1:R2:=λx y H Q=>∃z k,x=.str z/\y=.int k/\MulOk z k/\Q (.str (Txt.mul z k)) H
theorem W3:OpR X (binaryOp .Mult) X1:=by
 intro zG s Z H x y v u Q I rx ry h;obtain⟨z,k,rfl,rfl,hm,q⟩:=h;obtain⟨t,rfl⟩:=rx;obtain⟨t',rfl⟩:=ry;exact SB.mul hm λt' k=>⟨.str _,H,I.tok _,⟨_,rfl⟩,q⟩
end
end L2
namespace Dp
open L2
section
variable {K:Frag}
noncomputable def Bm(ds:List D)(P:D->Prop):Prop:=match ds with
 | [.lst xs]=>P (.tup xs)
 | [.tup xs]=>P (.tup xs)
 | _=>False
theorem Cb:Dy K .sh (λxs H Q=>∃p ys,xs=[.ref p]/\((SqL K H p ys/\∀l,H l=none->Q (.ref l) (BD H l (.tup ys)))\/(SqT K H p ys/\Q (.ref p) H))) Bm:=by
 intro U M H ds vs P Q dom vM hp w q;unfold Bm at w
 split at w
 ·obtain⟨v,rfl,hx⟩:=FF hp
  obtain⟨a,us,rfl,_,ha,hs⟩:=hx;exact⟨a,us,rfl,.inl ⟨.inl ha,λl hl=>q _ _ (.tup _) (Av hl) (C3 dom hl hs) w⟩⟩
 ·obtain⟨v,rfl,hx⟩:=FF hp
  obtain⟨a,us,rfl,ha,hs⟩:=hx.tup;exact⟨a,us,rfl,.inr ⟨ha.sq,q _ H (.tup _) .refl ⟨a,us,rfl,ha,hs⟩ w⟩⟩
 grind
theorem Ats.strs{M:Ch->Prop}{H:Hp}:∀{ss:List Str},(∀x∈ss,x.length<=sizeLine)->Ats K M H (ss.map D.str) (ss.map V.str)
 | [],_=>rfl
 | x::r,h=>⟨_,_,rfl,⟨rfl,h x Re⟩,Ats.strs λy hy=>h y (Sc _ hy)⟩
theorem Ats.strs_le{M:Ch->Prop}{H:Hp}:∀{ss:List Str} {vs:List V},Ats K M H (ss.map D.str) vs->∀x∈ss,x.length<=sizeLine
 | [],_,_=>λx hx=>by cases hx
 | y::r,vs,h=>λx hx=>by
  obtain⟨v,t,e,h1,h2⟩:=h
  rcases ZB.mp hx with rfl | hx
  ·exact h1.2
  ·exact Ats.strs_le h2 x hx
noncomputable def Vq(ds:List D)(P:D->Prop):Prop:=∃(xs:List D) (ss:List Str),ds=[.lst xs]/\RP xs=some ss/\ss.length<64/\∀ss':List Str,ss'.Perm ss->sortedS ss'=true->P (.lst (ss'.map .str))
theorem Se:∀{xs:List D} {ss:List Str},RP xs=some ss->xs=ss.map .str
 | [],ss,h=>by cases h; rfl
 | .str b::r,ss,h=>by
  obtain⟨t,e,rfl⟩:=eT.mp h;rw [eR,← Se e]
 | .non::r,ss,h=>by cases h
 | .int _::r,ss,h=>by cases h
 | .bl _::r,ss,h=>by cases h
 | .tup _::r,ss,h=>by cases h
 | .lst _::r,ss,h=>by cases h
 | .dic _ _::r,ss,h=>by cases h
 | .fdi _ _::r,ss,h=>by cases h
 | .dit _ _::r,ss,h=>by cases h
theorem Xl:Dy K .fr (Uy K) Vq:=by
 intro U M H ds vs P Q dom vM hp w q;obtain⟨xs,ss,rfl,e,h64,w⟩:=w;obtain⟨v,rfl,hx⟩:=FF hp;obtain⟨a,us,rfl,_,ha,hs⟩:=hx
 have:=Sd e hs
 subst this;have e2:=Se e;subst e2;exact⟨a,ss,rfl,.inl ha,h64,λss' l h1 h2 hl=>q _ _ _ (Av hl) (CI hl (Ats.strs λx hx=>hs.strs_le x (h1.mem_iff.mp hx))) (w _ h1 h2)⟩
noncomputable def LU(d e:D)(P:D->Prop):Prop:=match d,e with
 | .int i,.int j=>CMul i j/\P (.int (i*j))
 | .str z,.int k=>MulOk z k/\(Txt.mul z k).length<=sizeLine/\P (.str (Txt.mul z k))
 | _,_=>False
noncomputable def X2:R2:=λx y H Q=>(rI CMul λi j=>.int (i*j)) x y H Q\/X1 x y H Q
theorem HQ{X:Cx}:OpR X (binaryOp .Mult) X2:=op_mul.or W3
theorem Ll:FC K .sh X2 LU:=λU M H d e x y P Q dom vM hx hy w q=>by
 unfold LU at w
 split at w
 ·exact .inl (HB U M H _ _ x y P Q dom vM hx hy w q)
 ·rename_i z k
  exact .inr ⟨z,k,hx.1,hy,w.1,q _ H (.str _) .refl ⟨rfl,w.2.1⟩ w.2.2⟩
 grind
end
section
variable {X:Cx}{tg e:Expr}{es:List Expr}{p pos:Pos}
noncomputable def be(X:Cx)(ts:List d6)(b:List D->List Slot->(List Slot->Prop)->Prop):Prop:=∃g,bM X ts g/\∀(C:Fm) (M:Ch->Prop) (H:Hp) (n:Nat) (ρ:List Slot) (Z:L2.St) (ds:List D) (vs:List V) (P:List Slot->Prop) (Q:L2.St->Hp->Prop),Rel X.K C M H n ρ Z->Ats X.K M H ds vs->b ds ρ P ->
 (∀zY zZ,Rel X.K C M H n zY zZ->P zY->Q zZ H)->g vs Z H Q
noncomputable def BB:List D->List Slot->(List Slot->Prop)->Prop:=λds ρ P=>ds=[]/\P ρ
noncomputable def AX(b:BW)(bs:List D->List Slot->(List Slot->Prop)->Prop):List D->List Slot->(List Slot->Prop)->Prop:=λds ρ P=>match ds with
 | d::r=>b d ρ λzT=>bs r zT P
 | []=>False
theorem BI:be X [] BB:=⟨_,Ry,λC M H n ρ Z ds vs P Q R h w q=>by
 obtain⟨rfl,w⟩:=w;exact⟨h,q ρ Z R w⟩⟩
theorem Ae{b:BW}{bs:List D->List Slot->(List Slot->Prop)->Prop}(h1:DG X e b)(h2:be X es bs)(hs:autoParam ((assignEach (e::es) X.env).map (·.2)=assign e X.env::(assignEach es X.env).map (·.2)) zau3._auto_1):be X (e::es) (AX b bs):=by
 obtain⟨g,a1,a2⟩:=h1;obtain⟨g',b1,b2⟩:=h2;refine⟨_,HL a1 b1 hs,λC M H n ρ Z ds vs P Q R h w q=>?_⟩;cases ds with
 | nil=>exact w.elim
 | cons d r =>
  obtain⟨v,vr,e,hv,hr⟩:=h;exact⟨v,vr,e,a2 C M H n ρ Z d v _ _ R hv w λzY zZ R' w'=>b2 C M H n _ _ r vr _ _ R' hr w' q⟩
noncomputable def Bi(k:Nat)(bs:List D->List Slot->(List Slot->Prop)->Prop):BW:=λd ρ P=>match d with
 | .tup ds=>ds.length=k/\bs ds ρ P
 | _=>False
theorem Bb{bs:List D->List Slot->(List Slot->Prop)->Prop}{k:Nat}{j:Nat}(hc:X.calm=true)(h:be X es bs)(hn:autoParam ((assignEach es X.env).length=k) zau3._auto_1)(hst:autoParam ((assignEach es X.env).findIdx? (·.1)=none) zau3._auto_1):DG X (.Tuple es j pos) (Bi k bs):=by
 obtain⟨g,a1,a2⟩:=h;refine⟨_,VF hc a1 hn hst,λC M H n ρ Z d v P Q R h w q=>?_⟩;cases d with
 | tup ds =>
  obtain⟨a,vs,rfl,hq,hs⟩:=h;exact⟨a,vs,rfl,hq.sq,by rw [hs.length]; exact w.1,a2 C M H n ρ Z ds vs P Q R hs w.2 q⟩
 | _=>exact w.elim
noncomputable def YV(wa:DW)(b:BW):Ai:=λD2 n ρ=>wa n ρ λd n1=>b d ρ λzT=>D2.nx n1 zT
theorem Vy{κ zR:Kd}{wa:DW}{b:BW}(he:DE X e zR wa)(hg:DG X tg b)(hk:autoParam (zR≠.tp) zau6._auto_1)(hs:autoParam (swapsWithSole [tg] e pos.line X.env=pure false) zau3._auto_1)(hw:autoParam (swappedStores [tg] e X.env=pure none) zau3._auto_1)
  (h1:autoParam ((assignEach [tg] X.env).map (·.2)=[assign tg X.env]) zau3._auto_1):DS X κ (.Assign [tg] e pos) (YV wa b):=by
 obtain⟨t,a1,a2⟩:=he;obtain⟨g,g1,g2⟩:=hg;exact⟨_,K4 a1 g1 hs hw h1,λC M H n ρ Z D2 E R L w=>a2 C M H n ρ Z _ _ R w λv H' d n' e1 f1 r1 p=>g2 C M H' n' ρ Z d v _ _ (R.step e1 f1) (r1.shOf R.dom hk) p λzY zZ R' w'=>L.nx M H' n' _ _ R' w'⟩
end
end Dp
namespace L2
mutual
noncomputable def RV(H:Hp):iH->V->Prop
 | .none,v=>v=.non
 | .bool b,v=>v=.bl b
 | .int i,v=>v=.int i
 | .str x,v=>v=.str x
 | .tuple xs,v=>∃a vs,v=.ref a/\H a=some (.tup vs)/\RVs H xs vs
 | .list xs,v=>∃a vs,v=.ref a/\Rd H a (.lst vs)/\RVs H xs vs
 | .dict _,_=>False
noncomputable def RVs(H:Hp):List iH->List V->Prop
 | [],vs=>vs=[]
 | x::xs,vs=>∃v r,vs=v::r/\RV H x v/\RVs H xs r
end
section
variable {X:Cx}{zG:List (Addr×Obj)}{Z:L2.St}{H:Hp}{s:Shared}
mutual
theorem RV.reads(I:Inv X zG Z H s):∀{d:iH} {v:V} {u:Db},RV H d v->RelV v u->∃as,Reads s.heap u d as
 | .none,v,u,h,r=>by
  cases (show v=.non from h);cases (show u=eS from r);exact⟨_,.none⟩
 | .bool b,v,u,h,r=>by
  cases (show v=.bl b from h);cases (show u=jZ b from r);exact⟨_,.bool b⟩
 | .int i,v,u,h,r=>by
  cases (show v=.int i from h);obtain⟨t,rfl⟩:=r;exact⟨_,.int i t⟩
 | .str x,v,u,h,r=>by
  cases (show v=.str x from h);obtain⟨t,rfl⟩:=r;exact⟨_,.str x t⟩
 | .tuple xs,v,u,h,r=>by
  obtain⟨a,vs,rfl,hq,hs⟩:=h;cases r;obtain⟨its,rv,⟨o,e,c,n,d⟩,_⟩:=I.tuple (X:=X) (xs:=vs) (.inl (.inl hq));obtain⟨as,ra⟩:=RVs.reads I hs rv;exact⟨_,.tuple e c d ra⟩
 | .list xs,v,u,h,r=>by
  obtain⟨a,vs,rfl,hq,hs⟩:=h;cases r;obtain⟨its,rv,pl,_⟩:=I.list (X:=X) (xs:=vs) (.inl hq);obtain⟨o,e,c,n,d⟩:=pl.isList;obtain⟨as,ra⟩:=RVs.reads I hs rv;exact⟨_,.list e c d ra⟩
 | .dict _,v,u,h,r=>h.elim
theorem RVs.reads(I:Inv X zG Z H s):∀{ds:List iH} {vs:List V} {us:List Db},RVs H ds vs->Vals vs us->∃as,ReadsAll s.heap us ds as
 | [],vs,us,h,r=>by
  cases (show vs=[] from h);cases r;exact⟨_,.nil⟩
 | d::ds,vs,us,h,r=>by
  obtain⟨v,w,rfl,h1,h2⟩:=h;cases r with
  | cons r1 r2 =>
   obtain⟨as,a1⟩:=RV.reads I h1 r1;obtain⟨bs,a2⟩:=RVs.reads I h2 r2;exact⟨_,.cons a1 a2⟩
end
end
section
variable {X:Cx}
noncomputable def aT:R2:=λx y H Q=>∃d e,RV H d x/\RV H e y/\d.canLay0=true/\e.canLay0=true/\d.depth<=100/\Q (.bl (e9 d e)) H
theorem Qv{k:Nat}(hr:Room k X.A):OpR X (compareOp .Eq) aT:=by
 intro zG s Z H x y v u Q I rx ry h;obtain⟨d,e,hx,hy,h1,h2,hd,q⟩:=h;obtain⟨as,ra⟩:=RV.reads I hx rx;obtain⟨bs,rb⟩:=RV.reads I hy ry;have hu:=hr.un;have hm:min _ e.depth<=d.depth:=Nat.min_le_left _ _;exact PySem.SeqAt.compareEq_reads ra rb h1 h2 (by omega) ⟨.bl _,H,I,rfl,q⟩
noncomputable def Yq(neg:Bool):R2:=λx y H Q=>∃d es,RV H d x/\(RV H (.list es) y\/RV H (.tuple es) y)/\d.canLay0=true/\gD es=true/\d.depth<=100/\Q (.bl (if neg then !(es.any λy=>e9 y d) else es.any λy=>e9 y d)) H
theorem EA{k:Nat}(hr:Room k X.A):OpR X (compareOp .In) (Yq false):=by
 intro zG s Z H x y v u Q I rx ry h;obtain⟨d,es,hx,hy,h1,h2,hd,q⟩:=h;obtain⟨as,ra⟩:=RV.reads I hx rx;have hu:=hr.un;have hm:min (fg es) _<=d.depth:=iX _ _
 rcases hy with hy | hy
 ·obtain⟨bs,rb⟩:=RV.reads I hy ry
  exact PySem.SeqAt.in_list_reads rb ra h2 h1 (by omega) ⟨.bl _,H,I,rfl,q⟩
 ·obtain⟨bs,rb⟩:=RV.reads I hy ry
  exact PySem.SeqAt.in_tuple_reads rb ra h2 h1 (by omega) ⟨.bl _,H,I,rfl,q⟩
theorem GG{k:Nat}(hr:Room k X.A):OpR X (compareOp .NotIn) (Yq true):=by
 intro zG s Z H x y v u Q I rx ry h;obtain⟨d,es,hx,hy,h1,h2,hd,q⟩:=h;obtain⟨as,ra⟩:=RV.reads I hx rx;have hu:=hr.un;have hm:min (fg es) _<=d.depth:=iX _ _
 rcases hy with hy | hy
 ·obtain⟨bs,rb⟩:=RV.reads I hy ry
  exact PySem.SeqAt.notIn_list_reads rb ra h2 h1 (by omega) ⟨.bl _,H,I,rfl,q⟩
 ·obtain⟨bs,rb⟩:=RV.reads I hy ry
  exact PySem.SeqAt.notIn_tuple_reads rb ra h2 h1 (by omega) ⟨.bl _,H,I,rfl,q⟩
end
end L2
namespace Dp
open L2
mutual
noncomputable def toPy:D->iH
 | .non=>.none
 | .bl b=>.bool b
 | .int i=>.int i
 | .str x=>.str x
 | .tup ds=>.tuple (Be ds)
 | .lst ds=>.list (Be ds)
 | .dic _ _=>.dict []
 | .fdi _ _=>.dict []
 | .dit _ _=>.dict []
noncomputable def Be:List D->List iH
 | []=>[]
 | d::ds=>toPy d::Be ds
end
mutual
noncomputable def HW:D->Bool
 | .tup ds=>EB ds
 | .lst ds=>EB ds
 | .dic _ _=>false
 | .fdi _ _=>false
 | .dit _ _=>false
 | _=>true
noncomputable def EB:List D->Bool
 | []=>true
 | d::ds=>HW d&&EB ds
end
theorem DH(ds:List D):Be ds=ds.map toPy:=by
 induction ds with
 | nil=>rfl
 | cons d r ih=>rw [Be,ih,eR]
section
variable {K:Frag}{M:Addr->Prop}{H:Hp}
mutual
theorem At.rv:∀{d:D} {v:V},At K M H d v->HW d=true->RV H (toPy d) v
 | .non,v,h,_=>h
 | .bl b,v,h,_=>h
 | .int i,v,h,_=>h
 | .str x,v,h,_=>h.1
 | .tup ds,v,h,n=>by
  obtain⟨a,vs,e,hn,hs⟩:=h;exact⟨a,vs,e,hn,Ats.rv hs n⟩
 | .lst ds,v,h,n=>by
  obtain⟨a,vs,e,hn,hs⟩:=h;exact⟨a,vs,e,.inl hn.2,Ats.rv hs n⟩
 | .dic ks ds,v,h,n=>by cases n
 | .fdi ks ds,v,h,n=>by cases n
 | .dit ks ds,v,h,n=>by cases n
theorem Ats.rv:∀{ds:List D} {vs:List V},Ats K M H ds vs->EB ds=true->RVs H (Be ds) vs
 | [],vs,h,_=>h
 | d::ds,vs,h,n=>by
  obtain⟨v,r,e,h1,h2⟩:=h;have n':(HW d&&EB ds)=true:=n;rw [de] at n';exact⟨v,r,e,At.rv h1 n'.1,Ats.rv h2 n'.2⟩
end
theorem AtT.rv{U:Ch->Prop}{d:D}{v:V}(h:AtT K U M H d v)(n:HW d=true):RV H (toPy d) v:=by
 cases d with
 | lst ds =>
  obtain⟨a,vs,e,_,hq,hs⟩:=h;exact⟨a,vs,e,hq,Ats.rv hs n⟩
 | dic ks ds=>cases n
 | fdi ks ds=>cases n
 | dit ks ds=>cases n
 | non=>exact h
 | bl b=>exact h
 | int i=>exact h
 | str x=>exact h.1
 | tup ds=>exact At.rv h n
noncomputable def CY(d:D):Prop:=HW d=true/\(toPy d).canLay0=true/\(toPy d).depth<=100
noncomputable def Cw(d e:D):Bool:=e9 (toPy d) (toPy e)
noncomputable def XQ(d e:D)(P:D->Prop):Prop:=CY d/\CY e/\P (.bl (Cw d e))
theorem WJ:FC K .sh aT XQ:=λU M H d e x y P Q dom vM hx hy w q =>
 ⟨_,_,hx.rv w.1.1,hy.rv w.2.1.1,w.1.2.1,w.2.1.2.1,w.1.2.2,q _ H (.bl _) .refl rfl w.2.2⟩
noncomputable def Ef:D->Option (List D)
 | .lst ds=>some ds
 | .tup ds=>some ds
 | _=>none
noncomputable def GS(neg:Bool)(d e:D)(P:D->Prop):Prop:=CY d/\CY e/\∃es,Ef e=some es/\P (.bl (if neg then !(es.any λy=>Cw y d) else es.any λy=>Cw y d))
theorem Dv{neg:Bool}:FC K .sh (Yq neg) (GS neg):=λU M H d e x y P Q dom vM hx hy w q=>by
 obtain⟨h1,h2,es,he,w⟩:=w;have any_eq:∀es:List D,(es.map _).any (λy=>e9 y _)=es.any λy=>Cw y d:=λes=>by rw [List.any_map]; rfl
 cases e with
 | lst ds =>
  cases he;refine⟨_,_,hx.rv h1.1,.inl (hy.rv h2.1),h1.2.1,by simpa [toPy,PyData.canLay0] using h2.2.1,h1.2.2,?_⟩;rw [DH,any_eq];exact q _ H (.bl _) .refl rfl w
 | tup ds =>
  cases he;refine⟨_,_,hx.rv h1.1,.inr (hy.rv h2.1),h1.2.1,by simpa [toPy,PyData.canLay0] using h2.2.1,h1.2.2,?_⟩;rw [DH,any_eq];exact q _ H (.bl _) .refl rfl w
 | _=>cases he
noncomputable def Jv(d e:D)(P:D->Prop):Prop:=CY d/\CY e/\P (.bl (!Cw d e))
end
end Dp
namespace L2
noncomputable def aK:R2:=λx y H Q=>∃d e,RV H d x/\RV H e y/\d.canLay0=true/\e.canLay0=true/\d.depth<=100/\Q (.bl (!PyData.eqv d e)) H
theorem Fc{X:Cx}{k:Nat}(hr:Room k X.A):OpR X (compareOp .NotEq) aK:=by
 intro zG s Z H x y v u Q I rx ry h;obtain⟨d,e,hx,hy,h1,h2,hd,q⟩:=h;obtain⟨as,ra⟩:=RV.reads I hx rx;obtain⟨bs,rb⟩:=RV.reads I hy ry;have hu:=hr.un;have hm:min _ e.depth<=d.depth:=Nat.min_le_left _ _;exact PySem.SeqAt.compareNe_reads ra rb h1 h2 (by omega) ⟨.bl _,H,I,rfl,q⟩
end L2
namespace Dp
open L2
theorem JZ{K:Frag}:FC K .sh aK Jv:=λU M H d e x y P Q dom vM hx hy w q =>
 ⟨_,_,hx.rv w.1.1,hy.rv w.2.1.1,w.1.2.1,w.2.1.2.1,w.1.2.2,q _ H (.bl _) .refl rfl w.2.2⟩
end Dp
namespace L2
noncomputable def kOf:Key->V
 | .inl i=>.int i
 | .inr x=>.str x
noncomputable def bV:Key->Key->Bool
 | .inl i,.inl j=>decide (i<j)
 | .inr x,.inr y=>decide (x.cps.toList<y.cps.toList)
 | _,_=>false
noncomputable def Mh:Key->Key->Bool
 | .inl _,.inl _=>true
 | .inr _,.inr _=>true
 | _,_=>false
noncomputable def G4:List Key->List Key->Bool
 | [],[]=>false
 | [],_::_=>true
 | _::_,[]=>false
 | x::xs,y::ys=>if x=y then G4 xs ys else bV x y
noncomputable def CM:List Key->List Key->Bool
 | x::xs,y::ys=>Mh x y&&CM xs ys
 | _,_=>true
theorem Vt{A:eX}{s:On}{x y:Key}{u v:Db}(rx:RelV (kOf x) u)(ry:RelV (kOf y) v):∃e,SeqAt.EqAt A s u v e/\(e=true↔x=y):=by
 cases x with
 | inl i =>
  cases y with
  | inl j=>exact⟨_,OJ rx ry rfl rfl,by simp [kOf,ay]⟩
  | inr z=>exact⟨_,OJ rx ry rfl rfl,by simp [kOf,ay]⟩
 | inr z =>
  cases y with
  | inl j=>exact⟨_,OJ rx ry rfl rfl,by simp [kOf,ay]⟩
  | inr z'=>exact⟨_,OJ rx ry rfl rfl,by simp [kOf,ay]⟩
theorem Uu(A:eX)(s:On){x y:Key}{u v:Db}(rx:RelV (kOf x) u)(ry:RelV (kOf y) v)(hs:Mh x y=true)(prog:eB)(w:eG)(E:Db->On->Prop)(Q:Db->On->Prop)(h:Q (.bool (bV x y)) s) :
  wpAny (model prog w) A (richCompare .Lt u v) Q E s:=by
 cases x with
 | inl i =>
  cases y with
  | inl j =>
   obtain⟨t,rfl⟩:=rx;obtain⟨t',rfl⟩:=ry;exact jx h
  | inr z=>cases hs
 | inr z =>
  cases y with
  | inl j=>cases hs
  | inr z' =>
   obtain⟨t,rfl⟩:=rx;obtain⟨t',rfl⟩:=ry;exact PySem.P.lt_str h
section
open PySem.SeqAt
open PySem.AutoSeq1 (wpAny_loadPart')
open PySem.MeetsSeq PySem.MeetsSeq2 PySem.MeetsSeq3
theorem GW(l b:Ch)(items items2:Array Db)(n n2:Nat)(dd dd2:Option Ch)(sl sl2:Array (Option Db))(ns ms:List Key)(hi:Vals (ns.map kOf) items.toList)(hj:Vals (ms.map kOf) items2.toList)(hsame:CM ns ms=true) :
  Meets (gg.«tuple.__lt__» ⟨[.ref l,.ref b],[]⟩)
   (λ_ R s=>s.heap.get? l=some { cls:=.type "tuple",dict:=dd,data:=.seq items n,slots:=sl }/\s.heap.get? b=some { cls:=.type "tuple",dict:=dd2,data:=.seq items2 n2,slots:=sl2 } /\
    R (.ok (.ret (.bool (G4 ns ms)))) s) :=
 .of_wp λprog w A R s h=>by
  obtain⟨hp,g,d,tk,os⟩:=s; obtain⟨hl,hb,h⟩:=h
  have f2:=AutoSeq1.sub_tuple_tuple;have z1:items.size=ns.length:=by have:=hi.length; rw [Go] at this; rw [this]; simp
  have z2:items2.size=ms.length:=by have:=hj.length; rw [Go] at this; rw [this]; simp
  wp_walk using fD hl,fD hb,wpAny_forIn_list _ (λrest b s'=>b.1=none/\s'=⟨hp,g,d,tk,os⟩/\∃(vs ws:List Db) (ns' ms':List Key),rest=vs.zip ws /\
   Vals (ns'.map kOf) vs/\Vals (ms'.map kOf) ws/\CM ns' ms'=true/\ns'.length+items2.size=ms'.length+items.size/\R (.ok (.ret (.bool (G4 ns' ms')))) ⟨hp,g,d,tk,os⟩) _
  case turn =>
   rintro ⟨y,x⟩ rest b s' ⟨hb',rfl,vs,ws,ns',ms',hz,hvi,hwi,hsm,hlen,hR⟩;cases ns' with
   | nil=>cases hvi; rw [List.zip_nil_left] at hz; cases hz
   | cons a ns' =>
    cases ms' with
    | nil=>cases hwi; rw [List.zip_nil_right] at hz; cases hz
    | cons c ms' =>
     rw [eR] at hvi hwi;cases hvi with
     | cons ra hvi' =>
      cases hwi with
      | cons rc hwi' =>
       rw [jH] at hz;injection hz with hyx hrest
       injection hyx with hy hx
       subst hy hx;have hR':R (.ok (.ret (.bool (if a=c then G4 ns' ms' else bV a c)))) ⟨hp,g,d,tk,os⟩:=hR;have hsm':(Mh a c&&CM ns' ms')=true:=hsm;rw [de] at hsm';simp only [dq] at hlen;obtain⟨e,he,hiff⟩:=Vt (A:=A.in1) (s:=⟨hp,g,d,tk,os⟩) ra rc;refine Ev (he prog w _ _ ?_);cases e with
       | true =>
        rw [if_pos (hiff.mp rfl)] at hR'
        wp_walk
        exact⟨rfl,rfl,_,_,_,_,hrest,hvi',hwi',hsm'.2,by omega,hR'⟩
       | false =>
        rw [if_neg (λq=>absurd (hiff.mpr q) dr)] at hR';have hri:=Uu A.in1 ⟨hp,g,d,tk,os⟩ ra rc hsm'.1 prog w
        wp_walk using hri
        exact⟨_,rfl,by simpa using hR'⟩
  case fin =>
   rintro ⟨b1,b2⟩ s' ⟨hb',rfl,vs,ws,ns',ms',hz,hvi,hwi,hsm,hlen,hR⟩;simp only at hb';subst hb'
   have hv:G4 ns' ms'=decide (items.size<items2.size):=by
    cases ns' with
    | nil =>
     cases ms' with
     | nil =>
      simp only [f6] at hlen;exact(decide_eq_false (by omega)).symm
     | cons c u =>
      simp only [f6,dq] at hlen;exact(decide_eq_true (by omega)).symm
    | cons a t =>
     cases ms' with
     | nil =>
      simp only [f6,dq] at hlen;exact(decide_eq_false (by omega)).symm
     | cons c u =>
      rw [eR] at hvi hwi;cases hvi;cases hwi;rw [jH] at hz;cases hz
   rw [hv] at hR
   wp_walk
   exact⟨_,rfl,by simpa [Builtin.Tuple.tupleCompareSizes] using hR⟩
  case h =>
   exact⟨rfl,rfl,items.toList,items2.toList,ns,ms,rfl,hi,hj,hsame,by omega,h⟩
end
section
variable {X:Cx}
noncomputable def aL(K:Frag):R2:=λx y H Q=>∃a b ns ms,x=.ref a/\y=.ref b/\SqT K H a (ns.map kOf)/\SqT K H b (ms.map kOf)/\CM ns ms=true/\Q (.bl (G4 ns ms)) H
theorem Y5(hu:X.A.units<cLine):OpR X (compareOp .Lt) (aL X.K):=by
 intro zG s Z H x y v u Q I rx ry h;obtain⟨a,b,ns,ms,rfl,rfl,ha,hb,hsm,q⟩:=h;cases rx;cases ry;obtain⟨its,r1,p1,_⟩:=I.tuple ha;obtain⟨its2,r2,p2,_⟩:=I.tuple hb;obtain⟨⟨cls,dd,data,sl⟩,ho,hc,n,hd⟩:=id p1;obtain⟨⟨cls2,dd2,data2,sl2⟩,ho2,hc2,n2,hd2⟩:=id p2;subst hc hd hc2 hd2
 exact richCompare_meets_room (op:=.Lt) ⟨_,ho,rfl⟩ ⟨_,ho2,rfl⟩ PySem.F.slot_tuple_lt PySem.F.entry_tuple_lt (PySem.F.args_tuple_lt_2 _ _) (GW a b _ _ n n2 dd _ sl _ ns ms r1 r2 hsm)
  ⟨ho,ho2,⟨(λx=>nomatch x),⟨.bl _,H,I,rfl,q⟩⟩⟩ hu
end
noncomputable def ItAt(κ:Bool)(h:dg)(it l:Ch)(k:Nat):Prop:=match κ with
 | true=>h.IsListIter it l k
 | false=>h.IsTupleIter it l k
noncomputable def SqAt(κ:Bool)(h:dg)(l:Ch)(items:Array Db):Prop:=match κ with
 | true=>h.IsList l items
 | false=>h.IsTuple l items
section
variable {κ:Bool}{h h':Heap}{it l b:Addr}{k:Nat}{items:Array Value}
theorem ItAt.mv(x:ItAt κ h it l k)(e:∀o,h.get? it=some o->h'.get? it=some o):ItAt κ h' it l k:=by
 cases κ with
 | true=>obtain⟨o,ho,r⟩:=x; exact⟨o,e o ho,r⟩
 | false=>obtain⟨o,ho,r⟩:=x; exact⟨o,e o ho,r⟩
theorem SqAt.mv(x:SqAt κ h l items)(e:∀o,h.get? l=some o->h'.get? l=some o):SqAt κ h' l items:=by
 cases κ with
 | true=>obtain⟨o,ho,r⟩:=x; exact⟨o,e o ho,r⟩
 | false=>obtain⟨o,ho,r⟩:=x; exact⟨o,e o ho,r⟩
theorem ItAt.eb(x:ItAt κ h it l k)(hs:Heap.ExtBut b h h')(n:it≠b):ItAt κ h' it l k:=x.mv λo e=>hs it o n e
theorem SqAt.eb(x:SqAt κ h l items)(hs:Heap.ExtBut b h h')(n:l≠b):SqAt κ h' l items:=x.mv λo e=>hs l o n e
theorem ItAt.lies(x:ItAt κ h it l k):∃o,h.get? it=some o/\∀v,o.data≠.cell v:=by
 cases κ with
 | true=>obtain⟨o,ho,_,d⟩:=x; simp_all
 | false=>obtain⟨o,ho,_,d⟩:=x; simp_all
theorem SqAt.lies(x:SqAt κ h l items):∃o,h.get? l=some o:=by
 cases κ with
 | true=>obtain⟨o,ho,_⟩:=x; grind
 | false=>obtain⟨o,ho,_⟩:=x; grind
end
section
variable {prog:Program}{w:World}{A:Around}{E:Value->Shared->Prop}{s:Shared}
theorem GJ{κ:Bool}{it l:Ch}{i:Nat}{items:Array Db}{x:Db}{Q:Db->On->Prop}(hit:ItAt κ s.heap it l i)(hl:SqAt κ s.heap l items)(hx:items[i]?=some x)
  (hQ:∀h',ItAt κ h' it l (i+1)->ig it s.heap h'->Q x { s with heap:=h' }):wpAny (model prog w) A (fO (.ref it)) Q E s:=by
 cases κ with
 | true=>exact wpAny_nextOf_list_item hit hl hx hQ
 | false =>
  have hit':s.heap.IsTupleIter it l i:=hit;have hl':s.heap.IsTuple l items:=hl;obtain⟨o,ho,hc,hd⟩:=id hit'; obtain⟨ol,hol,_,nl,hdl⟩:=hl'
  unfold fO;refine Ev (fT (name:=gK "__next__") hit'.typeIs gS (gF gS hit'.typeIs jI ?_ (jA _)));show wpAny (model prog w) _ (field (.ref it) 0 >>= _) _ _ s; refine Ev (fC ho hd (x:=.ref l) rfl ?_)
  show wpAny (model prog w) _ (if (eh l==eS)=true then _ else _) _ _ s; rw [if_neg (show ¬((eh l==eS)=true) from dr)]
  show wpAny (model prog w) _ (field (.ref it) 1 >>= _) _ _ s; refine Ev (fC ho hd (x:=.int i 0) rfl ?_)
  show wpAny (model prog w) _ (seqItems? (.ref l) >>= _) _ _ s; refine Ev (fX hol hdl ?_); simp only [gx,hx]
  refine Ev (wpAny_setField ho hd (by simp) (T0 ⟨x,rfl,T0 (hQ _ (show Heap.IsTupleIter _ it l (i+1) from ?_) (kI ..))⟩));exact⟨_,g7 _ ho (Obj.isFreed_of_fields (Obj.data_mapFields hd _)),(Obj.cls_mapFields ..).trans hc,by(rw [Obj.data_mapFields hd]; simp [rawInt])⟩
theorem Hf{κ:Bool}{it l:Ch}{i:Nat}{items:Array Db}{Q:Db->On->Prop}(hh:A.handled=none)(hit:ItAt κ s.heap it l i)(hl:SqAt κ s.heap l items)(hx:items[i]?=none)
  (hE:∀h' e,Heap.ExtBut it s.heap h'->(∃o,h'.get? e=some o/\o.cls=.type "StopIteration")->E (.ref e) { s with heap:=h' }):wpAny (model prog w) A (fO (.ref it)) Q E s:=by
 cases κ with
 | true=>exact wpAny_nextOf_list_end hh hit hl hx hE
 | false =>
  have hit':=hit;have hl':s.heap.IsTuple l items:=hl;obtain⟨o,ho,hc,hd⟩:=id hit'; obtain⟨ol,hol,_,nl,hdl⟩:=hl'
  refine Ev (fT hit'.typeIs gS (gF gS hit'.typeIs jI ?_ (jA _)));show wpAny (model prog w) _ (field (.ref it) 0 >>= _) _ _ s; refine Ev (fC ho hd (x:=.ref l) rfl ?_)
  refine Ev (fC ho hd (x:=.int i 0) rfl ?_);refine Ev (fX hol hdl ?_); simp only [gx,hx]
  refine Ev (jc (Ev (wpAny_setField ho hd (by simp) ?_))); refine Ev ?_; refine Ev (m:=firstArgMember _ _) (jy (a:=eS) (by first | rfl | omega) ?_); refine fw ?_ (by size_fits)
  simp only [raiseNew]; refine Ev (wpAny_handled ?_); first | grind | rw [hh]
  refine Ev (T0 (wpAny_throw ?_)); exact hE _ _ (((kI ..).extBut.push _).push _) ⟨_,UF _ rfl,rfl⟩
structure Zx (z TI TO i1 i2 l1 l2:Ch):Prop where
 TIz:TI≠z
 TOz:TO≠z
 i1z:i1≠z
 i2z:i2≠z
 TOi1:TO≠i1
 TOi2:TO≠i2
 i12:i1≠i2
 l1z:l1≠z
 l1TO:l1≠TO
 l1i1:l1≠i1
 l1i2:l1≠i2
 l2z:l2≠z
 l2TO:l2≠TO
 l2i1:l2≠i1
 l2i2:l2≠i2
theorem UM{zX zW:Bool}{z TI TO i1 i2 l1 l2:Ch}{k:Nat}{xs ys:Array Db}{x y a b:Db}{Q:Db->On->Prop}(D:Zx z TI TO i1 i2 l1 l2)
  (hz:gy s.heap z TI TO .none) (hTI:fi s.heap TI (.ref i1) (.ref i2)) (hTO:fi s.heap TO a b) (h1:ItAt zX s.heap i1 l1 k) (h2:ItAt zW s.heap i2 l2 k) (hl1:SqAt zX s.heap l1 xs) (hl2:SqAt zW s.heap l2 ys) (hx:xs[k]?=some x) (hy:ys[k]?=some y)
  (hQ:∀h',gy h' z TI TO (rawInt s.heap.objs.size)->fi h' TO x y->ItAt zX h' i1 l1 (k+1)->ItAt zW h' i2 l2 (k+1)->fi h' s.heap.objs.size x y->h'.objs.size=s.heap.objs.size+1->(∀c o,c≠z->c≠TO->c≠i1->c≠i2->s.heap.get? c=some o->h'.get? c=some o)->Q (.ref s.heap.objs.size) { s with heap:=h' }) :
  wpAny (model prog w) A (gg.«zip.__next__» ⟨[.ref z],[]⟩) (λfin s'=>∃v,fin=.done (.ret v)/\Q v s') E s:=by
 show wpAny (model prog w) A (field (.ref z) 2 >>= _) _ _ _; refine Ev (fC hz rfl (x:=.bool false) rfl ?_)
 show wpAny (model prog w) A (field (.ref z) 3 >>= _) _ _ _; refine Ev (fC hz rfl (x:=.ref TI) rfl ?_); refine Ev (fX hTI rfl ?_)
 show wpAny (model prog w) A (fu (.ref z) >>= _) _ _ _; refine Ev ?_; unfold fu
 refine Ev (fC hz rfl (x:=.none) rfl (T0 ?_)); simp only [if_true]; refine Ev (jc ?_); refine Ev (fC hz rfl (x:=.ref TO) rfl ?_)
 refine Ev (gM hz (by simp) λha hza hsa=>?_);replace hza:gy ha z TI TO .ellipsis:=hza;refine Ev ?_; simp only [List.zipIdx_cons,List.zipIdx_nil,iB,List.forIn_nil]
 refine Ev (Ev (jM ?_)); show wpAny (model prog w) _ (fO (.ref i1) >>= _) _ _ _
 refine Ev (GJ (h1.eb hsa.extBut D.i1z) (hl1.eb hsa.extBut D.l1z) hx λhb h1b hsb=>T0 ?_);have hTOb:fi hb TO a b:=hsb.extBut _ _ D.TOi1 (hsa.extBut _ _ D.TOz hTO);refine Ev (fX hTOb rfl ?_); refine Ev (iq hTOb λhc hTOc hsc=>?_)
 replace hTOc:fi hc TO x b:=hTOc;refine Ev (gu (T0 ?_)); refine Ev (Ev (jM ?_)); show wpAny (model prog w) _ (fO (.ref i2) >>= _) _ _ _
 refine Ev (GJ (((h2.eb hsa.extBut D.i2z).eb hsb.extBut D.i12.symm).eb hsc.extBut D.TOi2.symm) (((hl2.eb hsa.extBut D.l2z).eb hsb.extBut D.l2i1).eb hsc.extBut D.l2TO) hy λhd h2d hsd=>T0 ?_);have hTOd:fi hd TO x b:=hsd.extBut _ _ D.TOi2 hTOc;refine Ev (fX hTOd rfl ?_); refine Ev (iq hTOd λhe hTOe hse=>?_)
 replace hTOe:fi he TO x y:=hTOe;refine Ev (gu (T0 (T0 ?_))); refine Ev (fX hTOe rfl ?_); refine Ev (wpAny_newTuple ?_)
 have hsz:he.objs.size=s.heap.objs.size:=by rw [hse.1,hsd.1,hsc.1,hsb.1,hsa.1]
 have hze:gy he z TI TO .ellipsis:=hse.extBut _ _ D.TOz.symm (hsd.extBut _ _ D.i2z.symm (hsc.extBut _ _ D.TOz.symm (hsb.extBut _ _ D.i1z.symm hza)));have hke:∀c o,c≠z->c≠TO->c≠i1->c≠i2->s.heap.get? c=some o->he.get? c=some o:=λc o c1 c2 c3 c4 e=>hse.extBut _ _ c2 (hsd.extBut _ _ c4 (hsc.extBut _ _ c2 (hsb.extBut _ _ c3 (hsa.extBut _ _ c1 e))));have h1e:ItAt zX he i1 l1 (k+1):=((h1b.eb hsc.extBut D.TOi1.symm).eb hsd.extBut D.i12).eb hse.extBut D.TOi1.symm;have h2e:ItAt zW he i2 l2 (k+1):=h2d.eb hse.extBut D.TOi2.symm;have hzlt:z<he.objs.size:=XV hze;show wpAny (model prog w) _ (iI (.ref z) (.ref he.objs.size) >>= _) _ _ _; refine Ev ?_; unfold iI
 have hzf:gy (he.push { cls:=.type "tuple",data:=.seq #[x,y] }) z TI TO .ellipsis:=FM _ hze;refine Ev (gM hzf (by simp) λhg hzg hsg=>?_);replace hzg:gy hg z TI TO (rawInt he.objs.size):=hzg;refine gM hzg (by simp) λhi hzi hsi=>?_;replace hzi:gy hi z TI TO (rawInt he.objs.size):=hzi;have up:∀c o,c≠z->he.get? c=some o->hi.get? c=some o:=λc o c1 e=>hsi.extBut _ _ c1 (hsg.extBut _ _ c1 (FM _ e));have hTi:fi hi he.objs.size x y:=hsi.extBut _ _ (gz hzlt) (hsg.extBut _ _ (gz hzlt) (UF _ rfl));have hzs:hi.objs.size=he.objs.size+1:=by rw [hsi.1,hsg.1,ft]
 rw [hsz] at hzi hTi hzs;refine T0 ⟨_,rfl,?_⟩;show Q (.ref he.objs.size) _; rw [hsz]
 exact hQ hi hzi (up _ _ D.TOz hTOe) (h1e.mv λo e=>up _ o D.i1z e) (h2e.mv λo e=>up _ o D.i2z e) hTi hzs λc o c1 c2 c3 c4 e=>up c o c1 (hke c o c1 c2 c3 c4 e)
theorem WY{zX zW:Bool}{z TI TO i1 i2 l1 l2:Ch}{k:Nat}{xs ys:Array Db}{a b:Db}{Q:Fin->On->Prop}(hh:A.handled=none)(D:Zx z TI TO i1 i2 l1 l2)
  (hz:gy s.heap z TI TO .none) (hTI:fi s.heap TI (.ref i1) (.ref i2)) (hTO:fi s.heap TO a b) (h1:ItAt zX s.heap i1 l1 k) (h2:ItAt zW s.heap i2 l2 k) (hl1:SqAt zX s.heap l1 xs) (hl2:SqAt zW s.heap l2 ys) (hend:xs[k]?=none\/ys[k]?=none)
  (hE:∀h' e,(∀c o,c≠z->c≠TO->c≠i1->c≠i2->s.heap.get? c=some o->h'.get? c=some o)->(∃o,h'.get? e=some o/\o.cls=.type "StopIteration")->E (.ref e) { s with heap:=h' }) :
  wpAny (model prog w) A (gg.«zip.__next__» ⟨[.ref z],[]⟩) Q E s:=by
 show wpAny (model prog w) A (field (.ref z) 2 >>= _) _ _ _; refine Ev (fC hz rfl (x:=.bool false) rfl ?_)
 show wpAny (model prog w) A (field (.ref z) 3 >>= _) _ _ _; refine Ev (fC hz rfl (x:=.ref TI) rfl ?_); refine Ev (fX hTI rfl ?_)
 show wpAny (model prog w) A (fu (.ref z) >>= _) _ _ _; refine Ev ?_; unfold fu
 refine Ev (fC hz rfl (x:=.none) rfl (T0 ?_)); simp only [if_true]; refine Ev (jc ?_); refine Ev (fC hz rfl (x:=.ref TO) rfl ?_)
 refine Ev (gM hz (by simp) λha hza hsa=>?_);replace hza:gy ha z TI TO .ellipsis:=hza;refine Ev ?_; simp only [List.zipIdx_cons,List.zipIdx_nil,iB,List.forIn_nil]
 refine Ev (Ev (jM ?_)); show wpAny (model prog w) _ (fO (.ref i1) >>= _) _ _ _
 cases hx:xs[k]? with
 | none =>
  refine Ev (Hf hh (h1.eb hsa.extBut D.i1z) (hl1.eb hsa.extBut D.l1z) hx λhb e hsb he=>?_);obtain⟨oe,hoe,hce⟩:=he;have hzb:gy hb z TI TO .ellipsis:=hsb _ _ D.i1z.symm hza;have hez:e≠z:=λx=>by subst x; rw [hzb] at hoe; cases hoe; simp at hce
  exact gM hzb (by simp) λhc _ hsc=>hE hc e (λc o c1 _ c3 _ x=>hsc.extBut _ _ c1 (hsb _ _ c3 (hsa.extBut _ _ c1 x))) ⟨oe,hsc.extBut _ _ hez hoe,hce⟩
 | some x =>
  have hy:ys[k]?=none:=by
   rcases hend with h | h
   ·rw [hx] at h; cases h
   ·exact h
  refine Ev (GJ (h1.eb hsa.extBut D.i1z) (hl1.eb hsa.extBut D.l1z) hx λhb h1b hsb=>T0 ?_);have hTOb:fi hb TO a b:=hsb.extBut _ _ D.TOi1 (hsa.extBut _ _ D.TOz hTO);refine Ev (fX hTOb rfl ?_); refine Ev (iq hTOb λhc hTOc hsc=>?_)
  refine Ev (gu (T0 ?_)); refine Ev (Ev (jM ?_)); show wpAny (model prog w) _ (fO (.ref i2) >>= _) _ _ _
  refine Ev (Hf hh (((h2.eb hsa.extBut D.i2z).eb hsb.extBut D.i12.symm).eb hsc.extBut D.TOi2.symm) (((hl2.eb hsa.extBut D.l2z).eb hsb.extBut D.l2i1).eb hsc.extBut D.l2TO) hy λhd e hsd he=>?_);obtain⟨oe,hoe,hce⟩:=he;have hzd:gy hd z TI TO .ellipsis:=hsd _ _ D.i2z.symm (hsc.extBut _ _ D.TOz.symm (hsb.extBut _ _ D.i1z.symm hza));have hez:e≠z:=λx=>by subst x; rw [hzd] at hoe; cases hoe; simp at hce
  exact gM hzd (by simp) λhf _ hsf=>hE hf e (λc o c1 c2 c3 c4 x=>hsf.extBut _ _ c1 (hsd _ _ c4 (hsc.extBut _ _ c2 (hsb.extBut _ _ c3 (hsa.extBut _ _ c1 x))))) ⟨oe,hsf.extBut _ _ hez hoe,hce⟩
end
noncomputable def ZN(κ:Bool):String:=match κ with
 | true => "list_iterator"
 | false => "tuple_iterator"
noncomputable def JO(κ:Bool)(l:Ch):Obj:={ cls:=.type (ZN κ),data:=.fields #[.ref l,.int 0 0] }
noncomputable abbrev zA(zX:Bool)(h:dg)(l1:Ch):dg:=h.push (JO zX l1)
noncomputable abbrev zB(zX zW:Bool)(h:dg)(l1 l2:Ch):dg:=(zA zX h l1).push (JO zW l2)
noncomputable abbrev zC(zX zW:Bool)(h:dg)(l1 l2:Ch):dg:=(zB zX zW h l1 l2).push { cls:=.type "tuple",data:=.seq #[.ref h.objs.size,.ref (zA zX h l1).objs.size] }
noncomputable abbrev zD(zX zW:Bool)(h:dg)(l1 l2:Ch):dg:=(zC zX zW h l1 l2).push { cls:=.type "tuple",data:=.seq #[.none,.none] }
noncomputable abbrev zE(zX zW:Bool)(h:dg)(l1 l2:Ch):dg:=(zD zX zW h l1 l2).push { cls:=.type "zip",data:=.fields #[.none,.bool false,.bool false,.ref (zB zX zW h l1 l2).objs.size,.ref (zC zX zW h l1 l2).objs.size] }
theorem W9(zX zW:Bool)(l1 l2:Ch)(xs ys:Array Db):Meets (gg.«zip.__new__» ⟨[.type "zip",.ref l1,.ref l2],[]⟩)
  (λ_ R s=>SqAt zX s.heap l1 xs/\SqAt zW s.heap l2 ys/\R (.ok (.ret (.ref (zD zX zW s.heap l1 l2).objs.size))) { s with heap:=zE zX zW s.heap l1 l2 }) :=
 .of_wp λprog w A R s h=>by
  obtain⟨hp,g,d,tk,os⟩:=s; obtain⟨hl1,hl2,h⟩:=h
  have hsub:=sub_zip;have hL2:SqAt zW (zA zX hp l1) l2 ys:=hl2.mv λo e=>FM _ e;cases zX with
  | true =>
   have g1:jz (gv ⟨hp,g,d,tk,os⟩) l1 xs:=hl1;cases zW with
   | true =>
    have g2:jz (gv ⟨hp.push { cls:=.type "list_iterator",data:=.fields #[.ref l1,.int 0 0] },g,d,tk,os⟩) l2 ys:=hL2
    wp_walk using fb g1,fb g2
    exact⟨_,rfl,h⟩
   | false =>
    have g2:jk (gv ⟨hp.push { cls:=.type "list_iterator",data:=.fields #[.ref l1,.int 0 0] },g,d,tk,os⟩) l2 ys:=hL2
    wp_walk using fb g1,fS g2
    exact⟨_,rfl,h⟩
  | false =>
   have g1:jk (gv ⟨hp,g,d,tk,os⟩) l1 xs:=hl1;cases zW with
   | true =>
    have g2:jz (gv ⟨hp.push { cls:=.type "tuple_iterator",data:=.fields #[.ref l1,.int 0 0] },g,d,tk,os⟩) l2 ys:=hL2
    wp_walk using fS g1,fb g2
    exact⟨_,rfl,h⟩
   | false =>
    have g2:jk (gv ⟨hp.push { cls:=.type "tuple_iterator",data:=.fields #[.ref l1,.int 0 0] },g,d,tk,os⟩) l2 ys:=hL2
    wp_walk using fS g1,fS g2
    exact⟨_,rfl,h⟩
theorem LM(κ:Bool)(h:dg)(l:Ch):ItAt κ (h.push (JO κ l)) h.objs.size l 0:=by
 cases κ with
 | true=>exact⟨_,UF _ rfl,rfl,rfl⟩
 | false=>exact⟨_,UF _ rfl,rfl,rfl⟩
section
variable {prog:Program}{w:World}{A:Around}{E:Value->Shared->Prop}{s:Shared}
theorem OU{zX zW:Bool}{l1 l2:Ch}{xs ys:Array Db}{Q:Db->On->Prop}(hl1:SqAt zX s.heap l1 xs)(hl2:SqAt zW s.heap l2 ys)
  (h:∀h',gy h' (s.heap.objs.size+4) (s.heap.objs.size+2) (s.heap.objs.size+3) .none->fi h' (s.heap.objs.size+2) (.ref s.heap.objs.size) (.ref (s.heap.objs.size+1))->fi h' (s.heap.objs.size+3) .none .none ->
   ItAt zX h' s.heap.objs.size l1 0->ItAt zW h' (s.heap.objs.size+1) l2 0->(∀c o,s.heap.get? c=some o->h'.get? c=some o)->Q (.ref (s.heap.objs.size+4)) { s with heap:=h' }) :
  wpAny (model prog w) A (call (.type "zip") [.ref l1,.ref l2]) Q E s:=by
 refine callType_new F.called_zip (by decide) (F.typeCall_zip_2 _ _) (F.newCall_zip_2 _ _) (λobj=>F.args_object_init_3 obj _ _) F.entry_zip_new (W9 zX zW l1 l2 xs ys) ⟨hl1,hl2,?_⟩;have z1:(zA zX s.heap l1).objs.size=s.heap.objs.size+1:=ft ..;have z2:(zB zX zW s.heap l1 l2).objs.size=s.heap.objs.size+2:=by rw [ft,z1]
 have z3:(zC zX zW s.heap l1 l2).objs.size=s.heap.objs.size+3:=by rw [ft,z2]
 have z4:(zD zX zW s.heap l1 l2).objs.size=s.heap.objs.size+4:=by rw [ft,z3]
 have g5:(zE zX zW s.heap l1 l2).get? (zD zX zW s.heap l1 l2).objs.size=some _:=UF _ rfl;have g4:(zE zX zW s.heap l1 l2).get? (zC zX zW s.heap l1 l2).objs.size=some _:=FM _ (UF _ rfl);have g3:(zE zX zW s.heap l1 l2).get? (zB zX zW s.heap l1 l2).objs.size=some _:=FM _ (FM _ (UF _ rfl));have i2:ItAt zW (zE zX zW s.heap l1 l2) (zA zX s.heap l1).objs.size l2 0:=(LM zW (zA zX s.heap l1) l2).mv λo e=>FM _ (FM _ (FM _ e));have i1:ItAt zX (zE zX zW s.heap l1 l2) s.heap.objs.size l1 0:=(LM zX s.heap l1).mv λo e=>FM _ (FM _ (FM _ (FM _ e)));rw [z4] at g5;rw [z3] at g4;rw [z2] at g3;rw [z1] at i2;have fin:=h (zE zX zW s.heap l1 l2) (by rw [gy,g5,z2,z3]) (by rw [fi,g3,z1]) g4 i1 i2 (λc o e=>FM _ (FM _ (FM _ (FM _ (FM _ e)))));refine⟨⟨_,by rw [z4]; exact g5,rfl⟩,?_⟩;rw [z4];exact fin
theorem MR{zX zW:Bool}{z TI TO i1 i2 l1 l2:Ch}{k:Nat}{xs ys:Array Db}{x y a b:Db}{Q:Option Db->On->Prop}(D:Zx z TI TO i1 i2 l1 l2)
  (hz:gy s.heap z TI TO .none) (hTI:fi s.heap TI (.ref i1) (.ref i2)) (hTO:fi s.heap TO a b) (h1:ItAt zX s.heap i1 l1 k) (h2:ItAt zW s.heap i2 l2 k) (hl1:SqAt zX s.heap l1 xs) (hl2:SqAt zW s.heap l2 ys) (hx:xs[k]?=some x) (hy:ys[k]?=some y)
  (hQ:∀h',gy h' z TI TO (rawInt s.heap.objs.size)->fi h' TO x y->ItAt zX h' i1 l1 (k+1)->ItAt zW h' i2 l2 (k+1)->fi h' s.heap.objs.size x y->h'.objs.size=s.heap.objs.size+1->(∀c o,c≠z->c≠TO->c≠i1->c≠i2->s.heap.get? c=some o->h'.get? c=some o)->Q (some (.ref s.heap.objs.size)) { s with heap:=h' }) :
  wpAny (model prog w) A (pyNext (.ref z)) Q E s:=by
 have hT:s.TypeIs (.ref z) "zip":=⟨_,hz,rfl⟩;unfold pyNext
 exact Ev (wpAny_attempt (fT (name:=gK "__next__") hT ir (gF ir hT F.entry_zip_next
  (UM D hz hTI hTO h1 h2 hl1 hl2 hx hy λh' a1 a2 a3 a4 a5 a6 a7=>T0 (hQ h' a1 a2 a3 a4 a5 a6 a7)) (F.args_zip_next_1 _))))
theorem N9{zX zW:Bool}{z TI TO i1 i2 l1 l2:Ch}{k:Nat}{xs ys:Array Db}{a b:Db}{Q:Option Db->On->Prop}(hh:A.handled=none)(D:Zx z TI TO i1 i2 l1 l2)
  (hz:gy s.heap z TI TO .none) (hTI:fi s.heap TI (.ref i1) (.ref i2)) (hTO:fi s.heap TO a b) (h1:ItAt zX s.heap i1 l1 k) (h2:ItAt zW s.heap i2 l2 k) (hl1:SqAt zX s.heap l1 xs) (hl2:SqAt zW s.heap l2 ys) (hend:xs[k]?=none\/ys[k]?=none)
  (hQ:∀h',(∀c o,c≠z->c≠TO->c≠i1->c≠i2->s.heap.get? c=some o->h'.get? c=some o)->Q none { s with heap:=h' }):wpAny (model prog w) A (pyNext (.ref z)) Q E s:=by
 have hT:s.TypeIs (.ref z) "zip":=⟨_,hz,rfl⟩;unfold pyNext;refine Ev (wpAny_attempt (fT (name:=gK "__next__") hT ir (gF ir hT F.entry_zip_next (WY hh D hz hTI hTO h1 h2 hl1 hl2 hend λh' e hk he=>?_) (F.args_zip_next_1 _))));obtain⟨o,ho,hc⟩:=he;exact Ev (wpAny_isInstance (T := "StopIteration") (b:=true) ⟨o,ho,hc⟩ isSubtype_stop (T0 (hQ _ hk)))
end
section
variable {X:Cx}{zG:List (Addr×Obj)}{Z:L2.St}{H:Hp}{s:Shared}{h':Heap}
theorem Inv.turnedL{t':Nat}{ch:List Ch}(I:Inv X zG Z H s)(hf:∀b∈ch,IR X zG H b)(k:∀b o,b∉ch->s.heap.get? b=some o->h'.get? b=some o):Inv X zG Z H { s with heap:=h',toks:=t' }:=by
 have nit:∀b u,H b=some u->b∉ch:=λb u e z=>by rw [(hf b z).1] at e; cases e
 refine I.step (λb hb=>?_) (λb o _ _ hc e _=>k b o hc e) (λb o _ _ hc e _=>⟨_,k b o hc e⟩) (λ_ _ _ _ n=>n) (λb o hc e=>⟨o,k b o hc e⟩) (λ_ _ e=>e) (λ_ _ _ e=>e) (λb ps e=>⟨#[],by rw [e]; simp⟩) (λm hm=>?_) (λb u e=>(I.hok b u e).stay (λc v hc q=>k c v (hc.elim (λz=>by grind) λz=>nit c _ z) q) (λ_ q=>q) λ_ _ q=>q) I.bare
 ·obtain⟨f0,f1,f2,f3,f4,f5⟩:=hf b hb
  exact⟨f3,f1,f4,f5⟩
 ·obtain⟨o,es,ep,ho,r⟩:=hm
  exact⟨o,es,ep,k _ o (λz=>(hf _ z).2.1 rfl) ho,r⟩
theorem Inv.turnLaid{t':Nat}{ch:List Ch}{a:Ch}{o:HO}(I:Inv X zG Z H s)(hf:∀b∈ch,IR X zG H b)(k:∀b o,b∉ch->s.heap.get? b=some o->h'.get? b=some o)(ha:s.heap.objs.size<=a)(new:ObjOk X.prog X.w (BD H a o) h' a o) :
  Inv X zG Z (BD H a o) { s with heap:=h',toks:=t' }:=by
 have nit:∀b u,H b=some u->b∉ch:=λb u e z=>by rw [(hf b z).1] at e; cases e
 have hn:H a=none:=I.hok.fresh ha;have up:∀b u,H b=some u->BD H a o b=some u:=λb u e=>by rw [Ag (A3 e hn)]; exact e
 refine I.step (g':=s.gens) (d':=s.drawn) (ch:=ch) (λb hb=>?_) (λb o _ _ hc e _=>k b o hc e) (λb o _ _ hc e _=>⟨o.slots,k b o hc e⟩) (λb u _ e n=>?_) (λb o hc e=>⟨o,k b o hc e⟩) (λb xs e=>up _ _ e) (λb o u e=>up _ _ e) (λb ps e=>⟨#[],by rw [up _ _ e]; simp⟩) (λm hm=>?_) (λb u e=>?_) I.bare
 ·obtain⟨f0,f1,f2,f3,f4,f5⟩:=hf b hb
  exact⟨f3,f1,f4,f5⟩
 ·rw [Ag (da (eI (XV e) ha))]; exact n
 ·obtain⟨o,es,ep,ho,r⟩:=hm
  exact⟨o,es,ep,k _ o (λz=>(hf _ z).2.1 rfl) ho,r⟩
 ·by_cases hb:b=a
  ·subst hb; rw [Al] at e; cases e; exact new
  ·rw [Ag hb] at e
   exact(I.hok b u e).stay (λc v hc q=>k c v (hc.elim (λz=>by grind) λz=>nit c _ z) q) (λc q=>up _ _ q) λc xs q=>up _ _ q
end
noncomputable def SqK(κ:Bool)(K:Frag)(H:Hp)(a:Ch)(xs:List V):Prop:=match κ with
 | true=>SqL K H a xs
 | false=>SqT K H a xs
theorem SqK.at{κ:Bool}{X:Cx}{zG:List (Ch×Obj)}{Z:L2.St}{H:Hp}{s:On}{a:Ch}{xs:List V}(I:Inv X zG Z H s)(h:SqK κ X.K H a xs):∃its:List Db,Vals xs its/\SqAt κ s.heap a its.toArray:=by
 cases κ with
 | true=>obtain⟨its,r,pl,_⟩:=I.list h; exact⟨_,r,pl.isList⟩
 | false=>obtain⟨its,r,p,_⟩:=I.tuple h; exact⟨_,r,p⟩
noncomputable def Zy (K : Frag) (zX zW : Bool) (a b : Ch) (xs ys : List V) : It :=
  ⟨λi H => SqK zX K H a xs ∧ SqK zW K H b ys ∧ i < xs.length ∧ i < ys.length, λi H x H' => ∃ T p q, x = .ref T ∧ H T = none ∧ H' = BD H T (.tup [p, q]) ∧ xs[i]? = some p ∧ ys[i]? = some q,
   λi H => SqK zX K H a xs ∧ SqK zW K H b ys ∧ (xs.length ≤ i ∨ ys.length ≤ i)⟩
structure bG (zX zW:Bool) (z TI TO i1 i2 a b:Ch) (k:Nat) (h:dg):Prop where
 z:gy h z TI TO .none
 ti:fi h TI (.ref i1) (.ref i2)
 to:∃a b,fi h TO a b
 i1:ItAt zX h i1 a k
 i2:ItAt zW h i2 b k
theorem UW{P:eB}{w:eG}{K:Frag}{es:List d6}{j:Nat}{pos:Pos}(zX zW:Bool)(z TI TO i1 i2 a b:Ch)(xs ys:List V)(D:Zx z TI TO i1 i2 a b)(hTI:TI∉[z,TO,i1,i2]) :
  Turn P w K (.Tuple es j pos) (Zy K zX zW a b xs ys) [z,TI,TO,i1,i2] z (bG zX zW z TI TO i1 i2 a b) where
 mem:=by simp
 obj:=λi h st c hc=>by
  simp only [ZB,d9,or_false] at hc
  rcases hc with rfl | rfl | rfl | rfl | rfl
  ·exact⟨_,st.z,λv q=>by cases q⟩
  ·exact⟨_,st.ti,λv q=>by cases q⟩
  ·obtain⟨a,b,e⟩:=st.to
   exact⟨_,e,λv q=>by cases q⟩
  ·exact st.i1.lies
  ·exact st.i2.lies
 keep:=λi h h' st k=>by
  obtain⟨p,q,e⟩:=st.to;exact⟨k z (by simp) _ st.z,k TI (by simp) _ st.ti,⟨p,q,k TO (by simp) _ e⟩,st.i1.mv λo e=>k i1 (by simp) o e,st.i2.mv λo e=>k i2 (by simp) o e⟩
 item:=by
  intro X hP hw hK hc i zG s Z H E I hf st hg;subst hP hw hK;obtain⟨ha,hb,hi,hj⟩:=hg;obtain⟨us,r1,q1⟩:=ha.at I;obtain⟨ws,r2,q2⟩:=hb.at I;obtain⟨u,hu,ru⟩:=r1.get (No hi);obtain⟨v,hv,rv⟩:=r2.get (No hj);obtain⟨p,q,e⟩:=st.to;refine MR D st.z st.ti e st.i1 st.i2 q1 q2 (x:=u) (y:=v) (by simpa using hu) (by simpa using hv) λh' a1 a2 a3 a4 a5 a6 a7=>⟨_,rfl,?_⟩;refine wpAny_letOwnedTupleGo_zip a1 λh2 b1 b2=>?_;have hT:H s.heap.objs.size=none:=I.hok.fresh (Op _)
  have kk:∀c o,c∉[z,TO,i1,i2]->s.heap.get? c=some o->h2.get? c=some o:=λc o hc e=>by
   simp only [ZB,d9,or_false,not_or] at hc;exact b2.extBut _ _ hc.1 (a7 c o hc.1 hc.2.1 hc.2.2.1 hc.2.2.2 e)
  have I2:Inv X zG Z (BD H s.heap.objs.size (.tup [xs[i],ys[i]])) { s with heap:=h2 }:=by
   refine I.turnLaid (t':=s.toks) (ch:=[z,TO,i1,i2]) (λc hc=>hf c ?_) kk (Op _) ?_
   ·simp only [ZB,d9,or_false] at hc ⊢
    rcases hc with rfl | rfl | rfl | rfl <;> simp
   ·have nT:s.heap.objs.size≠z:=gz (XV st.z)
    exact⟨by show 2<=sizeLine; decide,[u,v],.cons ru (.cons rv .nil),⟨_,b2.extBut _ _ nT a5,rfl,_,rfl,rfl,rfl⟩⟩
  have ti2:fi h2 TI (.ref i1) (.ref i2):=kk _ _ hTI st.ti;refine⟨.ref s.heap.objs.size,_,I2,rfl,⟨_,_,_,rfl,hT,rfl,No hi,No hj⟩,⟨b1,ti2,⟨_,_,b2.extBut _ _ D.TOz a2⟩,a3.eb b2.extBut D.i1z,a4.eb b2.extBut D.i2z⟩,λc hc=>?_⟩;have hcn:H c=none:=(hf c hc).1
  have hlt:c≠s.heap.objs.size:=λz=>by
   obtain⟨o,ho,_⟩:∃o,s.heap.get? c=some o/\True:=by
    simp only [ZB,d9,or_false] at hc
    rcases hc with rfl | rfl | rfl | rfl | rfl
    ·exact⟨_,st.z,trivial⟩
    ·exact⟨_,st.ti,trivial⟩
    ·exact⟨_,e,trivial⟩
    ·obtain⟨o,q,_⟩:=st.i1.lies; exact⟨o,q,trivial⟩
    ·obtain⟨o,q,_⟩:=st.i2.lies; exact⟨o,q,trivial⟩
   rw [z] at ho;exact fH _ (XV ho)
  rw [Ag hlt]; exact hcn
 done:=by
  intro X hP hw hK hc i zG s Z H E I hf st hg;subst hP hw hK;obtain⟨ha,hb,hi⟩:=hg;obtain⟨us,r1,q1⟩:=ha.at I;obtain⟨ws,r2,q2⟩:=hb.at I;obtain⟨p,q,e⟩:=st.to;have l1:=r1.length;have l2:=r2.length;refine N9 (I.ok.hd hc) D st.z st.ti e st.i1 st.i2 q1 q2 (hi.imp (λhi=>by simp; omega) λhi=>by simp; omega) λh' kk=>⟨rfl,?_⟩;refine I.turnedL (t':=s.toks) (ch:=[z,TO,i1,i2]) (λc hc=>hf c ?_) λc o hc e=>?_
  ·simp only [ZB,d9,or_false] at hc ⊢
   rcases hc with rfl | rfl | rfl | rfl <;> simp
  ·simp only [ZB,d9,or_false,not_or] at hc
   exact kk c o hc.1 hc.2.1 hc.2.2.1 hc.2.2.2 e
 self:=λA i s Q E st h=>wpAny_pyIter_zip st.z h
section
variable {X:Cx}
theorem YQ(n a b:Nat)(h1:a<n)(h2:b<n):Zx (n+4) (n+2) (n+3) n (n+1) a b:=by
 constructor <;> (grind)
theorem YO(n:Nat):(n+2)∉[n+4,n+3,n,n+1]:=by
 grind
theorem YR(n c:Nat)(h:c∈[n+4,n+2,n+3,n,n+1]):n<=c:=by
 grind
noncomputable def cG(K:Frag)(ta:TA):TI:=λZ H R=>ta Z H λvs H1=>∃zX zW a b xs ys,vs=[.ref a,.ref b]/\SqK zX K H1 a xs/\SqK zW K H1 b ys/\R (Zy K zX zW a b xs ys) H1
theorem VC{e1 e2:d6}{es:List d6}{j:Nat}{tpos:Pos}{ta:TA}{p pos:Pos}(hg:Gl X "zip")(hm:X.mg "zip"=none)(ha:PA X [e1,e2] ta)(hs:autoParam (starEach [e1,e2] X.env=[(false,eval e1 X.env),(false,eval e2 X.env)]) zau3._auto_1)(hs2:autoParam (starEach [e2] X.env=[(false,eval e2 X.env)]) zau3._auto_1) :
  PI X (.Tuple es j tpos) (.Call (.Name "zip" p) [e1,e2] [] pos) (cG X.K ta):=by
 intro zG s Z H R I h;refine Call_ (C7 I hg hm boot_zip (ej (thn (ha pos zG s Z H _ I h) λus s1 ⟨vs,H1,I1,r1,q1⟩=>?_) (by rw [hs,hs2]) (by rw [hs2]; rfl)));obtain⟨zX,zW,a,b,xs,ys,e,h1,h2,q⟩:=q1;subst e;obtain⟨u,v,rfl,ru,rv⟩:=vals2 r1;cases ru;cases rv;obtain⟨us,r1',q1⟩:=h1.at I1;obtain⟨ws,r2',q2⟩:=h2.at I1;have la:a<s1.heap.objs.size:=by obtain⟨o,e⟩:=q1.lies; exact XV e
 have lb:b<s1.heap.objs.size:=by obtain⟨o,e⟩:=q2.lies; exact XV e
 refine OU q1 q2 λh' hz hTI hTO hi1 hi2 hk=>?_;refine wpAny_pyIter_zip hz ?_;have D:=YQ s1.heap.objs.size a b la lb;refine⟨s1.heap.objs.size+4,[s1.heap.objs.size+4,s1.heap.objs.size+2,s1.heap.objs.size+3,s1.heap.objs.size,s1.heap.objs.size+1],_,Zy X.K zX zW a b xs ys,H1,rfl,I1.kept (t':=s1.toks) hk,UW zX zW _ _ _ _ _ a b xs ys D (YO s1.heap.objs.size),⟨hz,hTI,⟨_,_,hTO⟩,hi1,hi2⟩,λc hc=>?_,q⟩;have hge:s1.heap.objs.size<=c:=YR s1.heap.objs.size c hc;exact I1.fpOk hge (I1.hok.fresh hge)
end
end L2
namespace Dp
open L2
noncomputable def Dz(ds es:List D):List D:=f7 (λd e=>.tup [d,e]) ds es
section
variable {K:Frag}
theorem NY{U V' M:Ch->Prop}{H:Hp}{d:D}{v:V}{ds:List D}(h:AtT K V' M H d v)(e:Ef d=some ds)(uV:∀a,U a->V' a)(vM:∀a,V' a->M a):∃κ a vs,v=.ref a/\Ats K M H ds vs/\∀M' H',Pres M H M' H'->Ext U H H'->SqK κ K H' a vs:=by
 cases d with
 | lst xs =>
  cases e;obtain⟨a,vs,e1,n1,hq,hs⟩:=h;refine⟨true,a,vs,e1,hs,λM' H' _ ex=>?_⟩
  rcases hq with hq | ⟨o,hq⟩
  ·exact .inl (.inl (ex.keep hq λz=>n1 (uV a z)))
  ·exact .inl (.inr ⟨o,ex.keep hq λz=>n1 (uV a z)⟩)
 | tup xs =>
  cases e;obtain⟨a,vs,e1,hq,hs⟩:=h;exact⟨false,a,vs,e1,hs,λM' H' pr _=>(hq.pres pr).sq⟩
 | _=>cases e
theorem QY{M:Ch->Prop}{H:Hp}{d:D}{v:V}{ds:List D}(h:At K M H d v)(e:Ef d=some ds):∃κ a vs,v=.ref a/\Ats K M H ds vs/\∀M' H',Pres M H M' H'->SqK κ K H' a vs:=by
 cases d with
 | lst xs =>
  cases e;obtain⟨a,vs,e1,hq,hs⟩:=h;exact⟨true,a,vs,e1,hs,λM' H' pr=>(hq.pres pr).sq⟩
 | tup xs =>
  cases e;obtain⟨a,vs,e1,hq,hs⟩:=h;exact⟨false,a,vs,e1,hs,λM' H' pr=>(hq.pres pr).sq⟩
 | _=>cases e
theorem KL{M:Ch->Prop}{H:Hp}{zX zW:Bool}{a b:Ch}{vs us:List V}{ds es:List D}(hs:Ats K M H ds vs)(ht:Ats K M H es us){i:Nat}{M':Ch->Prop}{H':Hp}(pr:Pres M H M' H')(h1:SqK zX K H' a vs)(h2:SqK zW K H' b us)(dom:∀a,M' a->∃o,H' a=some o) :
  (∀d,(Dz ds es)[i]?=some d->(Zy K zX zW a b vs us).go i H'/\∀x H2,(Zy K zX zW a b vs us).yld i H' x H2->Grow H' H2/\At K M' H2 d x)/\((Dz ds es).length<=i->(Zy K zX zW a b vs us).stop i H'):=by
 have l1:=hs.length;have l2:=ht.length;refine⟨λd hd=>?_,λhl=>⟨h1,h2,?_⟩⟩
 ·unfold Dz at hd
  rw [ic] at hd;cases q1:ds[i]? with
  | none=>rw [q1] at hd; simp at hd
  | some d1 =>
   cases q2:es[i]? with
   | none=>rw [q1,q2] at hd; simp at hd
   | some d2 =>
    rw [q1,q2] at hd;have hd':D.tup [d1,d2]=d:=dh hd;have i1:i<ds.length:=(Uf.mp q1).1;have i2:i<es.length:=(Uf.mp q2).1;refine⟨⟨h1,h2,by omega,by omega⟩,λx H2 y=>?_⟩;obtain⟨T,p,q,rfl,hT,rfl,e1,e2⟩:=y;obtain⟨v1,f1,a1⟩:=(hs.pres pr).get q1;obtain⟨v2,f2,a2⟩:=(ht.pres pr).get q2;rw [e1] at f1;rw [e2] at f2;cases f1;cases f2;subst hd';exact⟨Av hT,C3 dom hT ⟨p,[q],rfl,a1,q,[],rfl,a2,rfl⟩⟩
 ·unfold Dz at hl
  grind
end
section
variable {X:Cx}{e1 e2:Expr}{es:List Expr}{j:Nat}{tpos p pos:Pos}{ws:GQ}
noncomputable def QP(ws:GQ):GQ:=λn ρ P=>ws n ρ λds n1=>∃d e xs ys,ds=[d,e]/\Ef d=some xs/\Ef e=some ys/\P (Dz xs ys) n1
theorem XZ(hg:Gl X "zip")(hm:X.mg "zip"=none)(ha:YL X [e1,e2] ws)(hs:autoParam (starEach [e1,e2] X.env=[(false,eval e1 X.env),(false,eval e2 X.env)]) zau3._auto_1)(hs2:autoParam (starEach [e2] X.env=[(false,eval e2 X.env)]) zau3._auto_1) :
  Zt X (.Tuple es j tpos) (.Call (.Name "zip" p) [e1,e2] [] pos) (QP ws):=by
 obtain⟨t,a1,a2⟩:=ha;refine⟨_,VC hg hm a1 hs hs2,λC M H n ρ Z P Rr R w q=>?_⟩;refine a2 C M H n ρ Z _ _ R w λvs H1 ds n1 ee f1 r1 p=>?_;obtain⟨d,e,xs,ys,rfl,hd,he,p⟩:=p;cases r1 with
 | cons r rr =>
  cases rr with
  | cons r' rr =>
   cases rr;have R1:=R.step ee f1;obtain⟨zX,a,us,rfl,h1,s1⟩:=NY (U:=C.U) r hd R.uV R1.vM;obtain⟨zW,b,us',rfl,h2,s2⟩:=NY (U:=C.U) r' he R.uV R1.vM;refine⟨zX,zW,a,b,us,us',rfl,s1 M H1 (Pres.refl _ _) (Ext.refl _ _),s2 M H1 (Pres.refl _ _) (Ext.refl _ _),q _ H1 _ n1 ee f1 (λi M' H' pr ex dom=>KL h1 h2 pr (s1 M' H' pr ex) (s2 M' H' pr ex) dom) p⟩
theorem V1(hg:Gl X "zip")(hm:X.mg "zip"=none)(ha:Zu X [e1,e2] ws)(hs:autoParam (starEach [e1,e2] X.env=[(false,eval e1 X.env),(false,eval e2 X.env)]) zau3._auto_1)(hs2:autoParam (starEach [e2] X.env=[(false,eval e2 X.env)]) zau3._auto_1) :
  DI X (.Tuple es j tpos) (.Call (.Name "zip" p) [e1,e2] [] pos) (QP ws):=by
 obtain⟨t,a1,a2⟩:=ha;refine⟨_,VC hg hm a1 hs hs2,λC M H n ρ Z P Rr R w q=>?_⟩;refine a2 C M H n ρ Z _ _ R w λvs H1 ds n1 ee f1 r1 p=>?_;obtain⟨d,e,xs,ys,rfl,hd,he,p⟩:=p;obtain⟨v,r,rfl,r1,v',r',rfl,r2,rr⟩:=r1;cases (show r'=[] from rr);obtain⟨zX,a,us,rfl,h1,s1⟩:=QY r1 hd;obtain⟨zW,b,us',rfl,h2,s2⟩:=QY r2 he;exact⟨zX,zW,a,b,us,us',rfl,s1 M H1 (Pres.refl _ _),s2 M H1 (Pres.refl _ _),q _ H1 _ n1 ee f1 (λi M' H' pr dom=>KL h1 h2 pr (s1 M' H' pr) (s2 M' H' pr) dom) p⟩
noncomputable def cE:D->Option Key
 | .int i=>some (.inl i)
 | .str x=>some (.inr x)
 | _=>none
noncomputable def JN:List D->Option (List Key)
 | []=>some []
 | d::ds=>match cE d,JN ds with
  | some k,some ks=>some (k::ks)
  | _,_=>none
theorem HZ{K:Frag}{M:Ch->Prop}{H:Hp}:∀{ds:List D} {vs:List V} {ks:List Key},JN ds=some ks->Ats K M H ds vs->vs=ks.map kOf
 | [],vs,ks,e,h=>by cases e; exact h
 | d::ds,vs,ks,e,h=>by
  obtain⟨v,r,e1,h1,h2⟩:=h;unfold JN at e
  split at e
  ·rename_i k ks' hk hks
   cases e;rw [e1,HZ hks h2]
   congr 1
   cases d with
   | int i=>cases hk; exact h1
   | str x=>cases hk; exact h1.1
   | _=>cases hk
  ·cases e
noncomputable def E3(d e:D)(P:D->Prop):Prop:=match d,e with
 | .int i,.int j=>P (.bl (decide (i<j)))
 | .str i,.str j=>P (.bl (decide (i.cps.toList<j.cps.toList)))
 | .tup xs,.tup ys=>∃ks ls,JN xs=some ks/\JN ys=some ls/\CM ks ls=true/\P (.bl (G4 ks ls))
 | _,_=>False
noncomputable def aM(K:Frag):R2:=λx y H Q=>Yo x y H Q\/aL K x y H Q
theorem D_{k:Nat}(hr:Room k X.A):OpR X (compareOp .Lt) (aM X.K):=op_ltU.or (Y5 hr.units0)
theorem Gh:FC X.K .sh (aM X.K) E3:=λU M H d e x y P Q dom vM hx hy w q=>by
 unfold E3 at w
 split at w
 ·exact .inl (YH U M H _ _ x y P Q dom vM hx hy w q)
 ·exact .inl (YH U M H _ _ x y P Q dom vM hx hy w q)
 ·obtain⟨ks,ls,h1,h2,h3,w⟩:=w
  obtain⟨a,vs,rfl,ha,hs⟩:=hx.tup;obtain⟨b,us,rfl,hb,ht⟩:=hy.tup;have e1:=HZ h1 hs;have e2:=HZ h2 ht;subst e1 e2;exact .inr ⟨a,b,ks,ls,rfl,rfl,ha.sq,hb.sq,h3,q _ H (.bl _) .refl rfl w⟩
 grind
end
end Dp
namespace L2
section
variable {prog:Program}{w:World}{A:Around}{E:Value->Shared->Prop}{s:Shared}
theorem Oo{t sl:Ch}{items:Array Db}{vl vu:Db}{lo hi:Option Int}{Q:Db->On->Prop}(ht:IsTup s.heap t items)(hs:s.heap.IsSliceOf sl vl vu .none)(pl:im vl lo)(pu:im vu hi)
  (hw:HT.sIx items.size 0 lo=0/\HT.sIx items.size items.size hi=items.size) (h:Q (.ref t) s):wpAny (model prog w) A (getItem (.ref t) (.ref sl)) Q E s:=by
 obtain⟨os,hos,hcs,hds⟩:=id hs;have hTs:s.TypeIs (.ref sl) "slice":=⟨os,hos,hcs⟩;unfold getItem
 (try with_reducible refine fI ?_); (first | refine Ev (T0 ?_) | skip)
 refine Ev (jR ht.typeIs (by decide) (Ev (fT (name:=gK "__getitem__") ht.typeIs eJ (gF eJ ht.typeIs i7 ?_ (jG _ _)))));show wpAny (model prog w) _ (hZ (.ref t) >>= _) _ _ s;refine Ev (tupleItemsOf_ ht (Ev (g0 hTs ?_))); rw [if_pos (by decide)]
 refine Ev (HT.sliceApplied_gen hs pl pu ?_);have hyes:(((HT.sIx items.size 0 lo:Nat):Int)==0&&(1:Int)==1&&(HT.sIx items.size items.size hi - HT.sIx items.size 0 lo)==items.size)=true:=by rw [hw.1,hw.2]; simp
 show wpAny (model prog w) _ (if (((HT.sIx items.size 0 lo:Nat):Int)==0&&(1:Int)==1&&(HT.sIx items.size items.size hi - HT.sIx items.size 0 lo)==items.size)=true then _ else _) _ _ s;rw [if_pos hyes];refine Ev (m:=jN _) ?_;unfold jN;refine Ev (g0 ht.typeIs (T0 ?_));show wpAny (model prog w) _ (if ((gn "tuple"==gn "tuple")=true) then _ else _) _ _ s;rw [if_pos (by decide)]
 first
  | grind
  | exact Ev (jc (T0 ⟨_,rfl,T0 h⟩))
  | grind
theorem LR{α β:Type}{f g:α->Option β}:∀{l:List α},(∀a∈l,f a=g a)->l.filterMap f=l.filterMap g
 | [],_=>rfl
 | a::l,h=>by
  rw [gk,gk,h a Re,LR λx hx=>h x (Sc _ hx)]
theorem Ul(l:List Db):∀(n:Nat),n<=l.length->((eP n).filterMap fun(k:Nat)=>l[n - 1 - k]?)=(l.take n).reverse:=by
 intro n
 induction n with
 | zero=>intro _; simp
 | succ n ih =>
  intro h;have hlt:n<l.length:=h;rw [iS,gk];have e0:l[n+1 - 1 - 0]?=some l[n]:=by rw [show n+1 - 1 - 0=n by omega,No hlt]
  simp only [e0];rw [jF]
  have e1:((fun(k:Nat)=>l[n+1 - 1 - k]?)∘Nat.succ)=fun(k:Nat)=>l[n - 1 - k]?:=by
   grind
  rw [e1,ih (by omega),List.take_add_one,No hlt,List.reverse_append];rfl
theorem HI(xs:Array Db):((eP xs.size).filterMap fun(k:Nat)=>xs[(((xs.size:Int) - 1)+(k:Int)*(-1)).toNat]?).toArray=xs.toList.reverse.toArray:=by
 have h:=Ul xs.toList _ (Op _);rw [iY] at h
 have e:(eP xs.size).filterMap (fun(k:Nat)=>xs[((xs.size - 1)+(k:Int)*(-1)).toNat]?)=(eP xs.toList.length).filterMap λk=>xs.toList[xs.toList.length - 1 - k]?:=by
  refine LR λk hk=>?_;rw [show ((xs.size - 1)+(k:Int)*(-1)).toNat=xs.size - 1 - k by omega];simp
 rw [e,h]
theorem QE{sl:Ch}{t:Tok}{n:Nat}{Q:Int×Int×Nat->On->Prop}(hs:s.heap.IsSliceOf sl .none .none (.int (-1) t))(h:Q ((n:Int) - 1,-1,n) s):wpAny (model prog w) A (jL (.ref sl) (pure (n:Int))) Q E s:=by
 obtain⟨os,hos,hcs,hds⟩:=id hs;refine Ev (Ev (fC hos hds (x:=.none) rfl (Ev (fC hos hds (x:=.none) rfl (Ev (fC hos hds (x:=.int (-1) t) rfl (T0 ?_)))))));refine Ev (HT.slicePart_ (IsPart.int (-1) t) ?_);rw [if_neg (by decide)];show wpAny (model prog w) _ (match gY none none (-1) (n:Int) with | (lo,hi)=>pure (lo,(-1:Int),fc lo hi (-1))) _ _ s;have e1:gY none none (-1) (n:Int)=((n:Int) - 1,-1):=rfl;rw [e1]
 have e2:fc ((n:Int) - 1) (-1) (-1)=n:=by
  unfold fc
  grind
 show wpAny (model prog w) _ (pure _) _ _ s;rw [e2];exact T0 h
theorem Sz{t sl:Ch}{items:Array Db}{tk:Tok}{Q:Db->On->Prop}(ht:IsTup s.heap t items)(hs:s.heap.IsSliceOf sl .none .none (.int (-1) tk))(hsz:items.size<=sizeLine)
  (h:Q (.ref s.heap.objs.size) { s with heap:=s.heap.push { cls:=.type "tuple",data:=.seq items.toList.reverse.toArray } }):wpAny (model prog w) A (getItem (.ref t) (.ref sl)) Q E s:=by
 obtain⟨os,hos,hcs,hds⟩:=id hs;have hTs:s.TypeIs (.ref sl) "slice":=⟨os,hos,hcs⟩
 have htake:sizeOk (.seq items.toList.reverse.toArray):=by
  show items.toList.reverse.toArray.size<=sizeLine
  simpa using hsz
 unfold getItem
 (try with_reducible refine fI ?_); (first | refine Ev (T0 ?_) | skip)
 refine Ev (jR ht.typeIs (by decide) (Ev (fT (name:=gK "__getitem__") ht.typeIs eJ (gF eJ ht.typeIs i7 ?_ (jG _ _)))));show wpAny (model prog w) _ (hZ (.ref t) >>= _) _ _ s;refine Ev (tupleItemsOf_ ht (Ev (g0 hTs ?_))); rw [if_pos (by decide)]
 refine Ev (QE hs ?_);have hno:¬(((items.size:Int) - 1==0&&(-1:Int)==1&&items.size==items.size)=true):=by simp
 show wpAny (model prog w) _ (if ((items.size:Int) - 1==0&&(-1:Int)==1&&items.size==items.size)=true then _ else _) _ _ s;rw [if_neg hno,HI]
 first
  | exact Ev (m:=gh _) (fw (T0 ⟨_,rfl,T0 h⟩) htake)
  | omega
  | grind
  | grind
theorem MS(items:Array Db):slicePick items none none (some (-1))=items.toList.reverse.toArray:=by
 unfold slicePick;have e1:sliceBounds none none (some (-1)) _=((items.size:Int) - 1,-1,-1):=rfl;rw [e1];simp only [sliceRange];rw [← HI,jF]
 congr 1
 have e2:(if -1 > 0 then if (items.size:Int) - 1 < -1 then (-1 - ((items.size:Int) - 1)+-1 - 1) / -1 else 0 else if (items.size:Int) - 1 > -1 then ((items.size:Int) - 1 - -1 - -1 - 1) / - -1 else 0).toNat=items.size:=by
  grind
 rw [e2];refine LR λk _=>?_
 grind
end
section
variable {X:Cx}{e st:Expr}{te tst:TE}{pos p2:Pos}
noncomputable def b9(K:Frag):V->Hp->VK->Prop:=λx H Q=>(∃a xs,x=.ref a/\SqL K H a xs/\∀p,H p=none->Q (.ref p) (BD H p (.lst xs.reverse)))\/∃a xs,x=.ref a/\SqT K H a xs/\∀p,H p=none->Q (.ref p) (BD H p (.tup xs.reverse))
noncomputable def bv(K:Frag)(te tst:TE):TE:=λZ H Q=>te Z H λx H1=>tst Z H1 λi H2=>i=.int (-1)/\b9 K x H2 Q
theorem Y0(he:PE X e te)(hst:PE X st tst):PE X (.Subscript e (.Slice none none (some st) p2) pos) (bv X.K te tst):=by
 intro zG s Z H Q I h;refine Subscript_ (thn (he zG s Z H _ I h) λv s1 ⟨x,H1,I1,r1,q1⟩=>?_);refine wpAny_Slice ?_;rw [evalPart_none,evalPart_some];refine T0 (T0 (thn (hst zG s1 Z H1 _ I1 q1) λvs s3 ⟨i,H3,I3,r3,q3⟩=>?_));obtain⟨rfl,q3⟩:=q3;obtain⟨t,rfl⟩:=r3;have I4:Inv X zG Z H3 { s3 with heap:=s3.heap.push { cls:=.type "slice",data:=.fields #[.none,.none,.int (-1) t] } }:=I3.kept (t':=s3.toks) λb ob q=>FM _ q;have hs:({ s3 with heap:=s3.heap.push { cls:=.type "slice",data:=.fields #[.none,.none,.int (-1) t] } }:On).heap.IsSliceOf s3.heap.objs.size .none .none (.int (-1) t):=kN ..;show wpAny (model X.prog X.w) X.A (subscriptTail e (.Slice none none (some st) p2) v (.ref s3.heap.objs.size)) (EP X zG Z Q) X.xe { s3 with heap:=s3.heap.push { cls:=.type "slice",data:=.fields #[.none,.none,.int (-1) t] } }
 rcases q3 with ⟨a,xs,rfl,hq,q⟩ | ⟨a,xs,rfl,hq,q⟩
 ·cases r1
  obtain⟨its,r,ht,hz⟩:=I4.list hq;have hlen:=r.length;refine tail_any (ops:=[.ref a,.ref s3.heap.objs.size]) ht.isList.typeIs jS.lookup ?_ (by with_unfolding_all rfl);refine wpAny_getItem_list_slice ht.isList hs .none .none (.int (-1) t) (by decide) ?_ (by rw [dW]; omega);rw [MS];refine⟨.ref _,_,I4.laid (t':=s3.toks) (o:=.lst xs.reverse) (λb ob q=>FM _ q) (Op _) ?_,rfl,q _ (I4.hok.fresh (Op _))⟩;exact⟨by rw [fP]; exact hz,_,0,r.reverse,UF _ rfl⟩
 ·cases r1
  obtain⟨its,r,ht,hz⟩:=I4.tuple hq;have hlen:=r.length;refine tail_any (ops:=[.ref a,.ref s3.heap.objs.size]) ht.typeIs eJ.lookup ?_ (by with_unfolding_all rfl);refine Sz ht hs (by rw [dW]; omega) ?_;refine⟨.ref _,_,I4.laid (t':=s3.toks) (o:=.tup xs.reverse) (λb ob q=>FM _ q) (Op _) ?_,rfl,q _ (I4.hok.fresh (Op _))⟩;exact⟨by rw [fP]; exact hz,_,r.reverse,IsTupN.new _ _⟩
noncomputable def Xz(K:Frag):V->Option Int->Option Int->Hp->VK->Prop:=λx lo hi H Q=>∃a xs,x=.ref a/\SqT K H a xs/\(HT.sIx xs.length 0 lo=0/\HT.sIx xs.length xs.length hi=xs.length)/\Q (.ref a) H
theorem Wm:SlR X (Xz X.K):=by
 intro zG s Z H x v vl vu lo hi sl Q I rx hs pl pu h;obtain⟨a,xs,rfl,hx,hw,q⟩:=h;cases rx;obtain⟨its,r,ht,hz⟩:=I.tuple hx;have hlen:=r.length.symm;exact⟨_,_,eJ.lookup,ht.typeIs,Oo ht hs pl pu (by grind) ⟨.ref a,H,I,rfl,q⟩⟩
end
section
variable {X:Cx}
noncomputable def U2(K:Frag):R2:=λx y H Q=>∃a b ys,x=.ref a/\y=.ref b/\SqT K H a []/\SqT K H b ys/\Q (.ref b) H
theorem VO:OpR X (binaryOp .Add) (U2 X.K):=by
 intro zG s Z H x y v u Q I rx ry h;obtain⟨a,b,ys,rfl,rfl,ha,hb,q⟩:=h;cases rx;cases ry;obtain⟨its,r1,p1,_⟩:=I.tuple ha;obtain⟨its2,r2,p2,_⟩:=I.tuple hb;cases r1;obtain⟨⟨cls,dd,data,sl⟩,ho,hc,n,hd⟩:=id p1;obtain⟨⟨cls2,dd2,data2,sl2⟩,ho2,hc2,n2,hd2⟩:=id p2;subst hc hd hc2 hd2;exact concat_meets ⟨_,ho,rfl⟩ ⟨_,ho2,rfl⟩ jg seq_tuple_add PySem.F.slot_tuple_add PySem.F.entry_tuple_add (PySem.F.args_tuple_add_2 _ _) (tuple_addW0 a b _ _ n n2 dd _ sl _ (by simp)) ⟨ho,ho2,⟨.ref b,H,I,rfl,q⟩⟩
noncomputable def bI(b:Bool):Int:=if b=true then 1 else 0
noncomputable def bT(g:Int->Int->Int):R2:=λx y H Q=>∃k j,x=.bl k/\y=.int j/\Q (.int (g (bI k) j)) H
noncomputable def cj(g:Int->Int->Int):R2:=λx y H Q=>∃i k,x=.int i/\y=.bl k/\Q (.int (g i (bI k))) H
theorem op_add_bi:OpR X (binaryOp .Add) (bT λi j=>i+j):=by
 intro zG s Z H x y v u Q I rx ry h;obtain⟨k,j,rfl,rfl,q⟩:=h;cases rx;obtain⟨t,rfl⟩:=ry;exact PySem.IntBool.add_bool_int ⟨.int _,H,I.tok _,⟨_,rfl⟩,q⟩
theorem op_sub_bi:OpR X (binaryOp .Sub) (bT λi j=>i - j):=by
 intro zG s Z H x y v u Q I rx ry h;obtain⟨k,j,rfl,rfl,q⟩:=h;cases rx;obtain⟨t,rfl⟩:=ry;exact PySem.IntBool.sub_bool_int ⟨.int _,H,I.tok _,⟨_,rfl⟩,q⟩
theorem TU:OpR X (binaryOp .Sub) (cj λi j=>i - j):=by
 intro zG s Z H x y v u Q I rx ry h;obtain⟨i,k,rfl,rfl,q⟩:=h;obtain⟨t,rfl⟩:=rx;cases ry;exact PySem.IntBool.sub_int_bool ⟨.int _,H,I.tok _,⟨_,rfl⟩,q⟩
noncomputable def aQ(neg:Bool):R2:=λx y H Q=>∃a b,x=.bl a/\y=.bl b/\Q (.bl (if neg then !(a==b) else a==b)) H
theorem Y6:OpR X (compareOp .Is) (aQ false):=by
 intro zG s Z H x y v u Q I rx ry h;obtain⟨a,b,rfl,rfl,q⟩:=h;cases rx;cases ry;exact is_bool ⟨.bl _,H,I,rfl,q⟩
end
end L2
namespace Dp
open L2
section
variable {K:Frag}{X:Cx}
noncomputable def B0(d e:D)(P:D->Prop):Prop:=match d,e with
 | .int i,.int j=>P (.int (i+j))
 | .bl k,.int j=>P (.int (bI k+j))
 | .str i,.str j=>i.length+j.length<=sizeLine/\P (.str (i++j))
 | .tup i,.tup j=>i.length+j.length<=sizeLine/\P (.tup (i++j))
 | .lst i,.lst j=>i.length+j.length<=sizeLine/\P (.lst (i++j))
 | _,_=>False
noncomputable def X4(K:Frag):R2:=λx y H Q=>U4 K x y H Q\/(bT λi j=>i+j) x y H Q\/U2 K x y H Q
theorem Bz:OpR X (binaryOp .Add) (X4 X.K):=op_addU.or (op_add_bi.or VO)
theorem Cc:FC X.K .sh (X4 X.K) B0:=λU M H d e x y P Q dom vM hx hy w q=>by
 unfold B0 at w
 split at w
 ·exact .inl (OZ U M H (.int _) (.int _) x y P Q dom vM hx hy w q)
 ·rename_i k j
  exact .inr (.inl ⟨k,j,hx,hy,q _ H (.int _) .refl rfl w⟩)
 ·exact .inl (OZ U M H _ (.str _) x y P Q dom vM hx hy w q)
 ·rename_i i j
  cases i with
  | nil =>
   obtain⟨a,vs,rfl,ha,hs⟩:=hx.tup;obtain⟨b,us,rfl,hb,ht⟩:=hy.tup;cases (hs);exact .inr (.inr ⟨a,b,us,rfl,rfl,ha.sq,hb.sq,q _ H (.tup j) .refl ⟨b,us,rfl,hb,ht⟩ (by grind)⟩)
  | cons i0 i=>exact .inl (OZ U M H _ (.tup j) x y P Q dom vM hx hy ⟨(by grind),w⟩ q)
 ·exact .inl (OZ U M H (.lst _) (.lst _) x y P Q dom vM hx hy w q)
 grind
noncomputable def Fi(d e:D)(P:D->Prop):Prop:=match d,e with
 | .int i,.int j=>P (.int (i - j))
 | .bl k,.int j=>P (.int (bI k - j))
 | .int i,.bl k=>P (.int (i - bI k))
 | _,_=>False
noncomputable def Xx:R2:=λx y H Q=>(JK λi j=>.int (i - j)) x y H Q\/(bT λi j=>i - j) x y H Q\/(cj λi j=>i - j) x y H Q
theorem Eu:OpR X (binaryOp .Sub) Xx:=op_sub.or (op_sub_bi.or TU)
theorem G_:FC K .sh Xx Fi:=λU M H d e x y P Q dom vM hx hy w q=>by
 unfold Fi at w
 split at w
 ·exact .inl (WI U M H _ _ x y P Q dom vM hx hy w q)
 ·rename_i k j
  exact .inr (.inl ⟨k,j,hx,hy,q _ H (.int _) .refl rfl w⟩)
 ·rename_i i k
  exact .inr (.inr ⟨i,k,hx,hy,q _ H (.int _) .refl rfl w⟩)
 grind
noncomputable def ZS(neg:Bool)(d e:D)(P:D->Prop):Prop:=match d,e with
 | .bl a,.bl b=>P (.bl (if neg then !(a==b) else a==b))
 | _,_=>False
theorem bE{neg:Bool}:FC K .sh (aQ neg) (ZS neg):=λU M H d e x y P Q dom vM hx hy w q=>by
 unfold ZS at w
 split at w
 ·rename_i a b
  exact⟨a,b,hx,hy,q _ H (.bl _) .refl rfl w⟩
 grind
noncomputable def Pt(d:D)(lo hi:Option Int)(P:D->Prop):Prop:=match d with
 | .str z=>P (.str (Txt.slice z lo hi))
 | .lst xs=>P (.lst (cutD xs lo hi))
 | .tup xs=>P (.tup (cutD xs lo hi))
 | _=>False
noncomputable def aJ(K:Frag):V->Option Int->Option Int->Hp->VK->Prop:=λx lo hi H Q=>aG x lo hi H Q\/aI K x lo hi H Q\/aH K x lo hi H Q\/Xz K x lo hi H Q
theorem Wn:SlR X (aJ X.K):=sl_U.or (sl_list.or (sl_tup.or Wm))
theorem SY{M:Ch->Prop}{H:Hp}{ds:List D}{vs:List V}(lo hi:Option Int)(h:Ats K M H ds vs):Ats K M H (cutD ds lo hi) (P1 vs lo hi):=by
 unfold cutD P1;rw [h.length];exact(h.drop _).take _
theorem Si:cu K .sh (aJ K) Pt:=by
 intro U M H d x lo hi P Q dom vM hx w q;unfold Pt at w
 split at w
 ·rename_i z
  exact .inl ⟨z,hx.str.1,hx.str.2,q _ H (.str (Txt.slice z lo hi)) .refl ⟨rfl,dn (Txt.slice_le z lo hi) hx.str.2⟩ w⟩
 ·rename_i xs
  obtain⟨a,vs,rfl,_,ha,hs⟩:=hx;exact .inr (.inl ⟨a,vs,rfl,.inl ha,λp hp=>q _ _ (.lst _) (Av hp) ((CI (U:=U) hp (SY lo hi hs)).shOf dom (by grind)) w⟩)
 ·rename_i xs
  obtain⟨a,vs,rfl,ha,hs⟩:=hx.tup
  by_cases hw:HT.sIx vs.length 0 lo=0/\HT.sIx vs.length vs.length hi=vs.length
  ·refine .inr (.inr (.inr ⟨a,vs,rfl,ha.sq,hw,?_⟩))
   have e:cutD xs lo hi=xs:=by
    unfold cutD;rw [← hs.length,hw.1,hw.2,List.drop_zero,Nat.sub_zero,hs.length,iY]
   rw [e] at w;exact q _ H (.tup xs) .refl ⟨a,vs,rfl,ha,hs⟩ w
  ·exact .inr (.inr (.inl ⟨a,vs,rfl,ha.sq,hw,λp hp=>q _ _ (.tup _) (Av hp) (C3 dom hp (SY lo hi hs)) w⟩))
 grind
noncomputable def Z2(wa wst:DW):DW:=λn ρ P=>wa n ρ λd n1=>wst n1 ρ λi n2=>i=.int (-1)/\match d with
 | .lst xs=>P (.lst xs.reverse) n2
 | .tup xs=>P (.tup xs.reverse) n2
 | _=>False
theorem ZY{a st:d6}{zU κs:Kd}{wa wst:DW}{pos p2:Pos}(ha:DE X a zU wa)(hst:DE X st κs wst):DE X (.Subscript a (.Slice none none (some st) p2) pos) .sh (Z2 wa wst):=by
 obtain⟨t,h1,h2⟩:=ha;obtain⟨u,g1,g2⟩:=hst;refine⟨_,Y0 h1 g1,λC M H n ρ Z P Q R w q=>?_⟩;refine h2 C M H n ρ Z _ _ R w λv H1 d n1 e1 f1 r1 p=>?_;have R1:=R.step e1 f1;have tv:=r1.tpOf R.dom R.vM;refine g2 C M H1 n1 ρ Z _ _ R1 p λi H2 z n2 e2 f2 r2 p2=>?_;have R2':=R1.step e2 f2;have tv2:=tv.pres (R1.pres e2) e2 R.uV;obtain⟨rfl,p2⟩:=p2;refine⟨Iz r2,?_⟩;cases d with
 | lst xs =>
  obtain⟨a,vs,rfl,_,ha,hs⟩:=tv2;refine .inl ⟨a,vs,rfl,.inl ha,λp hp=>?_⟩;have g:Grow H2 (BD H2 p (.lst vs.reverse)):=Av hp;exact q _ _ (.lst xs.reverse) n2 ((e1.trans e2).trans g.ext) (f2.grow g) ((CI (U:=C.V) hp hs.reverse).shOf R2'.dom (by intro z; cases z)) p2
 | tup xs =>
  obtain⟨a,vs,rfl,ha,hs⟩:=tv2.tup;refine .inr ⟨a,vs,rfl,ha.sq,λp hp=>?_⟩;have g:Grow H2 (BD H2 p (.tup vs.reverse)):=Av hp;exact q _ _ (.tup xs.reverse) n2 ((e1.trans e2).trans g.ext) (f2.grow g) (C3 R2'.dom hp hs.reverse) p2
 | _=>exact p2.elim
end
end Dp
namespace Nt
open L2 Dp
noncomputable def DB:W2:=λss n P=>∃m:Int,ss=[.fd,.sh (.int m)]/\1<=m/\m<1073741824/\1<=n/\∀r:Int,0<=r->r<m->P (.int r) (n - 1)
noncomputable def cs(x:Str):List Nat:=x.cps.toList
theorem Ze{x y:Str}(h:cs x=cs y):x=y:=by
 obtain⟨a⟩:=x;unfold cs at h
 simp_all
noncomputable def Po(x:Str):Prop:=1<=x.length/\x.length<=8/\∀c∈cs x,97<=c/\c<=122
noncomputable def rising(xs:List Str):Prop:=xs.Pairwise λx y=>cs x<cs y
theorem VT(a b:List Nat):ltCps a b=decide (a<b):=ltCps_eq a b
theorem JM:∀(l:List Str) (p:Str),risingS p l=true->(p::l).Pairwise λa b=>¬cs b<cs a
 | [],p,_=>jq _ _
 | x::r,p,h=>by
  have h':(!ltCps _ _&&risingS x r)=true:=h;rw [de,jU,VT,decide_eq_false_iff_not] at h';have ih:=JM r x h'.2;refine eq.mpr ⟨λy hy=>?_,ih⟩
  rcases ZB.mp hy with rfl | hy
  ·exact h'.1
  ·exact List.le_trans h'.1 ((eq.mp ih).1 y hy)
theorem D1{l:List Str}(h:sortedS l=true)(nd:l.Nodup):rising l:=by
 have hp:l.Pairwise λa b=>¬cs b<cs a:=by
  cases l with
  | nil=>simp_all
  | cons x r=>exact JM r x h
 exact(hp.and nd).imp λ{a b} ⟨h1,h2⟩=>iD λh3=>h2 (Ze (List.le_antisymm h1 h3))
theorem DU(lo:Int)(n:Nat):(Dl lo n).length=n:=by unfold Dl; grind
theorem Kr{lo:Int}{n:Nat}{d:D}(h:d∈Dl lo n):∃k:Nat,k<n/\d=.int (lo+k):=by
 obtain⟨k,hk,rfl⟩:=Rs.mp h;exact⟨k,f_.mp hk,rfl⟩
end Nt
namespace K37
open L2 Dp Nt
noncomputable def top(i:Nat):eA:=PySem.Challenge.pw_thinnet_k37_papers_of_pairs.main.body.getD i (.Pass ⟨0,0,0,0⟩)
noncomputable abbrev Gv:eA:=top 1
noncomputable abbrev D7:eA:=top 2
noncomputable abbrev FV:eA:=top 3
noncomputable abbrev Ic:eA:=top 4
noncomputable abbrev Gu:eA:=top 5
noncomputable abbrev Gr:eA:=top 6
noncomputable abbrev Qe:eA:=top 7
noncomputable abbrev FU:eA:=top 8
noncomputable abbrev Ie:eA:=top 9
noncomputable abbrev Ib:eA:=top 10
noncomputable abbrev FS:eA:=top 12
noncomputable abbrev Ck:eA:=top 13
noncomputable abbrev Eh:eA:=top 14
noncomputable abbrev Ek:eA:=top 15
noncomputable abbrev Uj:eA:=top 16
noncomputable abbrev Ko:eA:=top 17
noncomputable abbrev Em:eA:=top 19
noncomputable abbrev FQ:eA:=top 20
noncomputable abbrev Ih:eA:=top 21
noncomputable abbrev D5:eA:=top 22
noncomputable abbrev FT:eA:=top 24
noncomputable abbrev DM:eA:=top 25
noncomputable abbrev Ej:eA:=top 27
noncomputable abbrev El:eA:=top 28
noncomputable abbrev CD:eA:=top 29
noncomputable abbrev Gs:eA:=top 30
noncomputable abbrev FR:eA:=top 31
noncomputable abbrev D6:eA:=top 32
noncomputable abbrev Eg:eA:=top 43
noncomputable abbrev Ig:eA:=top 44
noncomputable abbrev D4:eA:=top 45
noncomputable abbrev Gw:eA:=top 46
noncomputable abbrev FW:eA:=top 47
noncomputable abbrev FX:eA:=top 48
noncomputable abbrev Ei:eA:=top 49
noncomputable abbrev FZ:eA:=top 51
noncomputable abbrev Dq:eA:=top 52
noncomputable abbrev Es:eA:=top 53
noncomputable abbrev D9:eA:=top 54
noncomputable abbrev Gx:eA:=top 55
noncomputable abbrev Er:eA:=top 56
noncomputable abbrev DN:eA:=top 57
noncomputable abbrev Eo:eA:=top 58
noncomputable abbrev D8:eA:=top 59
noncomputable abbrev En:eA:=top 60
noncomputable abbrev DP:eA:=top 61
noncomputable abbrev Gz:eA:=top 62
noncomputable abbrev DR:eA:=top 63
noncomputable abbrev G0:eA:=top 64
noncomputable abbrev Ep:eA:=top 66
noncomputable abbrev Et:eA:=top 67
noncomputable abbrev FY:eA:=top 68
noncomputable abbrev DQ:eA:=top 69
noncomputable abbrev C6:eA:=top 70
noncomputable abbrev Co:eA:=top 71
noncomputable abbrev G1:eA:=top 72
noncomputable abbrev Gy:eA:=top 73
noncomputable abbrev Kp:eA:=top 74
structure Txt (K:Frag) (mg:Str->Option Db):Prop where
 Gal:mg "abs"=none
 Gae:mg "all"=none
 Gan:mg "bool"=none
 Gag:mg "enumerate"=none
 Gao:mg "int"=none
 Gaa:mg "isinstance"=none
 Gac:mg "len"=none
 Gak:mg "list"=none
 Gai:mg "min"=none
 Gaf:mg "range"=none
 Gah:mg "reversed"=none
 Gap:mg "set"=none
 Gad:mg "sorted"=none
 Gaj:mg "str"=none
 Gab:mg "tuple"=none
 Gam:mg "zip"=none
section
variable {P:Program}{w:World}{K:Frag}{mg:Str->Option Value}{base:Heap}
theorem kP:Ad ["_law_feed_here","_law_many","_law_digit","_law_at","_law_cell","_law_first"] ["_law_feed_here","_law_many"] (AO Dq):=⟨rfl,rfl,rfl,by decide +kernel,rfl,by decide +kernel,by decide +kernel⟩
theorem W7{f:Ch}{fd:eY}(F:Fun K "_law_next" "_law_next" Dq f fd)(ml:mg "len"=none):A4 P w K mg base Bw 1 f fd ["_law_feed_here","_law_many"] (CO K .sh DB 2):=by
 refine F.ok kP (λvs H Q E h=>h.1) (λcdv A outer s H vs Q E hr h=>?_);obtain⟨hl,F0,U,V',M,n,ss,Pd,ra,⟨m,rfl,hm1,hm2,hn,hP⟩,q⟩:=h;obtain⟨dom,fU,uV,vM,fd0,pa⟩:=ra;cases pa with
 | cons r1 pa =>
 cases pa with
 | cons r2 pa =>
 cases pa;obtain⟨⟨f0,c⟩,e0,hF⟩:=r1.1;cases e0;obtain⟨v2,e2,h2⟩:=r2.1;cases e2;cases (show _=V.int m from h2);obtain⟨a,r,cells,hf,hcf,hc,hcl,ha0,han⟩:=fd0 (f0,c) hF
 have fin:∀(a' r' z:Int) (H':Hp),(∀b o,H b=some o->b≠f0->H' b=some o)->H' f0=some (.lst [.ref c,.int a',.int r'])->0<=a'->a'<=a+1->0<=z->z<m->Q (.int z) H':=by
  intro a' r' z H' hk hf' h0 h1 hz0 hz1;refine q (.int z) H' (.int z) (n - 1) (λb o e=>?_) (λg hg=>?_) rfl (hP z hz0 hz1)
  ·by_cases hb:b=f0
   ·subst hb
    exact⟨_,hf',λnu=>absurd (fU (b,c) hF) nu,λvs z=>by rw [z,hf] at e; cases e⟩
   ·exact⟨o,hk b o e hb,λ_=>rfl,λ_ _=>rfl⟩
  ·have:g=(f0,c):=dh (hg.symm.trans hF)
   subst this;exact⟨a',r',cells,hf',hcf,⟨hc.1,hk c _ hc.2 hcf⟩,hcl,h0,by omega⟩
 have hu:(A.deeper (envOfC "_law_next" (AO Dq) s.heap.objs.size f cdv)).units<cLine:=hr.units0;have hsq:∀{H':Hp} {xs:List V},H' f0=some (.lst xs)->SqL K H' f0 xs:=λh=>SqL.of h;have ed:∀z:Int,0<=z % m/\z % m<m:=λz=>⟨Int.emod_nonneg _ (by omega),Int.emod_lt_of_pos _ (by omega)⟩
 refine⟨_,BV (U_ (HJ X7 (FE ix_list (pv 0) A9 (λ_ _=>rfl)) A9 (Ak _))
   (BV (Fb (i:=2) kP.nd rfl (TW rfl) (B4 Fd (FE ix_list (pv 0) A9 (λ_ _=>rfl)) (pv 1)))
   (BV (K4 (B4 HR (FE ix_list (pv 0) A9 (λ_ _=>rfl)) (pv 1)) (Qt (pv 0) A9 set_list))
   (Dr (G2 (pv 2))))) Nq)
  (BV (Fb (i:=3) kP.nd rfl (TW rfl) (FE ix_list (pv 0) A9 (λ_ _=>rfl)))
  (BV (K4 (B4 op_add (pv 3) A9) (Qt (pv 0) A9 set_list))
  (BV (Fb (i:=4) kP.nd rfl (TW rfl) (PB (HJ (TV hu) (FE ix_list (pv 0) A9 (λ_ _=>rfl)) (Qu CW) (Ak _))
   (FE ix_list (FE ix_list (pv 0) A9 (λ_ _=>rfl)) (B4 Fd (pv 3) (HN As rfl ml PySem.boot_len (Bl (FE ix_list (pv 0) A9 (λ_ _=>rfl)) CW))) (λ_ _=>rfl)) A9))
  (BV (U_ (PW.pt (U5 (HJ X8 (pv 4) (B4 Ny A9 A9) (Ak _)) (Rp (HJ op_lt (pv 3) (HN As rfl ml PySem.boot_len (Bl (FE ix_list (pv 0) A9 (λ_ _=>rfl)) CW)) (Ak _)))))
   (BV (K4 (B4 HR (pv 4) (pv 1)) (Qt (pv 0) A9 set_list))
   (Dr (G2 (B4 Fd (pv 4) (pv 1))))) Nq)
  (BV (Fb (i:=5) kP.nd rfl (TW rfl) (B4 Fd (B4 op_mul (B4 op_add (B4 op_add (B4 op_add (B4 Fd (pv 4) A9) (B4 op_mul (B4 op_mul A9 (pv 3)) (pv 3))) (B4 op_mul A9 (pv 3))) A9) A9) A9))
  (Dr (G2 (B4 Fd (B4 HR (B4 Fd (B4 op_mul (B4 op_add (pv 5) (B4 op_mul A9 (pv 3))) A9) A9) A9) (pv 1))))))))),?_⟩
 refine⟨_,rfl,f0,_,2,_,rfl,rfl,hsq hf,rfl,_,_,rfl,rfl,_,rfl,?_⟩;refine DY (λc1=>?_) (λc1=>?_)
 ·refine⟨_,rfl,f0,_,2,_,rfl,rfl,hsq hf,rfl,_,rfl,_,_,rfl,rfl,(by show (0:Int)<m; omega),?_⟩
  refine⟨_,rfl,f0,_,2,_,rfl,rfl,hsq hf,rfl,_,rfl,_,_,rfl,rfl,⟨(by show (0:Int)<m; omega),hm2⟩,_,rfl,f0,_,2,2,rfl,rfl,hf,rfl,?_⟩;refine⟨_,rfl,?_⟩;exact fin a _ _ _ (λb o e hb=>by rw [Ag hb]; exact e) Al ha0 (by omega) (ed _).1 (ed _).2
 ·-- at=feed[1]; feed[1]=at+1
  refine⟨_,rfl,f0,_,1,_,rfl,rfl,hsq hf,rfl,?_⟩;refine⟨_,rfl,_,_,rfl,rfl,_,rfl,f0,_,1,1,rfl,rfl,hf,rfl,?_⟩;generalize hH1:BD H f0 (.lst ([V.ref c,V.int a,V.int r].set 1 (V.int (a+1))))=H1;have f1:H1 f0=some (.lst [.ref c,.int (a+1),.int r]):=by rw [← hH1]; exact Al
  have k1:∀b o,H b=some o->b≠f0->H1 b=some o:=λb o e hb=>by rw [← hH1,Ag hb]; exact e
  have c1':H1 c=some (.lst (cells.map V.int)):=k1 c _ hc.2 hcf
  have rest:∀(z:Int) (H2:Hp),(∀b o,H1 b=some o->H2 b=some o) ->
    (S1 (Z8 (aC (Ri (EH (JK λi j=>V.bl (decide (j<=i))) (B3 4) (EH (rI RX λi j=>V.int (i ^ j.toNat)) (tC (V.int 10)) (tC (V.int 18))))) (Ri (EH (JK λi j=>V.bl (decide (i<j))) (B3 3) (bS (λxs H Q=>∃x n,xs=[x]/\Zp K x H n/\Q (V.int n) H) (Rj (EH (Yp K) (B3 0) (tC (V.int 0))) Wi))))) (S1 (Ot (EH (rI UK λi j=>V.int (i / j)) (B3 4) (B3 1)) (al (B3 0) (tC (V.int 2)) X0)) (Wg (EH (rI (λ_ j=>0<j) λi j=>V.int (i % j)) (B3 4) (B3 1)))) Xv) (S1 (Ot (EH (rI (λ_ j=>0<j) λi j=>V.int (i % j)) (EH (rI CMul λi j=>V.int (i*j)) (EH (JK λi j=>V.int (i+j)) (EH (JK λi j=>V.int (i+j)) (EH (JK λi j=>V.int (i+j)) (EH (rI (λ_ j=>0<j) λi j=>V.int (i % j)) (B3 4) (tC (V.int 1000003))) (EH (rI CMul λi j=>V.int (i*j)) (EH (rI CMul λi j=>V.int (i*j)) (tC (V.int 41)) (B3 3)) (B3 3))) (EH (rI CMul λi j=>V.int (i*j)) (tC (V.int 17)) (B3 3))) (tC (V.int 3))) (tC (V.int 51749))) (tC (V.int 999917))) (JP 5)) (Wg (EH (rI (λ_ j=>0<j) λi j=>V.int (i % j)) (EH (rI UK λi j=>V.int (i / j)) (EH (rI (λ_ j=>0<j) λi j=>V.int (i % j)) (EH (rI CMul λi j=>V.int (i*j)) (EH (JK λi j=>V.int (i+j)) (B3 5) (EH (rI CMul λi j=>V.int (i*j)) (tC (V.int 8111)) (B3 3))) (tC (V.int 39373))) (tC (V.int 2097143))) (tC (V.int 3))) (B3 1)))))
     { nx:=λ_ H'=>Q .non H',rt:=Q } [some (.ref f0),some (.int m),none,some (.int a),some (.int z),none] H2:=by
   intro z H2 k2;have f2:=k2 _ _ f1;have c2:=k2 _ _ c1'
   have lastWay:∀H3:Hp,H3=H2->(S1 (Ot (EH (rI (λ_ j=>0<j) λi j=>V.int (i % j)) (EH (rI CMul λi j=>V.int (i*j)) (EH (JK λi j=>V.int (i+j)) (EH (JK λi j=>V.int (i+j)) (EH (JK λi j=>V.int (i+j)) (EH (rI (λ_ j=>0<j) λi j=>V.int (i % j)) (B3 4) (tC (V.int 1000003))) (EH (rI CMul λi j=>V.int (i*j)) (EH (rI CMul λi j=>V.int (i*j)) (tC (V.int 41)) (B3 3)) (B3 3))) (EH (rI CMul λi j=>V.int (i*j)) (tC (V.int 17)) (B3 3))) (tC (V.int 3))) (tC (V.int 51749))) (tC (V.int 999917))) (JP 5)) (Wg (EH (rI (λ_ j=>0<j) λi j=>V.int (i % j)) (EH (rI UK λi j=>V.int (i / j)) (EH (rI (λ_ j=>0<j) λi j=>V.int (i % j)) (EH (rI CMul λi j=>V.int (i*j)) (EH (JK λi j=>V.int (i+j)) (B3 5) (EH (rI CMul λi j=>V.int (i*j)) (tC (V.int 8111)) (B3 3))) (tC (V.int 39373))) (tC (V.int 2097143))) (tC (V.int 3))) (B3 1))))
     { nx:=λ_ H'=>Q .non H',rt:=Q } [some (.ref f0),some (.int m),none,some (.int a),some (.int z),none] H3:=by
    intro H3 e3;subst e3;have hb:CMul (41*a) a:=.inr ⟨by omega,by omega⟩;refine⟨_,rfl,_,_,rfl,rfl,(by show (0:Int)<1000003; decide),_,rfl,_,_,rfl,rfl,.inl ⟨by decide,by decide⟩,_,rfl,_,_,rfl,rfl,hb,_,_,rfl,rfl,_,rfl,_,_,rfl,rfl,.inl ⟨by decide,by decide⟩,_,_,rfl,rfl,_,_,rfl,rfl,_,_,rfl,rfl,.inr ⟨by decide,by decide⟩,_,_,rfl,rfl,(by show (0:Int)<999917; decide),?_⟩;refine⟨_,rfl,_,rfl,_,_,rfl,rfl,.inl ⟨by decide,by decide⟩,_,_,rfl,rfl,_,_,rfl,rfl,.inr ⟨by decide,by decide⟩,_,_,rfl,rfl,(by show (0:Int)<2097143; decide),_,_,rfl,rfl,⟨by decide,by decide⟩,_,rfl,_,_,rfl,rfl,(by show (0:Int)<m; omega),?_⟩;exact fin (a+1) r _ _ (λb o e hb=>k2 b o (k1 b o e hb)) f2 (by omega) (by omega) (ed _).1 (ed _).2
   refine⟨_,rfl,_,_,rfl,rfl,⟨by decide,by decide,by decide⟩,_,_,rfl,rfl,_,rfl,?_⟩;refine DY (λc3=>?_) (λc3=>?_)
   ·refine⟨_,rfl,_,rfl,f0,_,0,_,rfl,rfl,hsq f2,rfl,_,_,rfl,.inl ⟨_,SqL.of c2,rfl⟩,_,_,rfl,rfl,_,rfl,?_⟩
    refine DY (λc4=>?_) (λc4=>lastWay H2 rfl);refine⟨_,rfl,_,rfl,_,_,rfl,rfl,⟨(by show (0:Int)<m; omega),hm2⟩,_,rfl,f0,_,2,2,rfl,rfl,f2,rfl,?_⟩;refine⟨_,rfl,_,rfl,_,_,rfl,rfl,(by show (0:Int)<m; omega),?_⟩;exact fin (a+1) _ _ _ (λb o e hb=>by rw [Ag hb]; exact k2 b o (k1 b o e hb)) Al (by omega) (by omega) (ed _).1 (ed _).2
   ·refine DY (λc4=>absurd c4 (by simp)) (λ_=>lastWay H2 rfl)
  refine⟨_,rfl,f0,_,0,_,rfl,rfl,hsq f1,rfl,(by show 0<=sizeLine; decide),λp hp=>?_⟩;have kp:∀b o,H1 b=some o->BD H1 p (.lst []) b=some o:=λb o e=>by rw [Ag (A3 e hp)]; exact e
  refine⟨c,p,_,rfl,rfl,SqL.of (kp _ _ c1'),SqL.of Al,_,rfl,?_⟩;cases cells with
  | nil=>exact Bp (rest 0 _ kp)
  | cons z0 cs =>
   refine EC ?_;have hlen:(((z0::cs).map V.int).length:Int)=(cs.length:Int)+1:=by simp
   have hpos:(0:Int)<(((z0::cs).map V.int).length:Int):=by omega
   obtain⟨z,hz⟩:∃z,atI ((z0::cs).map V.int) (a % (((z0::cs).map V.int).length:Int))=some (.int z):=by
    have h1:=Int.emod_nonneg a (show (((z0::cs).map V.int).length:Int)≠0 by omega);have h2:=Int.emod_lt_of_pos a hpos;generalize a % (((z0::cs).map V.int).length:Int)=j at h1 h2;obtain⟨k,rfl⟩:∃k:Nat,j=(k:Int):=⟨j.toNat,by omega⟩;have hk:k<(z0::cs).length:=by rw [Go] at h2; omega
    refine⟨(z0::cs)[k],AJ ?_⟩;rw [dX,No hk];rfl
   refine⟨_,rfl,f0,_,0,_,rfl,rfl,hsq (kp _ _ f1),rfl,_,rfl,_,rfl,f0,_,0,_,rfl,rfl,hsq (kp _ _ f1),rfl,_,_,rfl,.inl ⟨_,SqL.of (kp _ _ c1'),rfl⟩,_,_,rfl,rfl,hpos,c,_,_,_,rfl,rfl,SqL.of (kp _ _ c1'),hz,?_⟩;exact rest z _ kp
end
end K37
namespace Nt
open L2 Dp
theorem Ml{α β:Type}{f:α->β}:∀{l:List α},l.Nodup->(∀a∈l,∀b∈l,f a=f b->a=b)->(l.map f).Nodup
 | [],_,_=>fJ
 | a::l,h,hf=>by
  rw [eF] at h;rw [eR,eF];refine⟨λhm=>?_,Ml h.2 λx hx y hy=>hf x (Sc _ hx) y (Sc _ hy)⟩;obtain⟨b,hb,e⟩:=Rs.mp hm;exact h.1 (hf a Re b (Sc _ hb) e.symm▸hb)
theorem W_{f m j k:Nat}{M:Nat}(hM:m<=M)(hj:j<m)(hk:k<m)(e:(f+j) % M=(f+k) % M):j=k:=by
 have h:∀a b,a<=b->b<m->(f+a) % M=(f+b) % M->a=b:=λa b h1 h2 e=>by
  have:=Nat.sub_mod_eq_zero_of_mod_eq e.symm
  rw [Nat.mod_eq_of_lt (by omega)] at this;omega
 rcases Nat.le_total j k with h1 | h1
 ·grind
 grind
theorem QF(ss:List Str):RP (ss.map .str)=some ss:=by
 induction ss with
 | nil=>rfl
 | cons y r ih =>
  rw [eR];unfold RP
  grind
theorem Ip{b:BW}{body:Ai}{D2:E2}{all:List D}(I:List D->Nat->List Slot->Prop)(hend:∀n ρ,I all n ρ->D2.nx n ρ)
  (hstep:∀(pre:List D) (d:D) (post:List D) (n:Nat) (ρ:List Slot) (nx:Nat->List Slot->Prop),all=pre++d::post->I pre n ρ->(∀n' zY,I (pre++[d]) n' zY->nx n' zY)->b d ρ λzT=>body { D2 with nx:=nx,ct:=nx,bk:=D2.nx } n zT) :
  ∀(ds pre:List D) (n:Nat) (ρ:List Slot),all=pre++ds->I pre n ρ->BF b body D2 ds n ρ
 | [],pre,n,ρ,e,h=>by
  rw [eO] at e;subst e;exact hend n ρ h
 | d::ds,pre,n,ρ,e,h=>hstep _ d ds n ρ _ e h λn' zY h'=>Ip I hend hstep ds _ n' _ (by grind) h'
theorem Rl{lo:Int}{n:Nat}{pre post:List D}{d:D}(h:Dl lo n=pre++d::post):d=.int (lo+(pre.length:Int))/\pre.length<n:=by
 have hl:=congrArg iR h;rw [DU] at hl;have e:(Dl lo n)[pre.length]?=some d:=by grind
 unfold Dl at e
 simp_all
structure BL where
 a:Str
 b:Str
 len:Int
structure Net where
 ps:List Str
 ts:List BL
noncomputable def Ao(t:BL):D:=.tup [.str t.a,.str t.b,.int t.len]
noncomputable def enc(N:Net):D:=.tup [.tup (N.ps.map .str),.tup (N.ts.map Ao)]
noncomputable def Bt(s t:BL):Prop:=cs s.a<cs t.a\/(s.a=t.a/\cs s.b<cs t.b)
structure Net.Ok (N:Net):Prop where
 names:∀x∈N.ps,Po x
 rise:rising N.ps
 tin:∀t∈N.ts,t.a∈N.ps/\t.b∈N.ps/\cs t.a<cs t.b/\1<=t.len/\t.len<=1000000
 trise:N.ts.Pairwise Bt
structure Ix where
 i:Nat
 j:Nat
 len:Int
noncomputable abbrev EE(Pd:D->Nat->Prop):E2:={ nx:=λn _=>Kd.sh=.sh/\Pd .non n,rt:=Pd }
theorem BC{b:BW}{te:DW}{P:List D->Nat->Prop}(g:D->D)(I:List Slot->Prop):∀(ds acc:List D) (n:Nat) (ρ:List Slot),
  (∀d∈ds,∀(ρ:List Slot) (n:Nat) (nx:D->Nat->List Slot->Prop),I ρ->(∀zY,I zY->nx (g d) n zY)->b d ρ λzT=>te n zT λy n2=>nx y n2 zT)->I ρ->P (acc++ds.map g) n->EO b Cf te P ds acc n ρ
 | [],acc,n,ρ,_,_,h=>by rw [kO,eO] at h; exact h
 | d::ds,acc,n,ρ,ht,hρ,h=>ht d Re ρ n _ hρ λzY hρ' =>
  BC g I ds _ n _ (λd hd=>ht d (Sc _ hd)) hρ' (by simp_all)
theorem Fj{α:Type}{l:List α}{p:α->Bool}{P:D->Prop}(h:P (.bl (l.all p))):Fk [.lst (l.map λa=>.bl (p a))] P :=
 ⟨_,_,rfl,Hx p l,by simp_all⟩
theorem RO{b1 b2:Bool}{P:D->Nat->Prop}{n:Nat}{k:(D->Nat->Prop)->Prop}(hk:b1=true->P (.bl b2) n->k P)(h:P (.bl (b1&&b2)) n):(match (.bl b1:D) with | .bl true=>k P | .bl false=>P (.bl false) n | _=>False):=WA hk h
noncomputable abbrev Wb(g:D->Bool):W2:=X5 1 λds=>.bl (g (ds.getD 0 .non))
theorem Wb.out{g:D->Bool}{ss:List Slot}{n:Nat}{P:D->Nat->Prop}(h:Wb g ss n P):∃d,ss=[.sh d]/\P (.bl (g d)) n:=by
 obtain⟨ds,hl,rfl,h⟩:=h
 match ds,hl with
 | [d],_=>simp_all
noncomputable def IS:D->Bool
 | .int _=>true
 | _=>false
noncomputable def tupleOfB(k:Int):D->Bool
 | .tup xs=>((xs.length:Int)==k)
 | _=>false
noncomputable def VS(d e:D):Option Bool:=match d,e with
 | .int i,.int j=>some (decide (i<j))
 | .str i,.str j=>some (decide (cs i<cs j))
 | .tup xs,.tup ys=>match JN xs,JN ys with
  | some ks,some ls=>if CM ks ls then some (G4 ks ls) else none
  | _,_=>none
 | _,_=>none
theorem SN{d e:D}{b:Bool}{P:D->Prop}(h:VS d e=some b)(p:P (.bl b)):E3 d e P:=by
 unfold VS at h
 split at h
 ·cases h; exact p
 ·cases h; exact p
 ·split at h
  ·rename_i ks ls h1 h2
   split at h
   ·rename_i hs
    cases h;exact⟨ks,ls,h1,h2,hs,p⟩
   ·cases h
  ·cases h
 ·cases h
noncomputable def Sh:List D->Bool
 | x::y::r=>(VS x y==some true)&&Sh (y::r)
 | _=>true
noncomputable abbrev C8:W2:=Wb IS
noncomputable abbrev B8:W2:=λss n P=>∃k d,ss=[.sh (.int k),.sh d]/\P (.bl (tupleOfB k d)) n
noncomputable abbrev IK:W2:=λss n P=>∃d xs,ss=[.sh d]/\Ef d=some xs/\xs.length<=1000/\(∀x∈xs,∀y∈xs,∃b,VS x y=some b)/\P (.bl (Sh xs)) n
noncomputable def RM:Ai:=(Am (EI (Dk "int" (AB 0)) (WZ (Dk "bool" (AB 0)))))
noncomputable def MW:Ai:=(Am (EI (Dk "tuple" (AB 1)) (Aa (LV false) (Bs CF (AE (AB 1) AY)) (AB 0))))
noncomputable def QB:Ai:=(Am (Bs Fk (AE (BS [none,none] (QP (AE (AB 0) (AE (YT Pt (AB 0) (KR (wC (D.int 1))) Ee) AY))) (Bi 2 (AX (AR 0) (AX (AR 1) BB))) Cf (Aa E3 (AB 0) (AB 1))) AY)))
section
variable {ss:List Slot}{n:Nat}{Pd:D->Nat->Prop}
theorem JJ(h:C8 ss n Pd):RM (EE Pd) n (ss++Tk 0 .no):=by
 obtain⟨d,rfl,q⟩:=h.out;cases d <;> exact q
theorem Ky(h:B8 ss n Pd):MW (EE Pd) n (ss++Tk 0 .no):=by
 obtain⟨k,d,rfl,h⟩:=h;cases d with
 | tup xs=>exact⟨_,_,rfl,rfl,h⟩
 | _=>exact h
theorem Xh{α:Type}(xs:List α):Dp.cutD xs (some 1) none=xs.drop 1:=by
 unfold Dp.cutD;rw [HT.sIx_none,show 1=((1:Nat):Int) from rfl,HT.sIx_nat]
 by_cases h:1<=xs.length
 ·rw [Nat.min_eq_left h]
  exact j1 (by simp_all)
 grind
theorem Sg:∀xs:List D,((Dz xs (xs.drop 1)).all λd=>match d with | .tup [a,b]=>VS a b==some true | _=>false)=Sh xs
 | []=>rfl
 | [x]=>rfl
 | x::y::r=>by
  have ih:=Sg (y::r);show ((Dz _ (y::r)).all _)=_;unfold Dz Sh;rw [List.zipWith_cons_cons,iU]
  congr 1
theorem WX{xs ys:List D}{d:D}(h:d∈Dz xs ys):∃a∈xs,∃b∈ys,d=.tup [a,b]:=by
 unfold Dz at h;obtain⟨i,hi⟩:=List.getElem?_of_mem h;rw [ic] at hi;cases q1:xs[i]? with
 | none=>simp_all
 | some a =>
  cases q2:ys[i]? with
  | none=>simp_all
  | some b =>
   rw [q1,q2] at hi;exact⟨a,eQ q1,b,eQ q2,(dh hi).symm⟩
theorem Np(h:IK ss n Pd):QB (EE Pd) n (ss++Tk 0 .no):=by
 obtain⟨d,xs,rfl,hd,hl,hlt,h⟩:=h
 have go:(Dz xs (xs.drop 1)).length<=10000000/\EO (Bi 2 (AX (AR 0) (AX (AR 1) BB))) Cf (Aa E3 (AB 0) (AB 1)) (λacc n2=>Fk [.lst acc] λz=>Pd z n2) (Dz xs (xs.drop 1)) [] n [.no,.no]:=by
  refine⟨by unfold Dz; rw [i8]; omega,?_⟩;refine BC (λd=>.bl (match d with | .tup [a,b]=>VS a b==some true | _=>false)) (λρ=>∃s t,ρ=[s,t]) _ _ _ _ ?_ ⟨_,_,rfl⟩ ?_
  ·rintro z hz ρ m nx ⟨s,t,rfl⟩ hnx
   obtain⟨a,ha,b,hb,rfl⟩:=WX hz;obtain⟨r,hr⟩:=hlt a ha b (List.mem_of_mem_drop hb);refine⟨rfl,rfl,?_⟩;show E3 a b λy=>nx y m [.sh a,.sh b];refine SN hr ?_
   simp_all
  ·rw [d8]
   refine Fj (p:=fun(d:D)=>match d with | .tup [a,b]=>VS a b==some true | _=>false) ?_;rw [Sg];exact h
 cases d with
 | lst ys =>
  cases hd;exact⟨_,_,xs,xs.drop 1,rfl,rfl,by rw [Xh]; rfl,go⟩
 | tup ys =>
  cases hd;exact⟨_,_,xs,xs.drop 1,rfl,rfl,by rw [Xh]; rfl,go⟩
 | _=>cases hd
end
noncomputable def strsOf(xs:List D):List Str:=(RP xs).getD []
theorem WF{α:Type}(p:α->Bool)(l:List α):(l.map p).all id=l.all p:=by simp_all
theorem Ov{x:Str}(h:∀c∈cs x,c<1114112):PyData.strOk x=true:=by
 unfold PyData.strOk;rw [← Array.all_toList,fB];intro c hc;exact decide_eq_true (h c hc)
theorem Bo{x:Str}(h:Po x):CY (.str x):=⟨rfl,Ov λc hc=>by have:=h.2.2 c hc; omega,dY _⟩
theorem Ph{ps:List Str}(h:∀p∈ps,Po p):EB (ps.map .str)=true/\gD (Be (ps.map .str))=true/\fg (Be (ps.map .str))=0:=by
 induction ps with
 | nil=>exact⟨rfl,rfl,rfl⟩
 | cons p r ih =>
  obtain⟨h1,h2,h3⟩:=ih λq hq=>h q (Sc _ hq);refine⟨by assumption,?_,?_⟩
  ·rw [eR,Be,gD,h2,Bool.and_true]
   exact(Bo (h p Re)).2.1
  assumption
theorem B9{ps:List Str}(h:∀p∈ps,Po p):CY (.tup (ps.map .str)):=by
 obtain⟨h1,h2,h3⟩:=Ph h;refine⟨h1,h2,?_⟩;show fg _+1<=100
 simp_all
theorem J7(x y:Str):Cw (.str x) (.str y)=(x==y):=rfl
theorem Ka(ps:List Str):strsOf (ps.map .str)=ps:=by unfold strsOf; rw [QF]; rfl
section
theorem bn{d:D}(h:tupleOfB 2 d=true):∃a b,d=.tup [a,b]:=by
 cases d with
 | tup xs =>
  have:=eq_of_beq h
  match xs,this with
  | [a,b],_=>grind
  | [],h=>cases h
  | [_],h=>cases h
  | _::_::_::r,h=>grind
 | _=>cases h
end
mutual
noncomputable def G9(B:Nat):D->Prop
 | .int i=>i.natAbs<=B
 | .str x=>∀c∈cs x,c<1114112
 | .tup ds=>GZ B ds
 | .lst ds=>GZ B ds
 | .dic _ _=>False
 | .fdi _ _=>False
 | .dit _ _=>False
 | _=>True
noncomputable def GZ(B:Nat):List D->Prop
 | []=>True
 | d::ds=>G9 B d/\GZ B ds
end
mutual
noncomputable def QM:D->Nat
 | .int _=>200
 | .str x=>x.length
 | .tup ds=>L0 ds
 | .lst ds=>L0 ds
 | _=>0
noncomputable def L0:List D->Nat
 | []=>0
 | d::ds=>QM d+1+L0 ds
end
mutual
noncomputable def RE:D->Nat
 | .tup ds=>M8 ds+1
 | .lst ds=>M8 ds+1
 | _=>0
noncomputable def M8:List D->Nat
 | []=>0
 | d::ds=>max (RE d) (M8 ds)
end
theorem fines_iff{B:Nat}:∀{ds:List D},GZ B ds↔∀d∈ds,G9 B d
 | []=>⟨(λ_ d h=>by cases h),λ_=>trivial⟩
 | d::ds=>by
  have ih:=@fines_iff B ds;constructor
  ·rintro ⟨h1,h2⟩ e he
   rcases ZB.mp he with rfl | he
   ·exact h1
   ·exact ih.mp h2 e he
  ·exact λh=>⟨h d Re,ih.mpr λe he=>h e (Sc _ he)⟩
theorem dps_le{k:Nat}:∀{ds:List D},M8 ds<=k↔∀d∈ds,RE d<=k
 | []=>⟨(λ_ d h=>by cases h),λ_=>dY _⟩
 | d::ds=>by
  have ih:=@dps_le k ds;show max (RE d) (M8 ds)<=k↔_;rw [Nat.max_le,ih];constructor
  ·rintro ⟨h1,h2⟩ e he
   rcases ZB.mp he with rfl | he
   ·exact h1
   ·exact h2 e he
  ·exact λh=>⟨h d Re,λe he=>h e (Sc _ he)⟩
theorem Rk:∀(xs:List D),xs.length<=L0 xs
 | []=>dY _
 | d::xs=>by
  have:=Rk xs
  show xs.length+1<=QM d+1+L0 xs;omega
theorem Mv{B C:Nat}(h:B<=C):∀(n:Nat),(∀d:D,sizeOf d<=n->G9 B d->G9 C d)/\∀ds:List D,sizeOf ds<=n->GZ B ds->GZ C ds:=by
 intro n
 induction n with
 | zero =>
  refine⟨λd hd _=>?_,λds hd _=>?_⟩
  ·cases d <;> simp at hd
  ·cases ds <;> simp at hd
 | succ n ih =>
  refine⟨λd hd hf=>?_,λds hd hf=>?_⟩
  ·cases d with
   | int i=>exact dn (show i.natAbs<=B from hf) h
   | str x=>exact hf
   | tup ds=>exact ih.2 ds (by simp at hd; omega) hf
   | lst ds=>exact ih.2 ds (by simp at hd; omega) hf
   | dic ks ds=>exact(show False from hf).elim
   | fdi ks ds=>exact(show False from hf).elim
   | dit ks ds=>exact(show False from hf).elim
   | non=>trivial
   | bl b=>trivial
  ·cases ds with
   | nil=>trivial
   | cons d ds=>exact⟨ih.1 d (by simp at hd; omega) hf.1,ih.2 ds (by simp at hd; omega) hf.2⟩
mutual
theorem SK{B:Nat}(hB:B<10 ^ 45):∀{d:D},G9 B d->HW d=true/\(toPy d).showable=true/\(toPy d).canLay0=true/\(toPy d).depth=RE d/\(toPy d).leavesShort 60=true/\(toPy d).weight<=QM d
 | .non,_=>⟨rfl,rfl,rfl,rfl,rfl,Op _⟩
 | .bl b,_=>⟨rfl,rfl,rfl,rfl,rfl,Op _⟩
 | .int i,h=>by
  have h':i.natAbs<=B:=h;have hlt:i.natAbs<10 ^ 45:=gq h' hB;have h2:i.natAbs<2 ^ 150:=Nat.lt_trans hlt (by decide)
  have hl:i.natAbs.log2<150:=by
   by_cases h0:i.natAbs=0
   ·rw [h0]; decide
   ·exact(Nat.log2_lt h0).mpr h2
  refine⟨rfl,?_,rfl,rfl,?_,?_⟩
  ·show decide (i.natAbs.log2<1920)=true
   exact decide_eq_true (by omega)
  ·show decide ((PyData.shown (.int i)).length<=60)=true
   refine decide_eq_true ?_
   have:=int_text_length_le10 (a:=i) (k:=45) (by decide) hlt
   show (gK (toString i)).length<=60;rw [PySem.ofString_length];omega
  ·show (if i==0 then 0 else i.natAbs.log2+1)<=200
   split <;> omega
 | .str x,h=>by
  have h':∀c∈cs x,c<1114112:=h;refine⟨rfl,rfl,Ov h',rfl,?_,Op _⟩;show (x.cps.toList.all λc=>decide (c<16 ^ 8))=true;rw [fB];intro c hc;exact decide_eq_true (Nat.lt_trans (h' c hc) (by decide))
 | .tup ds,h=>by
  obtain⟨h1,h2,h3,h4,h5,h6⟩:=LS hB (ds:=ds) h;refine⟨h1,h2,h3,?_,h5,h6⟩;show fg (Be ds)+1=M8 ds+1;rw [h4]
 | .lst ds,h=>by
  obtain⟨h1,h2,h3,h4,h5,h6⟩:=LS hB (ds:=ds) h;refine⟨h1,h2,h3,?_,h5,h6⟩;show fg (Be ds)+1=M8 ds+1;rw [h4]
 | .dic ks ds,h=>(show False from h).elim
 | .fdi ks ds,h=>(show False from h).elim
 | .dit ks ds,h=>(show False from h).elim
theorem LS{B:Nat}(hB:B<10 ^ 45):∀{ds:List D},GZ B ds->EB ds=true/\PyData.showableAll (Be ds)=true/\gD (Be ds)=true/\fg (Be ds)=M8 ds/\j7 60 (Be ds)=true/\PyData.weightAll (Be ds)<=L0 ds
 | [],_=>⟨rfl,rfl,rfl,rfl,rfl,Op _⟩
 | d::ds,h=>by
  obtain⟨h1,h2,h3,h4,h5,h6⟩:=SK hB (d:=d) h.1;obtain⟨g1,g2,g3,g4,g5,g6⟩:=LS hB (ds:=ds) h.2;refine⟨?_,?_,?_,?_,?_,?_⟩
  ·show (HW d&&EB ds)=true
   rw [h1,g1]; rfl
  ·show ((toPy d).showable&&PyData.showableAll (Be ds))=true
   rw [h2,g2]; rfl
  ·show ((toPy d).canLay0&&gD (Be ds))=true
   rw [h3,g3]; rfl
  ·show max (toPy d).depth (fg (Be ds))=max (RE d) (M8 ds)
   rw [h4,g4]
  ·show ((toPy d).leavesShort 60&&j7 60 (Be ds))=true
   rw [h5,g5]; rfl
  ·show (toPy d).weight+1+PyData.weightAll (Be ds)<=QM d+1+L0 ds
   omega
end
theorem Ez{B:Nat}{d:D}(hB:B<10 ^ 45)(h:G9 B d)(hd:RE d<=100):CY d:=by
 obtain⟨h1,h2,h3,h4,h5,h6⟩:=SK hB h;exact⟨h1,h3,by rw [h4]; exact hd⟩
noncomputable def item(d:D):Prop:=G9 1000001 d/\QM d<=450/\RE d<=1
theorem QW{k:Nat}:∀{ds:List D},(∀d∈ds,QM d+1<=k)->L0 ds<=k*ds.length
 | [],_=>dY _
 | d::ds,h=>by
  have h2:=QW λe he=>h e (Sc _ he);show QM d+1+L0 ds<=k*(ds.length+1)
  grind
theorem Hd{B:Nat}{xs:List D}(h:∀d∈xs,G9 B d):G9 B (.tup xs):=fines_iff.mpr h
theorem item_str{x:Str}(h1:x.length<=8)(h2:∀c∈cs x,c<1114112):item (.str x):=⟨h2,by show x.length<=450; omega,dY _⟩
theorem DK{x:Str}(h:Po x):item (.str x):=item_str h.2.1 λc hc=>by have:=h.2.2 c hc; omega
theorem Pm{a b:Str}{l:Int}(ha:item (.str a))(hb:item (.str b))(la:a.length<=8)(lb:b.length<=8)(hl:l.natAbs<=1000001):item (.tup [.str a,.str b,.int l]):=by
 refine⟨Hd λd hd=>?_,?_,?_⟩
 ·simp at hd
  rcases hd with rfl | rfl | rfl
  ·exact ha.1
  ·exact hb.1
  ·exact hl
 ·show a.length+1+(b.length+1+(200+1+0))<=450
  omega
 ·show max 0 (max 0 (max 0 0))+1<=1
  decide
theorem LL{N:Net}(ok:N.Ok):∀d∈N.ts.map Ao,item d:=λd hd=>by
 obtain⟨t,ht,rfl⟩:=Rs.mp hd;obtain⟨h1,h2,_,h3,h4⟩:=ok.tin t ht;have n1:=ok.names _ h1;have n2:=ok.names _ h2;exact Pm (DK n1) (DK n2) n1.2.1 n2.2.1 (by omega)
theorem XD{N:Net}(ok:N.Ok):∀d∈N.ps.map D.str,item d:=λd hd=>by
 obtain⟨x,hx,rfl⟩:=Rs.mp hd;exact DK (ok.names x hx)
theorem YY{xs ys:List D}(hx:∀d∈xs,item d)(hy:∀d∈ys,item d)(lx:xs.length<=26)(ly:ys.length<=80):G9 1000001 (.tup [.tup xs,.tup ys])/\QM (.tup [.tup xs,.tup ys])<=48000/\RE (.tup [.tup xs,.tup ys])<=3:=by
 have s1:=QW λd hd=>jh (hx d hd).2.1;have s2:=QW λd hd=>jh (hy d hd).2.1;have d1:=dps_le.mpr λd hd=>(hx d hd).2.2;have d2:=dps_le.mpr λd hd=>(hy d hd).2.2;refine⟨Hd λd hd=>?_,?_,?_⟩
 ·simp at hd
  rcases hd with rfl | rfl
  ·exact Hd λd hd=>(hx d hd).1
  ·exact Hd λd hd=>(hy d hd).1
 ·show L0 xs+1+(L0 ys+1+0)<=48000
  omega
 ·show max (M8 xs+1) (max (M8 ys+1) 0)+1<=3
  omega
theorem QD{p:D->Prop}{xs:List D}(h:∀d∈xs,p d){o:Int}(h0:0<=o)(h1:o<(xs.length:Int)):∃z,atI xs o=some z/\p z:=by
 obtain⟨k,rfl⟩:∃k:Nat,o=k:=⟨o.toNat,by omega⟩;have hk:k<xs.length:=by omega
 exact⟨_,AJ (No hk),h _ (fW hk)⟩
theorem CP(x:Str):¬cs x<cs x:=g8 _
theorem z1:1<=sizeLine:=by decide
theorem z2:2<=sizeLine:=by decide
theorem z3:3<=sizeLine:=by decide
theorem z0:0<=sizeLine:=dY _
theorem dE:RX 10 6:=⟨by decide,by decide,by decide⟩
end Nt
namespace L2
section
variable {X:Cx}{tg elt iter:Expr}{ifs:List Expr}{sc:Scope}{pos spos pos':Pos}{N':List Str}{js:List (Option Nat)}{wi:TI}{i:Nat}{x:Str}
theorem Wq(hc:X.calm=true)(N':List Str)(js:List (Option Nat))(hi:PI X tg iter wi)
  (hB:JU sc X.env.scope X.N N' js=true) (hN:X.N.Nodup) (hix:X.N[i]?=some x) (hx:Loc X.env.scope x)
  (hsw:swapsWith (.ListComp elt [⟨tg,iter,ifs,0⟩] sc pos) (some (.Name x pos')) spos.line X.env=pure true)
  (hs:autoParam (∀x,foldedSetIterable iter X.env x=pure x) zau2._auto_1)
  (hf:autoParam (X.fn x=true\/X.env.scope.names.lookup x=some .local) zau0._auto_1) :
  PS X (.Assign [.Name x pos'] (.ListComp elt [⟨tg,iter,ifs,0⟩] sc pos) spos) (Ot (UZ X sc N' js tg elt ifs wi) (JP i)):=by
 intro zG s Z H D I h;have O:CompOk X sc N' js:=CompOk.of hB;obtain⟨cl,hclos,hcl,hcl2⟩:=Ld (scope:=sc) (env:=X.env) λx hx=>I.ok.has x (O.free x hx);rw [exec_Assign_Name_used _ _ _ _ hsw];refine Ev (wpAny_standAt (Ev ?_));show wpAny _ _ (do let _ ← comprehension (.ListComp elt [⟨tg,iter,ifs,0⟩] sc pos) sc X.env _ (newList []) false (eval iter X.env) (some (assign (.Name x pos') X.env))) _ _ s
 refine Ev (e7 (wpAny_comprehension_free (Q:=λ_ s'=>SP X zG D .next s') (use:=some (assign (.Name x pos') X.env)) rfl hs hclos O.kind O.names (thn (hi zG s Z H _ I h) λv s1 h1=>thn h1 λitv s2 h2=>?_))
  (λ_ s' hq=>T0 (T0 hq)) λ_ _ e=>e)
 obtain⟨it,fp,tn,J,H2,e,I2,T,st2,f2,hq⟩:=h2;subst e
 have kfree:X.K.lookup s2.heap.objs.size=none:=by
  cases q:X.K.lookup s2.heap.objs.size with
  | none=>rfl
  | some o=>exact absurd (XV (I2.kIn _ _ q)) (fH _)
 obtain⟨g,tt,te,W,hg,ht,he,⟨m0,w0⟩,hW⟩:=hq s2.heap.objs.size (I2.hok.fresh (Op _)) kfree cl (s2.heap.objs.size+1) s2 H2 fp;refine fw (wpAny_newFunctionEnv O.cell (by intro y hy; simp at hy) (λh₁ hns₁ hsb₁=>?_) O.kind)
 dsimp only at hns₁ hsb₁ ⊢
 generalize hH2:s2.heap.push { cls:=.type "list",dict:=none,data:=.seq ([]:List Db).toArray }=Hh at hns₁ hsb₁ ⊢;have hCe:Hh.objs.size=s2.heap.objs.size+1:=by rw [← hH2,ft]
 have hlt:∀b∈fp,b<s2.heap.objs.size:=λb hb=>by
  obtain⟨o,e,_⟩:=T.obj _ _ st2 b hb;exact XV e
 have old:∀b o,s2.heap.get? b=some o->h₁.get? b=some o:=λb o e=>hsb₁.extBut b o (by rw [hCe]; exact da (fG (XV e))) (FM _ (hH2▸FM _ e));have hD:∃n,h₁.get? s2.heap.objs.size=some { cls:=.type "list",data:=.seq #[] n }:=⟨_,hsb₁.extBut _ _ (by rw [hCe]; exact da (iW _)) (FM _ (hH2▸UF _ rfl))⟩
 have I3:∀tk,Inv (BA X sc N' cl (s2.heap.objs.size+1) s2 H2 fp) [] (Cp js Z) (BD H2 s2.heap.objs.size (.lst [])) { s2 with heap:=h₁,toks:=tk }:=λtk =>
  Pp I2 hc O hcl hcl2 f2 (λb hb=>let ⟨o,e,_⟩:=T.obj _ _ st2 b hb; ⟨o,e⟩) (by rw [← hCe]; exact hns₁) old hD
 have st3:tn 0 h₁:=T.keep _ _ _ st2 λb hb o e=>old b o e
 have fr3:∀b∈fp,BD H2 s2.heap.objs.size (.lst []) b=none:=λb hb=>by
  rw [Ag (da (hlt b hb))];exact(f2 b hb).1
 have loop:∀tk,codeAny (model X.prog X.w) X.A (.compLoop (.ListComp elt [⟨tg,iter,ifs,0⟩] sc pos) 0 (.ref it) (.ref s2.heap.objs.size) (compEnvC sc cl (s2.heap.objs.size+1) X.env))
   (compPost (model X.prog X.w) X.A X.xe (some (assign (.Name x pos') X.env)) (λ_ s'=>SP X zG D .next s') (.ref s2.heap.objs.size) (s2.heap.objs.size+1)) { s2 with heap:=h₁,toks:=tk }:=λtk=>by
  refine M_ (W:=W) (m0:=m0) (Q:=λv H1=>JP i v Z H1 λzN H2=>D.nx zN H2) I2 f2 hlt (fm _) T hg ht he hW (λzZ H' s' J' q'=>?_) (I3 tk) st3 fr3 w0;obtain⟨m,hn,_⟩:=J'.loc;have hCn:H' (s2.heap.objs.size+1)=none:=J'.free;have I4:Inv X zG Z H' s':=LO (h':=s'.heap) I2 f2 (fm _) J' λb _=>rfl;obtain⟨g1,g2,g3,g4,g5,g6⟩:=I2.fpOk (b:=s2.heap.objs.size+1) (fm _) hCn;show wpAny (model X.prog X.w) X.A (assign (.Name x pos') X.env (.ref s2.heap.objs.size)) (λ_ s''=>∃m,s''.heap.Ns (s2.heap.objs.size+1) m/\∀h',ig (s2.heap.objs.size+1) s''.heap h'->SP X zG D .next { s'' with heap:=h' }) X.xe s';refine wpAny_assign_Name (Mf (v:=.ref s2.heap.objs.size) I4 hN hix hx rfl (λs5 I5 ⟨a,hsame,ha⟩=>?_) hf)
  have na:s2.heap.objs.size+1≠a:=by
   rcases ha with rfl | ha
   ·exact g2
   ·exact λz=>g5 _ _ ha z.symm
  refine⟨m,hn.sameBut hsame na,λh' hs'=>?_⟩;exact⟨_,H',I5.turned (t':=s5.toks) (it:=s2.heap.objs.size+1) (λb o hb e=>hs'.extBut b o hb e) hCn g2 g4 g5 g6,q'⟩
 rw [show (newEnv sc Hh.objs.size X.env.globals cl X.env.qual none .none (some X.env) builtinsNs).locals=s2.heap.objs.size+1 from hCe];show codeAny (model X.prog X.w) X.A (.compStart (.ListComp elt [⟨tg,iter,ifs,0⟩] sc pos) 0 (.ref it) (.ref s2.heap.objs.size) (compEnvC sc cl (s2.heap.objs.size+1) X.env)) _ _;exact codeAny_compStart_list (loop _) (T.self _ 0 _ _ _ st3 (loop _))
end
end L2
namespace Dp
open L2
section
variable {X:Cx}{zR:Kd}{tg elt iter:Expr}{ifs:List Expr}{sc:Scope}{pos:Pos}{src:GQ}{b:BW}{tt:Jh}{te:DW}
theorem V9(hc:X.calm=true)(N':List Str)(js:List (Option Nat))(hi:Zt X tg iter src)(hg:∀cl C s H fp,DG (BA X sc N' cl C s H fp) tg b)(ht:∀cl C s H fp,Z0 (BA X sc N' cl C s H fp) ifs tt)(he:∀cl C s H fp,DE (BA X sc N' cl C s H fp) elt zR te)
  (hB:JU sc X.env.scope X.N N' js=true) (hk:autoParam (zR≠.tp) zau6._auto_1)
  (hs:autoParam (∀x,foldedSetIterable iter X.env x=pure x) zau2._auto_1):∃wi,PI X tg iter wi/\∀(C:Fm) (M:Ch->Prop) (H:Hp) (n:Nat) (ρ:List Slot) (Z:L2.St) (P:D->Nat->Prop) (Q:VK),Rel X.K C M H n ρ Z->BS js src b tt te n ρ P ->
   (∀v H' d n',Ext C.U H H'->FeedC X.K C.F M H' n'->VR X.K C.V M H H' .fr v d->P d n'->Q v H')->UZ X sc N' js tg elt ifs wi Z H Q:=by
 obtain⟨wi,a1,a2⟩:=hi;refine⟨wi,a1,λC M H n ρ Z P Q R w q=>?_⟩;refine a2 C M H n ρ Z _ _ R w λJ H1 ds n1 e1 f1 y w1=>?_;obtain⟨hlen,w1⟩:=w1;have R1:=R.step e1 f1;intro l hl hkl cl Ca s0 H0 fp;obtain⟨g,g1,g2⟩:=hg cl Ca s0 H0 fp;obtain⟨tc,c1,c2⟩:=ht cl Ca s0 H0 fp;obtain⟨tx,x1,x2⟩:=he cl Ca s0 H0 fp
 have noU:¬C.U l:=λz=>by
  obtain⟨o,z⟩:=R1.udom l z;rw [hl] at z; cases z
 generalize hM':(λb=>M b\/b=l)=M';have M'l:M' l:=by rw [← hM']; exact .inr rfl
 have M'of:∀b,M b->M' b:=λb z=>by rw [← hM']; exact .inl z
 have ofM':∀b,M' b->M b\/b=l:=λb z=>by rw [← hM'] at z; exact z
 have inV:∀b,C.V b\/b=l->M' b:=λb z=>z.elim (λz=>M'of b (R1.vM b z)) λz=>by rw [z]; exact M'l
 have lenj:js.length=N'.length:=Fn (CompOk.of hB).cap
 refine⟨g,tc,tx,λi m zZ H'=>m=ds.length - i/\i<=ds.length/\∃n' zY acc vs,Rel X.K ⟨M',C.F,C.U,λb=>C.V b\/b=l,H1,[],[]⟩ M' H' n' zY zZ/\H' l=some (.lst vs)/\Ats X.K M' H' acc vs/\acc.length<=i/\Pres M H1 M' H' /\
   EO b tt te (λacc n2=>P (.lst acc) n2) (ds.drop i) acc n' zY,g1,c1,x1,⟨ds.length,by simp,dY _,n1,HX js ρ,[],[],?_⟩,?_⟩
 ·have gr:Grow H1 (BD H1 l (.lst [])):=Av hl
  have pr:Pres M H1 M' (BD H1 l (.lst [])):=⟨λb o e _=>gr.all b o e,λb z=>(ofM' b z).elim .inl λz=>.inr (by rw [z]; exact hl),λb vs e=>gr.all b _ e⟩;refine⟨⟨?_,λa z=>z,λa z=>?_,gr.ext,R1.fU,λa z=>.inl (R1.uV a z),inV,f1.pres pr λf o _ e=>gr.all f.1 o e,?_,λp hp=>absurd hp (by simp),λi d a q z=>R9 R1.sl q z,λi s a q o _=>absurd o (by rw [Ey q]; decide),λi j s t a q o _ _ _ _=>absurd o (by rw [Ey q]; decide),λp hp=>absurd hp (by simp)⟩,Al,rfl,dY _,pr,w1⟩
  ·unfold HX Cp
   rw [Go,Go]
  ·rcases ofM' a z with z | z
   ·obtain⟨o,z⟩:=R1.dom a z
    exact⟨o,gr.all a o z⟩
   ·subst z
    exact⟨_,Al⟩
  ·refine Pc R1.sl pr λd v h=>h.same pr (λa o _ e=>gr.all a o e) λa e n1 z=>z.elim n1 λz=>?_
   subst e;obtain⟨o,w⟩:=h.lies;rw [z,hl] at w;cases w
 ·rintro i m zZ H' ⟨rfl,hi,n',zY,acc,vs,R',hlv,hac,hal,pr,w'⟩
  by_cases hlt:i<ds.length
  ·have ed:ds.drop i=ds[i]::ds.drop (i+1):=gB hlt
   rw [ed] at w';obtain⟨go,yl⟩:=(y i M' H' pr R'.ext R'.dom).1 ds[i] (No hlt);refine .inr ⟨go,λx H2 hy=>?_⟩;obtain⟨gr,hx⟩:=yl x H2 hy;have R2':=R'.step gr.ext (R'.feed.grow gr);refine g2 _ M' H2 n' zY zZ ds[i] x _ _ R2' hx w' λzO zV R3 w3=>?_;refine c2 _ M' H2 n' zO zV _ _ R3 w3 λc H4 n4 e4 f4 w4=>?_;have R4:=R3.step e4 f4;have p4:Pres M' H' M' H4:=gr.pres.trans (R3.pres e4);have l4:H4 l=some (.lst vs):=e4.keep (gr.all _ _ hlv) noU;cases c with
   | false=>exact⟨ds.length - (i+1),by omega,rfl,hlt,n4,zO,acc,vs,R4,l4,hac.pres p4,by omega,pr.trans p4,w4⟩
   | true =>
    refine x2 _ M' H4 n4 zO zV _ _ R4 w4 λyv H5 d5 n5 e5 f5 r5 w5=>?_;have R5:=R4.step e5 f5;have p5:Pres M' H4 M' H5:=R4.pres e5;have l5:H5 l=some (.lst vs):=e5.keep l4 noU;have hy5:=r5.shOf R4.dom hk;have a5:=(hac.pres p4).pres p5;have pu:Pres M' H5 M' (BD H5 l (.lst (vs++[yv]))):=CJ M'l l5;have hvl:vs.length=acc.length:=hac.length;refine⟨vs,l5,by rw [eK]; omega,ds.length - (i+1),by omega,rfl,hlt,n5,zO,acc++[d5],vs++[yv],?_,Al,(a5.append (Ats.one hy5)).pres pu,by rw [dZ,eC]; omega,(pr.trans p4).trans (p5.trans pu),w5⟩;refine⟨R5.len,R5.sub,λa z=>?_,λb o e=>?_,R5.fU,R5.uV,R5.vM,?_,λj s hs=>?_,λp hp=>absurd hp (by simp),R5.br0,R5.new,R5.two,λp hp=>absurd hp (by simp)⟩
    ·by_cases ha:a=l
     ·subst ha; exact⟨_,Al⟩
     ·rw [Ag ha]; exact R5.dom a z
    ·obtain⟨o',q1,q2⟩:=R5.ext b o e
     by_cases hb:b=l
     ·subst hb
      have e':H1 b=some o:=e;rw [hl] at e'; cases e'
     ·exact⟨o',by rw [Ag hb]; exact q1,q2⟩
    ·refine f5.pres pu λf o hf e=>?_
     rw [Ag (λz=>noU (by rw [← z]; exact R1.fU f hf))];exact e
    ·have hs5:=R5.sl j s hs
     cases s with
     | no=>trivial
     | sh d=>obtain⟨v,e1,h2⟩:=hs5; exact⟨v,e1,h2.pres pu⟩
     | ex a nm ks ds=>obtain⟨e1,h2⟩:=hs5; exact⟨e1,h2.pres pu⟩
     | br d =>
      obtain⟨v,e1,h2⟩:=hs5;refine⟨v,e1,h2.same pu (λa o z e=>?_) λ_ _ z=>z⟩;subst z;obtain⟨o3,w⟩:=R5.br0 j d a hs e1
      have hal:a≠l:=λz=>by
       have w':H1 a=some o3:=w;rw [z,hl] at w'; cases w'
      rw [Ag hal]; exact e
     | ow d =>
      obtain⟨a,e1,h2,_⟩:=hs5;exact absurd h2 (R5.new j _ a hs rfl e1).1
     | lt a d =>
      obtain⟨e1,h2,_⟩:=hs5;exact absurd h2 (R5.new j _ a hs rfl e1).1
     | fd=>exact hs5
  ·have e:i=ds.length:=by omega
   subst e;rw [hV] at w';refine .inl ⟨(y _ M' H' pr R'.ext R'.dom).2 (Op _),?_⟩;have eb:Ext C.U H1 H':=R'.ext;have less:Pres M' H' M H':=Pres.less M'of;refine q _ H' (.lst acc) n' (e1.trans eb) (R'.feed.pres less λ_ _ _ z=>z) (VR.back e1 ?_) w';exact⟨l,rfl,hl,vs,hlv,by rw [hM']; exact hac⟩
theorem OL{κ:Kd}{i:Nat}{x:Str}{pos' spos:Pos}(hN:X.N.Nodup)(hix:X.N[i]?=some x)(hx:Loc X.env.scope x)(hc:X.calm=true)(N':List Str)(js:List (Option Nat))(hi:Zt X tg iter src)(hg:∀cl C s H fp,DG (BA X sc N' cl C s H fp) tg b)(ht:∀cl C s H fp,Z0 (BA X sc N' cl C s H fp) ifs tt)(he:∀cl C s H fp,DE (BA X sc N' cl C s H fp) elt zR te)
  (hB:JU sc X.env.scope X.N N' js=true) (hsw:autoParam (swapsWith (.ListComp elt [⟨tg,iter,ifs,0⟩] sc pos) (some (.Name x pos')) spos.line X.env=pure true) zau3._auto_1) (hk:autoParam (zR≠.tp) zau6._auto_1)
  (hs:autoParam (∀x,foldedSetIterable iter X.env x=pure x) zau2._auto_1)
  (hf:autoParam (X.fn x=true\/X.env.scope.names.lookup x=some .local) zau0._auto_1):DS X κ (.Assign [.Name x pos'] (.ListComp elt [⟨tg,iter,ifs,0⟩] sc pos) spos) (A0 i (BS js src b tt te)):=by
 obtain⟨wi,a1,a2⟩:=V9 hc N' js hi hg ht he hB hk hs;exact⟨_,Wq hc N' js a1 hB hN hix hx hsw hs hf,λC M H n ρ Z D2 E R L w=>a2 C M H n ρ Z _ _ R w λv H' d n' e1 f1 r1 p=>L.nx M H' n' _ _ ((R.step e1 f1).set (r1.shOf R.dom (by grind))) p⟩
end
end Dp
namespace L2
noncomputable def aU:R2:=λy x H Q=>∃a o,x=.ref a/\DGet H a y o/\Q (.bl o.isSome) H
noncomputable def U0:R2:=λy x H Q=>∃a o,x=.ref a/\DGet H a y o/\Q (.bl (!o.isSome)) H
noncomputable def U1:R2:=λx y H Q=>∃a v,x=.ref a/\DGet H a y (some v)/\Q v H
theorem Qw{X:Cx}{k:Nat}(hr:Room k X.A):OpR X (compareOp .In) aU:=by
 intro zG s Z H y x iv u Q I ry rx ⟨a,ov,ex,g,q⟩;subst ex;obtain rfl:u=eh a:=rx;exact cR (Hc hr) I g ry λs3 I3=>⟨.bl _,H,I3,rfl,q⟩
theorem EM{X:Cx}{k:Nat}(hr:Room k X.A):OpR X (compareOp .NotIn) U0:=by
 intro zG s Z H y x iv u Q I ry rx ⟨a,ov,ex,g,q⟩;subst ex;obtain rfl:u=eh a:=rx;exact Xg (Hc hr) I g ry λs3 I3=>⟨.bl _,H,I3,rfl,q⟩
end L2
namespace Dp
open L2
noncomputable def BP:List Key->List D->Key->Option D
 | k0::ks,d::ds,k=>if k0=k then some d else BP ks ds k
 | _,_,_=>none
section
variable {K:Frag}{X:Cx}
theorem HH{M:Ch->Prop}{H:Hp}{k:Key}:∀{ks:List Key} {ds:List D} {vs:List V},Ats K M H ds vs ->
  match BP ks ds k with
  | some z=>∃v,C0 (ks.zip vs) k=some v/\At K M H z v
  | none=>C0 (ks.zip vs) k=none
 | [],ds,vs,h=>by exact rfl
 | k0::ks,[],vs,h=>by cases h; exact rfl
 | k0::ks,d::ds,vs,h=>by
  obtain⟨v,r,rfl,h1,h2⟩:=h;have ih:=HH (k:=k) (ks:=ks) h2;unfold BP
  by_cases e:k0=k
  ·rw [if_pos e]
   refine⟨v,?_,h1⟩;show C0 ((k0,v)::ks.zip r) k=some v;rw [EJ e]
  ·have:C0 ((k0,v)::ks.zip r) k=C0 _ k:=EK e
   simp_all
noncomputable def keyOf:D->Option Key
 | .int i=>some (.inl i)
 | .str x=>some (.inr x)
 | _=>none
theorem DX{U M:Ch->Prop}{H:Hp}{d:D}{v:V}{k:Key}(e:keyOf d=some k)(h:AtT K U M H d v):v=kV k:=by
 cases d with
 | int i=>cases e; exact h
 | str x=>cases e; exact h.str.1
 | _=>cases e
noncomputable def JR:D->Option (List Key×List D)
 | .dic ks ds=>some (ks,ds)
 | .fdi ks ds=>some (ks,ds)
 | _=>none
theorem JA{U M:Ch->Prop}{H:Hp}{d:D}{x:V}{ks:List Key}{ds:List D}(e:JR d=some (ks,ds))(h:AtT K U M H d x):∃a vs,x=.ref a/\Rd H a (.dK (ks.zip vs))/\Ats K M H ds vs:=by
 cases d with
 | dic k2 d2=>cases e; obtain⟨a,vs,rfl,_,ha,_,hs⟩:=h; exact⟨a,vs,rfl,.inl ha,hs⟩
 | fdi k2 d2=>cases e; obtain⟨a,vs,rfl,⟨o,_,ha⟩,_,hs⟩:=h; exact⟨a,vs,rfl,.inr ⟨o,ha⟩,hs⟩
 | _=>cases e
theorem KA{H:Hp}{a:Ch}{kvs:List (Key×V)}{k:Key}(e:Rd H a (.dK kvs)):DGet H a (kV k) (C0 kvs k):=.inl ⟨_,k,e,rfl,rfl⟩
noncomputable def Jw(neg:Bool)(e d:D)(P:D->Prop):Prop:=∃ks ds k,JR d=some (ks,ds)/\keyOf e=some k/\P (.bl (if neg then !(BP ks ds k).isSome else (BP ks ds k).isSome))
noncomputable def CC(d e:D)(P:D->Prop):Prop:=∃ks ds k z,JR d=some (ks,ds)/\keyOf e=some k/\BP ks ds k=some z/\P z
theorem WK:FC K .sh aU (Jw false):=λU M H e d y x P Q dom vM hy hx w q=>by
 obtain⟨ks,ds,k,hd,he,w⟩:=w;obtain⟨a,vs,rfl,ha,hs⟩:=JA hd hx;refine⟨a,_,rfl,by rw [DX he hy]; exact KA ha,q _ H (.bl _) .refl rfl ?_⟩;have h:=HH (k:=k) (ks:=ks) hs;cases c:BP ks ds k with
 | none=>simp_all
 | some z=>rw [c] at h w; obtain⟨v,h1,_⟩:=h; simp_all
theorem Hz:FC K .sh U0 (Jw true):=λU M H e d y x P Q dom vM hy hx w q=>by
 obtain⟨ks,ds,k,hd,he,w⟩:=w;obtain⟨a,vs,rfl,ha,hs⟩:=JA hd hx;refine⟨a,_,rfl,by rw [DX he hy]; exact KA ha,q _ H (.bl _) .refl rfl ?_⟩;have h:=HH (k:=k) (ks:=ks) hs;cases c:BP ks ds k with
 | none=>simp_all
 | some z=>rw [c] at h w; obtain⟨v,h1,_⟩:=h; simp_all
theorem Zj:FC K .sh U1 CC:=λU M H d e x y P Q dom vM hx hy w q=>by
 obtain⟨ks,ds,k,z,hd,he,hz,w⟩:=w;obtain⟨a,vs,rfl,ha,hs⟩:=JA hd hx;have h:=HH (k:=k) (ks:=ks) hs;rw [hz] at h;obtain⟨v,h1,h2⟩:=h;exact⟨a,v,rfl,by rw [DX he hy,← h1]; exact KA ha,q v H z .refl h2 w⟩
variable {a b:Expr}{zU zP:Kd}{wa wb:DW}{pos:Pos}
theorem CL{k:Nat}(hr:Room k X.A)(ha:DE X a zU wa)(hb:DE X b zP wb)(hs:autoParam (Xq b) zau7._auto_1):DE X (.Subscript a b pos) .sh (Aa CC wa wb):=by
 obtain⟨ta,ha1,ha2⟩:=ha;obtain⟨tb,hb1,hb2⟩:=hb;exact⟨_,J4 (Hc hr) ha1 hb1 hs,λC M H n ρ Z P Q R w q=>E6 Zj ha2 hb2 C M H n ρ Z P Q R w q⟩
end
noncomputable def UR(i:Nat)(w:DW):Ai:=λD2 n ρ=>∃a:Int,ρ[i]?=some (.sh (.int a))/\w n ρ λd n1=>∃b:Int,d=.int b/\D2.nx n1 (ρ.set i (.sh (.int (a+b))))
theorem XY{X:Cx}{κ zR:Kd}{e:d6}{wa:DW}{pos:Pos}{i:Nat}{x:Str}{pos':Pos}(hN:X.N.Nodup)(hi:X.N[i]?=some x)(hx:Loc X.env.scope x)(he:DE X e zR wa)
  (hf:autoParam (X.fn x=true\/X.env.scope.names.lookup x=some .local) zau0._auto_1):DS X κ (.AugAssign (.Name x pos') .Add e pos) (UR i wa):=by
 obtain⟨t,a1,a2⟩:=he;refine⟨_,Yu hN hi hx a1 ZO hf,λC M H n ρ Z D2 E R L w=>?_⟩;obtain⟨a,ha,w⟩:=w;obtain⟨v,e1,h1⟩:=R.sl i _ ha;cases (h1);refine⟨_,getD_some e1,a2 C M H n ρ Z _ _ R w λv H' d n' e1 f1 r1 p=>?_⟩;obtain⟨b,rfl,p⟩:=p;exact⟨a,b,rfl,Iz r1,L.nx M H' n' _ _ ((R.step e1 f1).set (d:=.int _) rfl) p⟩
end Dp
namespace So
open PySem.W
section
variable {O:KeyOrd}{key:Nat->O.α}{N:Nat}{cmp:Nat->Nat->(Bool->Shared->Prop)->Shared->Prop}{s:Shared}{p p0:Array Nat}
noncomputable def KN(O:KeyOrd)(key:Nat->O.α)(p:Array Nat)(i:Nat):O.α:=key (p.getD i 0)
noncomputable def Srt(O:KeyOrd)(key:Nat->O.α)(p:Array Nat)(k:Nat):Prop:=∀i j,i<=j->j<k->O.kle (KN O key p i) (KN O key p j)
noncomputable def bN(O:KeyOrd)(key:Nat->O.α)(p:Array Nat)(k:Nat):Prop:=∀i j,i<=j->j<k->O.kle (KN O key p j) (KN O key p i)
noncomputable def YN(O:KeyOrd)(key:Nat->O.α)(N:Nat)(cmp:Nat->Nat->(Bool->On->Prop)->On->Prop)(s:On):Prop:=∀(i j:Nat) (C:Bool->On->Prop),i<N->j<N->C (O.blt (key i) (key j)) s->cmp i j C s
noncomputable def Bd(N:Nat)(p:Array Nat):Prop:=0<N/\∀x∈p,x<N
theorem XH(p:Array Nat)(i:Nat):p.getD i 0=(p[i]?).getD 0:=by
 simp
theorem Bd.get(h:Bd N p)(i:Nat):p.getD i 0<N:=by
 rw [XH];cases e:p[i]? with
 | none=>exact h.1
 | some x=>exact h.2 x (Array.mem_of_getElem? e)
theorem Bd.perm{p':Array Nat}(h:Bd N p)(hp:p'.Perm p):Bd N p':=⟨h.1,λx hx=>h.2 x (hp.mem_iff.mp hx)⟩
theorem GB{p q:Array Nat}{i j:Nat}(h:p[i]?=q[j]?):KN O key p i=KN O key q j:=by
 unfold KN
 simp_all
theorem NN{src d:Nat}(hs:src<p.size)(hd:d<=src)(k:Nat) :
  KN O key (bubble p src d) k=if k=src - d then KN O key p src else if src - d<k/\k<=src then KN O key p (k - 1) else KN O key p k:=by
 have e:=getElem?_bubble hs d hd k
 by_cases h1:k=src - d
 ·rw [if_pos h1] at e ⊢; exact GB e
 ·rw [if_neg h1] at e ⊢
  by_cases h2:src - d<k/\k<=src
  ·rw [if_pos h2] at e ⊢; exact GB e
  ·rw [if_neg h2] at e ⊢; exact GB e
theorem JG{i j:Nat}(hj:j<=p.size)(k:Nat):KN O key (kas_rev p i j) k=if i<=k/\k<j then KN O key p (i+j - 1 - k) else KN O key p k:=by
 have e:=getElem?_mirror_all (i:=i) hj k
 by_cases h1:i<=k/\k<j
 ·rw [if_pos h1] at e ⊢; exact GB e
 ·rw [if_neg h1] at e ⊢; exact GB e
theorem Bv{i j:Nat}(hj:j<=p.size)(heq:∀k,i<=k->k<j->KN O key p k=KN O key p (j - 1))(k:Nat):KN O key (kas_rev p i j) k=KN O key p k:=by
 rw [JG hj]
 grind
theorem CT(p:Array Nat)(i j:Nat):(kas_rev p i j).Perm p:=mirror_perm _ _ _ _
theorem yes{α:Type}{T₁ T₂:KasT α}{Q:α->On->Prop}(h:T₁.kasWp cmp Q s):(if true=true then T₁ else T₂).kasWp cmp Q s:=by grind
theorem no{α:Type}{T₁ T₂:KasT α}{Q:α->On->Prop}(h:T₂.kasWp cmp Q s):(if false=true then T₁ else T₂).kasWp cmp Q s:=by grind
theorem RN(hC:YN O key N cmp s)(hb:Bd N p){nrem:Nat}{G:Nat->On->Prop}:∀(f n:Nat),1<=n->n+f=nrem->Srt O key p n ->
  (∀m,n<=m->m<=nrem->Srt O key p m->(m=nrem\/O.klt (KN O key p m) (KN O key p (m - 1)))->G m s)->(kas_asc p f n).kasWp cmp G s
 | 0,n,_,e,hs,h=>h n (Op _) (by omega) hs (.inl (by omega))
 | f+1,n,h1,e,hs,h=>by
  show cmp (p.getD n 0) (p.getD (n - 1) 0) (λc s'=>(if c=true then KasT.ret n else kas_asc p f (n+1)).kasWp cmp G s') s;refine hC _ _ _ (hb.get n) (hb.get _) ?_;cases hless:O.blt (key (p.getD n 0)) (key (p.getD (n - 1) 0)) with
  | true=>exact yes (h n (Op _) (by omega) hs (.inr hless))
  | false =>
   refine no (RN hC hb f (n+1) (by omega) (by omega) (λi j hij hj=>?_) λm m1 m2 m3 m4=>h m (by omega) m2 m3 m4)
   by_cases hjx:j<n
   ·exact hs i j hij hjx
   ·have hj':j=n:=by omega
    subst hj'
    by_cases hi':i=j
    ·subst hi'; exact fh _
    ·exact iZ (hs i (j - 1) (by omega) (by omega)) hless
theorem KC(hC:YN O key N cmp s){nrem:Nat}{G:Array Nat×Nat×Nat->On->Prop}:∀(f:Nat) (p:Array Nat) (n q:Nat),p.Perm p0->Bd N p->nrem<=p.size->1<=n->n+f=nrem->bN O key p n->q+1<=n ->
  (∀i,n - (q+1)<=i->i<n->KN O key p i=KN O key p (n - 1)) ->
  (∀p' m q',p'.Perm p0->Bd N p'->p'.size=p.size->n<=m->m<=nrem->bN O key p' m->q'+1<=m->(∀i,m - (q'+1)<=i->i<m->KN O key p' i=KN O key p' (m - 1))->G (p',m,q') s)->(kas_desc f p n q).kasWp cmp G s
 | 0,p,n,q,hp,hb,hz,h1,e,hs,hq,he,h=>h p n q hp hb rfl (Op _) (by omega) hs hq he
 | f+1,p,n,q,hp,hb,hz,h1,e,hs,hq,he,h=>by
  show cmp (p.getD n 0) (p.getD (n - 1) 0) (λc s'=>(if c=true then (if q > 0 then kas_desc f (kas_rev p (n - (q+1)) n) (n+1) 0 else kas_desc f p (n+1) 0)
   else .ask (p.getD (n - 1) 0) (p.getD n 0) λd=>if d=true then .ret (p,n,q) else kas_desc f p (n+1) (q+1)).kasWp cmp G s') s
  refine hC _ _ _ (hb.get n) (hb.get _) ?_;cases hless:O.blt (key (p.getD n 0)) (key (p.getD (n - 1) 0)) with
  | true =>
   have hl:O.klt (KN O key p n) (KN O key p (n - 1)):=hless
   have step1:∀xs:Array Nat,(∀k,KN O key xs k=KN O key p k)->bN O key xs (n+1):=by
    intro xs hk i j hij hj;rw [hk,hk]
    by_cases hjx:j<n
    ·exact hs i j hij hjx
    ·have hj':j=n:=by omega
     subst hj'
     by_cases hi':i=j
     ·subst hi'; exact fh _
     ·exact iZ (iQ hl) (hs i (j - 1) (by omega) (by omega))
   refine yes ?_;have hsz:n<=p.size:=by omega
   by_cases hq0:q > 0
   ·rw [if_pos hq0]
    refine KC hC f _ (n+1) 0 ((CT _ _ _).trans hp) (hb.perm (CT _ _ _)) (by rw [kas_rev_size]; exact hz) (by omega) (by omega) (step1 _ (Bv hsz he)) (by omega) (λi a b=>by congr 1; omega) λp' m q' a1 a2 a3 a4 a5 a6 a7 a8=>h p' m q' a1 a2 (a3.trans (kas_rev_size _ _)) (by omega) a5 a6 a7 a8
   ·rw [if_neg hq0]
    exact KC hC f _ (n+1) 0 hp hb hz (by omega) (by omega) (step1 _ λ_=>rfl) (by omega) (λi a b=>by congr 1; omega) λp' m q' a1 a2 a3 a4 a5 a6 a7 a8=>h p' m q' a1 a2 a3 (by omega) a5 a6 a7 a8
  | false =>
   refine no ?_;show cmp (p.getD (n - 1) 0) (p.getD n 0) (λd s'=>(if d=true then KasT.ret (p,n,q) else kas_desc f p (n+1) (q+1)).kasWp cmp G s') s;refine hC _ _ _ (hb.get _) (hb.get n) ?_;cases hlarger:O.blt (key (p.getD (n - 1) 0)) (key (p.getD n 0)) with
   | true=>exact yes (h p n q hp hb rfl (Op _) (by omega) hs hq he)
   | false =>
    have heqx:KN O key p n=KN O key p (n - 1):=kJ (O:=O) hlarger hless;refine no (KC hC f p (n+1) (q+1) hp hb hz (by omega) (by omega) (λi j hij hj=>?_) (by omega) (λi a b=>?_) λp' m q' a1 a2 a3 a4 a5 a6 a7 a8=>h p' m q' a1 a2 a3 (by omega) a5 a6 a7 a8)
    ·by_cases hjx:j<n
     ·exact hs i j hij hjx
     ·have hj':j=n:=by omega
      subst hj'
      by_cases hi':i=j
      ·subst hi'; exact fh _
      ·rw [heqx]; exact hs i (j - 1) (by omega) (by omega)
    ·rw [show n+1 - 1=n by omega]
     by_cases hix:i=n
     ·subst hix; rfl
     ·rw [heqx]; exact he i (by omega) (by omega)
theorem Oq(hC:YN O key N cmp s){n nrem:Nat}{G:Nat×Array Nat->On->Prop}(hp:p.Perm p0)(hb:Bd N p)(hz:nrem<=p.size)(h1:1<=n)(hn:n<=nrem)(hs:bN O key p n)
  (h:∀m p',p'.Perm p0->Bd N p'->p'.size=p.size->1<=m->m<=nrem->Srt O key p' m->G (m,p') s):(kas_tail3 n nrem p).kasWp cmp G s:=by
 unfold kas_tail3;rw [KasT.kasWp_bind];have hsz:n<=p.size:=by omega
 refine RN hC (hb.perm (CT _ _ _)) _ n h1 (by omega) (λi j hij hj=>?_) λm m1 m2 m3 _=>h m _ ((CT _ _ _).trans hp) (hb.perm (CT _ _ _)) (kas_rev_size _ _) (by omega) m2 m3;rw [JG hsz,JG hsz,if_pos (by omega),if_pos (by omega)];exact hs _ _ (by omega) (by omega)
theorem JS(hC:YN O key N cmp s){n nrem:Nat}{G:Nat×Array Nat->On->Prop}(hp:p.Perm p0)(hb:Bd N p)(hz:nrem<=p.size)(hn:n+1<=nrem)(hs:bN O key p (n+1))
  (h:∀m p',p'.Perm p0->Bd N p'->p'.size=p.size->1<=m->m<=nrem->Srt O key p' m->G (m,p') s):(kas_descPart n nrem p).kasWp cmp G s:=by
 unfold kas_descPart;rw [KasT.kasWp_bind];refine KC (p0:=p0) hC (nrem - (n+1)) p (n+1) 0 hp hb hz (by omega) (by omega) hs (by omega) (λi a b=>by grind) λp' m q' a1 a2 a3 a4 a5 a6 a7 a8=>?_;have hsz:m<=p'.size:=by omega
 show (if q' > 0 then kas_tail3 m nrem (kas_rev p' (m - (q'+1)) m) else kas_tail3 m nrem p').kasWp cmp G s
 by_cases hq0:q' > 0
 ·rw [if_pos hq0]
  refine Oq hC ((CT _ _ _).trans a1) (a2.perm (CT _ _ _)) (by rw [kas_rev_size]; omega) (by omega) a5 (λi j hij hj=>?_) λm' p'' b1 b2 b3 b4 b5 b6=>h m' p'' b1 b2 (b3.trans ((kas_rev_size _ _).trans a3)) b4 b5 b6;rw [Bv hsz a8,Bv hsz a8];exact a6 i j hij hj
 ·rw [if_neg hq0]
  exact Oq hC a1 a2 (by omega) (by omega) a5 a6 λm' p'' b1 b2 b3 b4 b5 b6=>h m' p'' b1 b2 (b3.trans a3) b4 b5 b6
theorem V8(hC:YN O key N cmp s){nrem:Nat}{G:Nat×Array Nat->On->Prop}(hp:p.Perm p0)(hb:Bd N p)(hz:nrem<=p.size)(h1:1<=nrem)
  (h:∀m p',p'.Perm p0->Bd N p'->p'.size=p.size->1<=m->m<=nrem->Srt O key p' m->G (m,p') s):(kas_count nrem p).kasWp cmp G s:=by
 unfold kas_count;rw [KasT.kasWp_bind];refine RN (nrem:=nrem) hC hb (nrem - 1) 1 (Op _) (by omega) (λi j hij hj=>by have:i=j:=(by omega); subst this; exact fh _) λn hn1 hn2 hsn hor=>?_
 by_cases hnn:n=nrem
 ·rw [if_pos (by simpa using hnn)]
  exact h n p hp hb rfl hn1 hn2 hsn
 ·rw [if_neg (by simpa using hnn)]
  have hlt:O.klt (KN O key p n) (KN O key p (n - 1)):=hor.resolve_left hnn
  by_cases hgt:n > 1
  ·rw [if_pos hgt]
   show cmp (p.getD 0 0) (p.getD (n - 1) 0) (λc s'=>(if c=true then KasT.ret (n,p) else kas_descPart n nrem (kas_rev p 0 n)).kasWp cmp G s') s;refine hC _ _ _ (hb.get _) (hb.get _) ?_;cases hrose:O.blt (key (p.getD 0 0)) (key (p.getD (n - 1) 0)) with
   | true=>exact yes (h n p hp hb rfl hn1 hn2 hsn)
   | false =>
    have hrose':O.kle (KN O key p (n - 1)) (KN O key p 0):=hrose;have hsz:n<=p.size:=by omega
    have hall:∀k,0<=k->k<n->KN O key p k=KN O key p (n - 1):=by
     intro k _ hk;have a1:=hsn 0 k (by omega) hk;have a2:=hsn k (n - 1) (by omega) (by omega);exact kJ a2 (iZ hrose' a1)
    refine no (JS hC ((CT _ _ _).trans hp) (hb.perm (CT _ _ _)) (by rw [kas_rev_size]; exact hz) (by omega) (λi j hij hj=>?_) λm' p'' b1 b2 b3 b4 b5 b6=>h m' p'' b1 b2 (b3.trans (kas_rev_size _ _)) b4 b5 b6);rw [Bv hsz hall,Bv hsz hall]
    by_cases hjn:j<n
    ·rw [hall i (by omega) (by omega),hall j (by omega) hjn]; exact fh _
    ·have hj':j=n:=by omega
     subst hj'
     by_cases hi':i=j
     ·subst hi'; exact fh _
     ·rw [hall i (by omega) (by omega)]; exact iQ hlt
  ·rw [if_neg hgt]
   have hn1':n=1:=by omega
   subst hn1';refine JS hC hp hb hz (by omega) (λi j hij hj=>?_) h
   by_cases hi':i=j
   ·subst hi'; exact fh _
   ·have hi0:i=0:=by omega
    have hj1:j=1:=by omega
    subst hi0; subst hj1
    exact iQ hlt
theorem K5(hC:YN O key N cmp s)(hb:Bd N p){k:Nat}(hs:Srt O key p k){G:Nat->On->Prop}
  (h:∀l,l<=k->(∀i,i<l->O.kle (KN O key p i) (KN O key p k))->(∀i,l<=i->i<k->O.klt (KN O key p k) (KN O key p i))->G l s):∀(f l r:Nat),l<=r->r<=k->r - l<=f ->
  (∀i,i<l->O.kle (KN O key p i) (KN O key p k))->(∀i,r<=i->i<k->O.klt (KN O key p k) (KN O key p i))->(kas_place p k f l r).kasWp cmp G s
 | 0,l,r,hlr,hrk,hm,hlo,hhi=>by
  have:l=r:=by omega
  subst this;exact h l hrk hlo hhi
 | f+1,l,r,hlr,hrk,hm,hlo,hhi=>by
  unfold kas_place
  by_cases hge:l≥r
  ·rw [if_pos hge]
   have:l=r:=by omega
   subst this;exact h l hrk hlo hhi
  ·rw [if_neg hge]
   refine hC _ _ _ (hb.get _) (hb.get _) ?_;cases hless:O.blt (key (p.getD k 0)) (key (p.getD ((l+r) / 2) 0)) with
   | true =>
    have hl:O.klt (KN O key p k) (KN O key p ((l+r) / 2)):=hless;exact yes (K5 hC hb hs h f l ((l+r) / 2) (by omega) (by omega) (by omega) hlo λi h1 h2=>KeyOrd.klt_of_klt_of_kle hl (hs _ _ h1 h2))
   | false =>
    have hl:O.kle (KN O key p ((l+r) / 2)) (KN O key p k):=hless;exact no (K5 hC hb hs h f ((l+r) / 2+1) r (by omega) (by omega) (by omega) (λi h1=>iZ (hs i ((l+r) / 2) (by omega) (by omega)) hl) hhi)
theorem E6(hC:YN O key N cmp s){n:Nat}{G:Array Nat->On->Prop}(h:∀p',p'.Perm p0->Srt O key p' n->G p' s):∀(f:Nat) (p:Array Nat) (k:Nat),p.Perm p0->Bd N p->n<=p.size->k+f=n->Srt O key p k->(kas_bin f p k).kasWp cmp G s
 | 0,p,k,hp,hb,hz,e,hs=>h p hp (by rw [← e]; exact hs)
 | f+1,p,k,hp,hb,hz,e,hs=>by
  rw [show kas_bin (f+1) p k=(kas_place p k k 0 k).bind λl=>kas_bin f (bubble p k (k - l)) (k+1) from rfl,KasT.kasWp_bind];refine K5 hC hb hs (λl hlk hlo hhi=>?_) k 0 k (dY _) (Op _) (by omega) (λi hi=>by omega) λi a b=>by omega
  have hks:k<p.size:=by omega
  refine E6 hC h f _ (k+1) ((bubble_perm _ _ _).trans hp) (hb.perm (bubble_perm _ _ _)) (by rw [bubble_size]; exact hz) (by omega) λi j hij hj=>?_;rw [NN hks (by omega),NN hks (by omega),show k - (k - l)=l by omega]
  by_cases hi1:i=l
  ·rw [if_pos hi1]
   by_cases hj1:j=l
   ·rw [if_pos hj1]; exact fh _
   ·rw [if_neg hj1,if_pos (by omega)]
    exact iQ (hhi (j - 1) (by omega) (by omega))
  ·rw [if_neg hi1]
   by_cases hi2:l<i/\i<=k
   ·rw [if_pos hi2,if_neg (by omega),if_pos (by omega)]
    exact hs (i - 1) (j - 1) (by omega) (by omega)
   ·rw [if_neg hi2]
    by_cases hj1:j=l
    ·rw [if_pos hj1]; exact hlo i (by omega)
    ·rw [if_neg hj1]
     by_cases hj2:l<j/\j<=k
     ·rw [if_pos hj2]
      exact hs i (j - 1) (by omega) (by omega)
     ·rw [if_neg hj2]
      exact hs i j hij (by omega)
theorem sort_ok{n:Nat}(h1:1<=n)(hC:YN O key n cmp s){G:Array Nat->On->Prop}(h:∀p,p.Perm (eE (eP n))->Srt O key p n->G p s):(kas_sort n).kasWp cmp G s:=by
 unfold kas_sort;rw [KasT.kasWp_bind];have hb:Bd n (eE (eP n)):=⟨h1,λx hx=>by grind⟩;have hsz:(eE (eP n)).size=n:=by simp
 refine V8 hC (ju _) hb (by omega) h1 λm p' a1 a2 a3 a4 a5 a6=>?_
 by_cases hlt:m<n
 ·rw [if_pos hlt,show max m 1=m by omega]
  exact E6 hC h _ p' m a1 a2 (by omega) (by omega) a6
 ·rw [if_neg hlt]
  exact h p' a1 (by grind)
end
end So
namespace L2
open PySem.W
noncomputable def ZC:Key->Key->Bool
 | .inl i,.inl j=>decide (i<j)
 | .inr x,.inr y=>decide (x.cps.toList<y.cps.toList)
 | .inl _,.inr _=>true
 | .inr _,.inl _=>false
noncomputable def BX:List Key->List Key->Bool
 | [],[]=>false
 | [],_::_=>true
 | _::_,[]=>false
 | x::xs,y::ys=>if x=y then BX xs ys else ZC x y
theorem Q6:∀x:Key,ZC x x=false
 | .inl i=>decide_eq_false (Int.lt_irrefl i)
 | .inr x=>decide_eq_false (g8 _)
theorem Tj:∀x y z:Key,ZC x y=true->ZC y z=true->ZC x z=true
 | .inl i,.inl j,.inl k,h1,h2=>decide_eq_true (Int.lt_trans (of_decide_eq_true h1) (of_decide_eq_true h2))
 | .inr i,.inr j,.inr k,h1,h2=>decide_eq_true (kG (of_decide_eq_true h1) (of_decide_eq_true h2))
 | .inl i,.inl j,.inr k,_,_=>rfl
 | .inl i,.inr j,.inr k,_,_=>rfl
 | .inl i,.inr j,.inl k,_,h=>by cases h
 | .inr i,.inl j,_,h,_=>by cases h
 | .inr i,.inr j,.inl k,_,h=>by cases h
theorem Tl:∀x y:Key,ZC x y=false->ZC y x=false->x=y
 | .inl i,.inl j,h1,h2=>congrArg _ (by have a:=of_decide_eq_false h1; have b:=of_decide_eq_false h2; omega)
 | .inr x,.inr y,h1,h2=>by
  have e:=List.le_antisymm (of_decide_eq_false h2) (of_decide_eq_false h1);obtain⟨u⟩:=x
  simp_all
 | .inl i,.inr j,h,_=>by cases h
 | .inr i,.inl j,_,h=>by cases h
theorem C2:∀x:List Key,BX x x=false
 | []=>rfl
 | x::xs=>by unfold BX; rw [if_pos rfl]; exact C2 xs
theorem Cq:∀x y z:List Key,BX x y=true->BX y z=true->BX x z=true
 | [],[],_,h,_=>by cases h
 | [],_::_,[],_,h=>by cases h
 | [],_::_,_::_,_,_=>rfl
 | _::_,[],_,h,_=>by cases h
 | _::_,_::_,[],_,h=>by cases h
 | x::xs,y::ys,z::zs,h1,h2=>by
  unfold BX at h1 h2 ⊢
  by_cases e1:x=y
  ·subst e1
   rw [if_pos rfl] at h1
   by_cases e2:x=z
   ·subst e2
    rw [if_pos rfl] at h2 ⊢;exact Cq xs ys zs h1 h2
   grind
  ·rw [if_neg e1] at h1
   by_cases e2:y=z
   ·grind
   ·rw [if_neg e2] at h2
    have h3:=Tj x y z h1 h2
    by_cases e3:x=z
    ·subst e3
     rw [Q6] at h3;cases h3
    grind
theorem Cr:∀x y:List Key,BX x y=false->BX y x=false->x=y
 | [],[],_,_=>rfl
 | [],_::_,h,_=>by cases h
 | _::_,[],_,h=>by cases h
 | x::xs,y::ys,h1,h2=>by
  unfold BX at h1 h2
  by_cases e:x=y
  ·subst e
   rw [if_pos rfl] at h1 h2;rw [Cr xs ys h1 h2]
  ·rw [if_neg e] at h1
   rw [if_neg (λz=>e z.symm)] at h2;exact absurd (Tl x y h1 h2) e
noncomputable def TR:KeyOrd:=⟨List Key,BX,C2,Cq,λa b c h=>by
 cases h1:BX a b with
 | true=>exact .inl rfl
 | false =>
  cases h2:BX b a with
  | true=>exact .inr (Cq b a c h2 h)
  | false=>rw [← Cr a b h1 h2]; exact .inr h,Cr⟩
theorem J5:∀x y:List Key,CM x y=true->G4 x y=BX x y
 | [],[],_=>rfl
 | [],_::_,_=>rfl
 | _::_,[],_=>rfl
 | x::xs,y::ys,h=>by
  have h':(Mh x y&&CM xs ys)=true:=h;rw [de] at h';unfold G4 BX
  by_cases e:x=y
  ·rw [if_pos e,if_pos e]; exact J5 xs ys h'.2
  ·rw [if_neg e,if_neg e]
   cases x with
   | inl i=>cases y with
    | inl j=>rfl
    | inr z=>cases h'.1
   | inr i=>cases y with
    | inl j=>cases h'.1
    | inr z=>rfl
section
variable {prog:Program}{w:World}{A:Around}{E:Value->Shared->Prop}{s:Shared}
theorem VX{b:Bool}{Q:Bool->On->Prop}{nx ny:Nat}:∀(ns ms:List Key) (us ws:List Db) (i:Nat),Vals (ns.map kOf) us->Vals (ms.map kOf) ws->CM ns ms=true->ns.length+ny=ms.length+nx->Q (G4 ns ms) s ->
  KatLex prog w A b (decide (nx<ny)) Q (us.zip ws) i s
 | [],[],us,ws,i,h1,h2,_,hl,q=>by
  cases h1;cases h2;refine kat_nil ?_;rw [show decide (nx<ny)=false from decide_eq_false (by simp only [f6] at hl; omega)];exact q
 | [],m::ms,us,ws,i,h1,h2,_,hl,q=>by
  cases h1;rw [List.zip_nil_left];refine kat_nil ?_;rw [show decide (nx<ny)=true from decide_eq_true (by simp only [f6,dq] at hl; omega)];exact q
 | n::ns,[],us,ws,i,h1,h2,_,hl,q=>by
  cases h2;rw [List.zip_nil_right];refine kat_nil ?_;rw [show decide (nx<ny)=false from decide_eq_false (by simp only [f6,dq] at hl; omega)];exact q
 | n::ns,m::ms,us,ws,i,h1,h2,hs,hl,q=>by
  have hs':(Mh n m&&CM ns ms)=true:=hs;rw [de] at hs';have q':Q (if n=m then G4 ns ms else bV n m) s:=q;cases h1 with
  | @cons _ u _ ur r1 t1 =>
   cases h2 with
   | @cons _ v _ vr r2 t2 =>
    rw [jH];have ih:n=m->KatLex prog w A b (decide (nx<ny)) Q (ur.zip vr) (i+1) s:=λe=>VX ns ms ur vr (i+1) t1 t2 hs'.2 (by simp only [dq] at hl; omega) (by rw [if_pos e] at q'; exact q');cases n with
    | inl x =>
     cases m with
     | inr y=>cases hs'.1
     | inl y =>
      obtain⟨tu,rfl⟩:=r1;obtain⟨tv,rfl⟩:=r2;refine kat_cons (wpAny_eqBool_int ?_)
      by_cases e:x=y
      ·rw [show (x==y)=true by simpa using e]
       exact kat_yes (ih (by rw [e]))
      ·rw [show (x==y)=false by simpa using e]
       refine kat_no ?_;rw [if_neg (λz=>e (Sum.inl.inj z))] at q';cases hf:(b&&i==0) with
       | true=>exact oneLt_int q'
       | false=>exact kat_one _ _ (jx (show PySem.W.BoolBack Q (.bool (decide (x<y))) s from q'))
    | inr x =>
     cases m with
     | inl y=>cases hs'.1
     | inr y =>
      obtain⟨tu,rfl⟩:=r1;obtain⟨tv,rfl⟩:=r2;refine kat_cons (wpAny_eqBool_str ?_)
      by_cases e:x=y
      ·rw [show decide (x=y)=true by simpa using e]
       exact kat_yes (ih (by rw [e]))
      ·rw [show decide (x=y)=false by simpa using e]
       refine kat_no ?_;rw [if_neg (λz=>e (f8 z))] at q';cases hf:(b&&i==0) with
       | true=>exact oneLt_str q'
       | false=>exact kat_one _ _ (PySem.P.lt_str (show PySem.W.BoolBack Q (.bool (decide (x.cps.toList<y.cps.toList))) s from q'))
structure Sr (h:dg) (ks:List Db) (keys:List (List Key)):Prop where
 at_:∀(i:Nat) (ns:List Key),keys[i]?=some ns->∃a o its n,ks[i]?=some (.ref a)/\h.get? a=some o/\o.cls=.type "tuple"/\o.data=.seq its n/\Vals (ns.map kOf) its.toList
 len:ks.length=keys.length
 same:∀x∈keys,∀y∈keys,CM x y=true
 ne:∀x∈keys,x≠[]
noncomputable def bQ:Key->String
 | .inl _ => "int"
 | .inr _ => "str"
theorem firsts{h:dg}:∀(ks:List Db) (keys:List (List Key)) (T:String),ks.length=keys.length->(∀(i:Nat) (ns:List Key),keys[i]?=some ns->∃a o its n,ks[i]?=some (.ref a)/\h.get? a=some o/\o.cls=.type "tuple"/\o.data=.seq its n/\Vals (ns.map kOf) its.toList) ->
  (∀x∈keys,∃k r,x=k::r/\bQ k=T)->∃fs:List Db,KatTups h ks fs/\fs.length=keys.length/\∀v∈fs,typeOf v=pure (.type T)
 | [],[],T,_,_,_=>⟨[],trivial,rfl,λv hv=>by cases hv⟩
 | [],_::_,T,hl,_,_=>by cases hl
 | _::_,[],T,hl,_,_=>by cases hl
 | k::ks,x::keys,T,hl,h1,h2=>by
  obtain⟨fs,g1,g2,g3⟩:=firsts ks keys T (by simpa using hl) (λi ns e=>by
   obtain⟨a,o,its,n,e1,r⟩:=h1 (i+1) ns (by simpa using e);exact⟨a,o,its,n,by simpa using e1,r⟩) λy hy=>h2 y (Sc _ hy)
  obtain⟨a,o,its,n,e1,e2,e3,e4,e5⟩:=h1 0 x rfl;have e1:k=.ref a:=by simpa using e1
  subst e1;obtain⟨k,r,rfl,hk⟩:=h2 x Re;rw [eR] at e5;cases hits:its.toList with
  | nil=>rw [hits] at e5; cases e5
  | cons f tl =>
   rw [hits] at e5;cases e5 with
   | cons r1 r2 =>
    refine⟨f::fs,KatTups.cons e2 e3 e4 (by rw [← j8,hits]; rfl) g1,by rw [dq,dq,g2],λv hv=>?_⟩
    rcases ZB.mp hv with rfl | hv
    ·cases k with
     | inl i=>obtain⟨t,rfl⟩:=r1; subst hk; rfl
     | inr i=>obtain⟨t,rfl⟩:=r1; subst hk; rfl
    ·exact g3 v hv
theorem Mb{ks:List Db}{keys:List (List Key)}(K:Sr s.heap ks keys)(h2:2<=ks.length){G:Array Nat->On->Prop}(h:∀p,p.Perm (eE (eP ks.length))->So.Srt TR (λi=>keys.getD i []) p ks.length->G p s) :
  wpAny (model prog w) A (keyKind' ks.toArray) (λκ s'=>(kas_sort ks.length).kasWp (kas_ask prog w A κ ks) G s') (λ_ _=>False) s:=by
 obtain⟨x0,xr,hx⟩:∃x0 xr,keys=x0::xr:=by
  cases e:keys with
  | nil=>have:=K.len; rw [e] at this; simp only [f6] at this; omega
  | cons x r=>exact⟨x,r,rfl⟩
 have m0:x0∈keys:=by rw [hx]; exact Re
 obtain⟨k0,r0,e0⟩:∃k r,x0=k::r:=by
  cases e:x0 with
  | nil=>exact absurd e (K.ne x0 m0)
  | cons k r=>exact⟨k,r,rfl⟩
 have hty:∀x∈keys,∃k r,x=k::r/\bQ k=bQ k0:=λx hm=>by
  cases e:x with
  | nil=>exact absurd e (K.ne x hm)
  | cons k r =>
   refine⟨k,r,rfl,?_⟩;have hsm:=K.same x hm x0 m0;rw [e,e0] at hsm;have hsm:(Mh k k0&&CM r r0)=true:=hsm;rw [de] at hsm;cases k with
   | inl i=>cases k0 with
    | inl j=>rfl
    | inr j=>cases hsm.1
   | inr i=>cases k0 with
    | inl j=>cases hsm.1
    | inr j=>rfl
 obtain⟨fs,g1,g2,g3⟩:=firsts ks keys (bQ k0) K.len K.at_ hty;refine kat_kind g1 (by rw [g2,← K.len]; omega) (λv hv=>by rw [g3 v hv]; exact Looks.now) (by simp) ?_;refine So.sort_ok (O:=TR) (key:=λi=>keys.getD i []) (by omega) (λi j C hi hj hC=>?_) h;have hi':i<keys.length:=by rw [← K.len]; exact hi
 have hj':j<keys.length:=by rw [← K.len]; exact hj
 obtain⟨a,o,its,n,e1,e2,e3,e4,e5⟩:=K.at_ i keys[i] (No hi');obtain⟨a',o',its',n',e1',e2',e3',e4',e5'⟩:=K.at_ j keys[j] (No hj');unfold kas_ask;rw [show ks.getD i eS=.ref a by rw [eN,e1]; rfl,show ks.getD j eS=.ref a' by rw [eN,e1']; rfl];have hsm:=K.same _ (fW hi') _ (fW hj');refine kat_lt e2 e4 e2' e4' (VX keys[i] keys[j] _ _ 0 e5 e5' hsm ?_ ?_)
 ·have l1:=e5.length
  have l2:=e5'.length;have l3:(keys[i].map kOf).length=keys[i].length:=Go ..;have l4:(keys[j].map kOf).length=keys[j].length:=Go ..;have l5:its.toList.length=its.size:=fE;have l6:its'.toList.length=its'.size:=fE;omega
 ·rw [J5 _ _ hsm]
  have g1:keys.getD i []=keys[i]:=by rw [eN,No hi']; rfl
  have g2:keys.getD j []=keys[j]:=by rw [eN,No hj']; rfl
  have hC':C (BX (keys.getD i []) (keys.getD j [])) s:=hC;rw [g1,g2] at hC';exact hC'
theorem DD{v:Db}{kw:List (Str×Db)}{Q:Db->On->Prop}(ha1:argsOk "sorted" ⟨[v],kw⟩)(ha2:∀x,argsOk "list.sort" ⟨[.ref x],kw⟩)
  (hc:wpAny (model prog w) A.in1 (collect v) (λvs s1=>vs.length<=sizeLine/\wpAny (model prog w) A.in1.in1 (gg.«list.sort» ⟨[.ref s1.heap.objs.size],kw⟩) (λfin s'=>fin=.done (.ret .none)/\Q (.ref s1.heap.objs.size) s') E { s1 with heap:=s1.heap.push (seqObj "list" vs.toArray 0) }) E s) :
  wpAny (model prog w) A (call (.builtin "sorted") [v] kw) Q E s:=call_function_entry_kw kind_sorted plain_sorted entry_sorted ha1 (Ev (T0 (Ev (e7 hc (λvs s1 h=>Ev (jO (Ev (fI (wpAny_call_entry_kw PyProof.Rows.slot_list_sort ⟨_,UF _ rfl,rfl⟩ PyProof.Rows.entry_list_sort (e7 h.2 (λfin s' hf=>⟨_,hf.1,T0 ⟨_,rfl,hf.2⟩⟩) λ_ _ x=>x) (ha2 _)))) h.1)) λ_ _ x=>x))))
noncomputable def Do(h:dg)(D:Ch)(vs:List Db):dg:=((h.update D (e8 λ_=>(#[]:Array Db))).push (seqObj "tuple" vs.toArray 0)).push (seqObj "list" #[] 0)
theorem IY{h:dg}{D:Ch}{vs:List Db}{b:Ch}{o:Obj}(hb:b≠D)(e:h.get? b=some o):(Do h D vs).get? b=some o :=
 FM _ (FM _ ((dk _ _ (fF hb)).trans e))
theorem Kg{h:dg}{D:Ch}{vs:List Db}{n:Nat}(ho:h.get? D=some (seqObj "list" vs.toArray n)):∃e1,(Do h D vs).get? D=some (seqObj "list" #[] e1)/\(h.update D (e8 λ_=>(#[]:Array Db))).get? D=some (seqObj "list" #[] e1):=by
 obtain⟨e1,ho1⟩:∃e1,(h.update D _).get? D=some (seqObj _ _ e1):=⟨_,gs ho _⟩;exact⟨e1,FM _ (FM _ ho1),ho1⟩
theorem Pa{D:Ch}{vs:List Db}{n:Nat}{P:PySem.Fin->On->Prop}{G:Array Nat->Prop}(ho:s.heap.get? D=some (seqObj "list" vs.toArray n))(h64:vs.length<64)
  (hk:2<=vs.length->wpAny (model prog w) A (keyKind' vs.toArray) (λκ s'=>(kas_sort vs.length).kasWp (kas_ask prog w A κ vs) (λp s''=>s''={ s with heap:=Do s.heap D vs }/\G p) s') (λ_ _=>False) { s with heap:=Do s.heap D vs })
  (h1:vs.length<2->G (eE (eP vs.length))) (hfin:∀(p:Array Nat) (h':dg) (c:Nat),p.size=vs.length->G p->(∀b o,b≠D->s.heap.get? b=some o->h'.get? b=some o)->h'.get? D=some (seqObj "list" (eE (p.toList.map λi=>vs.getD i eS)) c)->P (.done (.ret .none)) { s with heap:=h' }) :
  wpAny (model prog w) A (gg.«list.sort» ⟨[.ref D],[]⟩) P E s:=by
 obtain⟨e1,ho6,ho1⟩:=Kg ho
 have fin:∀(p:Array Nat),p.size=vs.length->G p->P (.done (.ret .none)) { s with heap:=(Do s.heap D vs).update D (e8 λ_=>eE (p.toList.map λi=>vs.getD i eS)) }:=λp hp hg=>by
  obtain⟨c2,hc2⟩:∃c2,((Do s.heap D vs).update D (e8 λ_=>eE (p.toList.map λi=>vs.getD i eS))).get? D=some (seqObj "list" (eE (p.toList.map λi=>vs.getD i eS)) c2):=⟨_,gs ho6 λ_=>eE (p.toList.map λi=>vs.getD i eS)⟩;exact hfin p _ c2 hp hg (λb o hb e=>(dk _ _ (fF hb)).trans (IY hb e)) hc2
 rw [list_sort_plain];refine Ev (iu ho rfl ?_);refine Ev (gT ho rfl ?_ (by rw [dW,eK]; omega) (dY _));refine Ev (jD ho1 rfl ?_);refine Ev (wpAny_newTuple ?_ (by show vs.length<=_; rw [eK]; omega));refine Ev (jO ?_ (dY _));refine fI ?_;show wpAny (model prog w) A _ P E { s with heap:=Do s.heap D vs }
 dsimp only
 by_cases h2:vs.length<2
 ·have h2':vs.toArray.size<2:=by rw [dW]; exact h2
  rw [if_pos h2',if_pos h2'];refine Ev (T0 ?_);rw [StateT.run_pure];refine Ev (T0 ?_)
  dsimp only
  refine Ev (jD ho6 rfl ?_);have hsz:(eE (eP vs.length)).size=vs.length:=by simp
  have hout:(arrOf (SortSt.mk' general' (vs.toArray.zip vs.toArray) #[] 7 none)).map (·.2)=eE ((eE (eP vs.length)).toList.map λi=>vs.getD i eS):=by
   refine kat_snds rfl ?_;have e:=kas_range (vs.toArray.zip vs.toArray);rw [show (vs.toArray.zip vs.toArray).size=vs.length by simp] at e;exact e.symm
  rw [hout];refine Ev (gT ho6 rfl ?_ (dY _) (by rw [dW,Go,fE,hsz,eK]; omega));simp only [bne_self_eq_false,gA,if_false];exact T0 (fin _ hsz (h1 h2))
 ·have h2':¬vs.toArray.size<2:=by rw [dW]; exact h2
  rw [if_neg h2',if_neg h2'];refine Ev (e7 (hk (by omega)) (λκ s0 hk=>?_) λ_ _ x=>x.elim)
  refine Ev (e7 (kat_run (Q:=λst' s'=>∃p:Array Nat,p.size=vs.length/\arrOf st'=p.map (kas_item (vs.toArray.zip vs.toArray))/\failedOf st'=none/\s'={ s with heap:=Do s.heap D vs }/\G p)
   rfl (by omega) h64 (λp' st' s' a1 a2 a3 a4=>⟨p',a1,a2,a3,a4⟩) hk) ?_ λ_ _ e=>e)
  rintro ⟨⟨⟩,st'⟩ s' ⟨p,hp,har,hf,rfl,hg⟩
  dsimp only
  have hout:=kat_snds rfl har;have hsz:(eE (p.toList.map λi=>vs.getD i eS)).size=vs.length:=by rw [dW,Go,fE,hp]
  rw [hout];refine Ev (jD ho6 rfl ?_);refine Ev (gT ho6 rfl ?_ (dY _) (dn (ji hsz) (by rw [eK]; omega)));rw [hf];simp only [bne_self_eq_false,gA,if_false];exact T0 (fin p hp hg)
theorem To{D:Ch}{f:Db}{vs:List Db}{n:Nat}{P:PySem.Fin->On->Prop}(ho:s.heap.get? D=some (seqObj "list" vs.toArray n))(h64:vs.length<64)(J:List Db->On->Prop)(kS:Ch)(hkS:kS=s.heap.objs.size+1)
  (h0:∀e1,(Do s.heap D vs).get? D=some (seqObj "list" #[] e1)->J [] { s with heap:=Do s.heap D vs })
  (hstep:∀(ks:List Db) (s':On) (e:Nat) (v:Db),J ks s'->s'.heap.get? kS=some (seqObj "list" ks.toArray e)->vs[ks.length]?=some v->wpAny (model prog w) A (call f [v]) (λk s''=>s''.heap.get? kS=some (seqObj "list" ks.toArray e)/\J (ks++[k]) { s'' with heap:=s''.heap.update kS (e8 (·.push k)) }) (λ_ _=>False) s')
  (hend:∀(e1:Nat),(Do s.heap D vs).get? D=some (seqObj "list" #[] e1)->∀(ks:List Db) (s':On),J ks s'->ks.length=vs.length->s'.heap.get? D=some (seqObj "list" #[] e1)/\∃G:Array Nat->Prop,
   (2<=vs.length->wpAny (model prog w) A (keyKind' ks.toArray) (λκ s2=>(kas_sort vs.length).kasWp (kas_ask prog w A κ ks) (λp s''=>s''=s'/\G p) s2) (λ_ _=>False) s')/\(vs.length<2->G (eE (eP vs.length))) /\
   ∀(p:Array Nat) (h':dg) (c:Nat),p.size=vs.length->G p->(∀b o,b≠D->b≠kS->s'.heap.get? b=some o->h'.get? b=some o)->h'.get? D=some (seqObj "list" (eE (p.toList.map λi=>vs.getD i eS)) c)->(∃o,h'.get? kS=some o)->P (.done (.ret .none)) { s' with heap:=h' }) :
  wpAny (model prog w) A (ksk_tree D f false) P E s:=by
 obtain⟨e1,ho6,ho1⟩:=Kg ho;have hsz1:((s.heap.update D (e8 λ_=>(#[]:Array Db))).push (seqObj "tuple" vs.toArray 0)).objs.size=kS:=by rw [size_push',Heap.size_update,hkS]
 have hD:D<s.heap.objs.size:=XV ho;have hDk:D≠kS:=by rw [hkS]; exact da (fG hD)
 have hk0:(Do s.heap D vs).get? kS=some (seqObj "list" #[] 0):=by rw [← hsz1]; exact UF _ rfl
 unfold ksk_tree;refine Ev (iu ho rfl ?_);refine Ev (gT ho rfl ?_ (by rw [dW,eK]; omega) (dY _));refine Ev (jD ho1 rfl ?_);refine Ev (wpAny_newTuple ?_ (by show vs.length<=_; rw [eK]; omega));refine Ev (jO ?_ (dY _));refine fI ?_;show wpAny (model prog w) A (ksk_rest D f false vs.toArray e1 (.ref ((s.heap.update D (e8 λ_=>(#[]:Array Db))).push (seqObj "tuple" vs.toArray 0)).objs.size)) P E { s with heap:=Do s.heap D vs };rw [hsz1];unfold ksk_rest;refine Ev (jc ?_)
 first
  | rw [List.forIn_toArray]
  | (rw [← Array.forIn_toList]; simp only [i9])
  | rw [← Array.forIn_toList]
 refine Ev (ksk_fold (I:=λi s'=>∃ks e,iR ks=i/\J ks s'/\s'.heap.get? kS=some (seqObj "list" ks.toArray e)) vs 0 _ ⟨[],0,rfl,h0 e1 ho6,hk0⟩ (λj x s' hx hI=>?_) λs' hI=>?_)
 ·obtain⟨ks,e,hl,hJ,hk⟩:=hI
  have hj:j<vs.length:=(Uf.mp hx).1;have hl:ks.length=j:=by omega
  refine Ev (wpAny_attempt (e7 (hstep ks s' e x hJ hk (by rw [hl]; exact hx)) (λk s'' hk2=>?_) λ_ _ hF=>hF.elim));have ea:(eE ks).push k=eE (ks++[k]):=by simp
  obtain⟨c2,hc2⟩:∃c2,(s''.heap.update kS (e8 (·.push k))).get? kS=some (seqObj "list" (eE (ks++[k])) c2):=⟨_,by rw [← ea]; exact gs hk2.1 (·.push k)⟩
  try dsimp only
  refine Ev (gT hk2.1 rfl ?_ (by rw [dW,eK]; omega) (dn (ji (Array.size_push ..)) (by rw [dW,eK]; omega)));exact T0 ⟨rfl,ks++[k],c2,by rw [dZ,eC]; omega,hk2.2,hc2⟩
 ·obtain⟨ks,e,hl,hJ,hk⟩:=hI
  have hl:ks.length=vs.length:=by omega
  obtain⟨hD',G,g2,g1,g3⟩:=hend e1 ho6 ks s' hJ hl
  try dsimp only
  refine Ev (iu hk rfl ?_)
  have tail:∀(st:SortSt) (p:Array Nat),p.size=vs.length->G p->(arrOf st).map (·.2)=eE (p.toList.map λi=>vs.getD i eS)->failedOf st=none->wpAny (model prog w) A (ksk_tail D false e1 (.ref kS) st) P E s':=λst p hp hg hout hf=>by
   have hsz:(eE (p.toList.map λi=>vs.getD i eS)).size=vs.length:=by rw [dW,Go,fE,hp]
   obtain⟨ck,hck⟩:∃ck,(s'.heap.update kS (e8 λ_=>(#[]:Array Db))).get? kS=some (seqObj "list" #[] ck):=⟨_,gs hk λ_=>#[]⟩;have hD2:(s'.heap.update kS (e8 λ_=>(#[]:Array Db))).get? D=some (seqObj "list" #[] e1):=(dk _ _ (fF hDk)).trans hD';obtain⟨c2,hc2⟩:∃c2,((s'.heap.update kS (e8 λ_=>(#[]:Array Db))).update D (e8 λ_=>eE (p.toList.map λi=>vs.getD i eS))).get? D=some (seqObj "list" (eE (p.toList.map λi=>vs.getD i eS)) c2):=⟨_,gs hD2 λ_=>eE (p.toList.map λi=>vs.getD i eS)⟩;unfold ksk_tail
   try dsimp only
   rw [hout];refine Ev (gT hk rfl ?_ (by rw [dW,eK]; omega) (dY _));refine Ev (gu ?_);refine Ev (jD hD2 rfl ?_);refine Ev (gT hD2 rfl ?_ (dY _) (dn (ji hsz) (by rw [eK]; omega)));rw [hf];simp only [bne_self_eq_false,gA,if_false];refine T0 (g3 p _ c2 hp hg (λb o hb1 hb2 e=>(dk _ _ (fF hb1)).trans ((dk _ _ (fF hb2)).trans e)) hc2 ⟨_,(dk _ _ hDk).trans hck⟩)
  unfold ksk_end
  try dsimp only
  simp only [gA,if_false]
  by_cases h2:vs.length<2
  ·have h2':vs.toArray.size<2:=by rw [dW]; exact h2
   rw [if_pos h2',if_pos h2'];refine Ev (T0 ?_);rw [StateT.run_pure];refine Ev (T0 ?_)
   try dsimp only
   refine tail _ (eE (eP vs.length)) (by simp) (g1 h2) (kat_snds hl ?_) rfl;have er:=kas_range (ks.toArray.zip vs.toArray);rw [show (ks.toArray.zip vs.toArray).size=vs.length by simp [hl]] at er;exact er.symm
  ·have h2':¬vs.toArray.size<2:=by rw [dW]; exact h2
   rw [if_neg h2',if_neg h2'];refine Ev (e7 (g2 (by omega)) (λκ s0 hk=>?_) λ_ _ x=>x.elim)
   refine Ev (e7 (kat_run (Q:=λst' s2=>∃p:Array Nat,p.size=vs.length/\arrOf st'=p.map (kas_item (ks.toArray.zip vs.toArray))/\failedOf st'=none/\s2=s'/\G p)
    hl (by omega) h64 (λp' st' s2 a1 a2 a3 a4=>⟨p',a1,a2,a3,a4⟩) hk) ?_ λ_ _ e=>e)
   rintro ⟨⟨⟩,st'⟩ s2 ⟨p,hp,har,hf,rfl,hg⟩
   try dsimp only
   exact tail st' p hp hg (kat_snds hl har) hf
end
section
variable {X:Cx}{zG:List (Addr×Obj)}{Z:L2.St}{H:Hp}{s:Shared}{h':Heap}
structure UH (X:Cx) (zG:List (Ch×Obj)) (D:Ch):Prop where
 new:X.s₀.heap.objs.size<=D
 loc:D≠X.env.locals
 cell:∀x c,X.env.cells.lookup x=some c->c≠D
 pin:∀p∈X.pn++zG,p.1≠D
 fs:D∉X.fs
theorem Inv.mine(I:Inv X zG Z H s){D:Ch}(h:s.heap.objs.size<=D):UH X zG D:=by
 refine⟨dn I.sz h,λz=>?_,λx c e z=>?_,λp hp z=>?_,I.nofs h⟩
 ·have:=I.lt
  rw [← z] at this;exact absurd this (jb.mpr h)
 ·obtain⟨v,o,ho,_⟩:=I.cell x c e
  have:=XV ho
  rw [z] at this;exact absurd this (jb.mpr h)
 ·obtain⟨e,_⟩:=I.pin p hp
  have:=XV e
  rw [z] at this;exact absurd this (jb.mpr h)
structure KeysAt (K:Frag) (H:Hp) (vs:List V) (keys:List (List Key)):Prop where
 len:vs.length=keys.length
 at_:∀(i:Nat) (ns:List Key),keys[i]?=some ns->∃a,vs[i]?=some (.ref a)/\SqT K H a (ns.map kOf)
 same:∀x∈keys,∀y∈keys,CM x y=true
 ne:∀x∈keys,x≠[]
noncomputable def NM(keys:List (List Key))(ix:List Nat):Prop:=ix.Perm (eP keys.length)/\∀i j,i<=j->j<keys.length->BX (keys.getD (ix.getD j 0) []) (keys.getD (ix.getD i 0) [])=false
theorem KeysAt.tups{vs:List V}{us:List Db}{keys:List (List Key)}(I:Inv X zG Z H s)(r:Vals vs us)(k:KeysAt X.K H vs keys){h':dg}(hk:∀b o,s.heap.get? b=some o->h'.get? b=some o):Sr h' us keys:=by
 refine⟨λi ns e=>?_,r.length.symm.trans k.len,k.same,k.ne⟩;obtain⟨a,e1,h1⟩:=k.at_ i ns e;obtain⟨u,e2,r2⟩:=r.get e1;cases r2;obtain⟨its,r3,⟨o,ho,hc,n,hd⟩,_⟩:=I.tuple h1;exact⟨a,o,_,n,e2,hk a o ho,hc,hd,by grind⟩
theorem IV:∀{vs:List V} {us:List Db},Vals vs us->∀i:Nat,RelV (vs.getD i .non) (us.getD i eS)
 | _,_,.nil,i=>by simp [RelV]
 | _,_,.cons r t,0=>by simpa using r
 | _,_,.cons r t,i+1=>by simpa using IV t i
theorem KS{f:Nat->V}{g:Nat->Db}(h:∀i,RelV (f i) (g i)):∀ix:List Nat,Vals (ix.map f) (ix.map g)
 | []=>.nil
 | i::ix=>.cons (h i) (KS h ix)
theorem getD_list(p:Array Nat)(i:Nat):p.getD i 0=p.toList.getD i 0:=by simp
theorem VM{keys:List (List Key)}{n:Nat}{p:Array Nat}(hn:keys.length=n)(h1:p.Perm (eE (eP n)))(h2:So.Srt TR (λi=>keys.getD i []) p n):NM keys p.toList:=by
 subst hn;refine⟨Array.perm_iff_toList_perm.mp h1,λi j hij hj=>?_⟩;have h:=h2 i j hij hj;unfold So.KN at h;rw [getD_list,getD_list] at h;exact h
theorem S3{A':eX}{E':Db->On->Prop}{vs:List V}{us:List Db}{keys:List (List Key)}{Q:VK}(I:Inv X zG Z H s)(r:Vals vs us)(h64:vs.length<64)(k:KeysAt X.K H vs keys)
  (q:∀(ix:List Nat) (l:Ch),NM keys ix->H l=none->Q (.ref l) (BD H l (.lst (ix.map λi=>vs.getD i .non)))) :
  wpAny (model X.prog X.w) A' (gg.«list.sort» ⟨[.ref s.heap.objs.size],[]⟩) (λfin s'=>fin=.done (.ret .none)/\EP X zG Z Q (.ref s.heap.objs.size) s') E' { s with heap:=s.heap.push (seqObj "list" us.toArray 0) }:=by
 have hl:=r.length;have hkl:keys.length=us.length:=k.len.symm.trans hl;refine Pa (G:=λp=>p.Perm _/\So.Srt TR (λi=>keys.getD i []) p us.length) (n:=0) (UF _ rfl) (by omega) (λh2=>?_) (λh1=>⟨ju _,λi j hij hj=>?_⟩) (λp h' c hp hg hold hD=>⟨rfl,?_⟩)
 ·refine Mb (keys:=keys) (k.tups I r λb o e=>?_) h2 (λp a b=>⟨rfl,a,b⟩)
  exact IY (da (XV e)) (FM _ e)
 ·have:i=j:=by omega
  subst this;exact fh _
 ·have hf:H s.heap.objs.size=none:=I.fresh
  have hix:(p.toList.map λi=>vs.getD i .non).length=us.length:=by grind
  refine⟨.ref s.heap.objs.size,BD H s.heap.objs.size (.lst _),I.laid (t':=s.toks) (λb o e=>hold b o (da (XV e)) (FM _ e)) (Op _) ⟨by rw [hix,← hl,eK]; omega,_,c,KS (IV r) p.toList,hD⟩,rfl,q _ _ (VM hkl hg.1 hg.2) hf⟩
theorem P2{prog:eB}{w:eG}{A:eX}{E:Db->On->Prop}{s:On}{l:Ch}{vs:List Db}{Q:List Db->On->Prop}(hl:IsTup s.heap l vs.toArray)
  (h:Q vs { s with heap:=(s.heap.push (seqObj "list" #[] 0)).update s.heap.objs.size (e8 (·++vs.toArray)) }) (hsz:vs.length<=sizeLine) :
  wpAny (model prog w) A (collect (.ref l)) Q E s:=by
 obtain⟨o,ho,hc,n,hd⟩:=id hl;unfold collect;refine Ev (wpAny_runValue (e_ entry_proto_collect' ?_));show wpAny _ _ (do again (.builtin "list.__iadd__" ⟨[← newList [],.ref l],[]⟩)) _ _ s;refine Ev (jO (T0 ⟨Code.quiet_builtin _ (by decide +kernel),e_ entry_list_iadd' ?_⟩));show wpAny _ _ (gN (.ref s.heap.objs.size) (.ref l) (.ref s.heap.objs.size)) _ _ { s with heap:=s.heap.push (seqObj "list" #[] 0) };unfold gN;have ho':(s.heap.push (seqObj "list" #[] 0)).get? l=some o:=FM _ ho;refine Ev (g0 (T := "tuple") ⟨o,ho',hc⟩ ?_);have ht:(gn "tuple"==gn "tuple")=true:=by rfl
 rw [if_pos (by rw [ht]; simp)];refine Ev (iu ho' hd ?_);refine Ev (iu (xs:=#[]) (n:=0) (UF _ rfl) rfl ?_);rw [if_neg (by simp)];refine Ev (gT (xs:=#[]) (n:=0) (UF _ rfl) rfl ?_ (dY _) (by show (#[]++vs.toArray).size<=sizeLine+1; simp only [Array.size_append,dW,f6]; omega));refine T0 ?_
 show wpAny (model prog w) A (do
   let o ← load s.heap.objs.size
   match o.data with
   | .seq xs _=>pure xs.toList
   | _=>unsupported "internal:collect") Q E { s with heap:=(s.heap.push (seqObj "list" #[] 0)).update s.heap.objs.size (e8 (·++vs.toArray)) }
 refine Ev (wpAny_load (gs (UF _ rfl) _) ?_);show wpAny _ _ (pure ((#[]:Array Db)++vs.toArray).toList) Q E _;rw [show ((#[]:Array Db)++vs.toArray).toList=vs by simp];exact T0 h
theorem P5{h:dg}{g:Array Db->Array Db}{b:Ch}{o:Obj}(e:h.get? b=some o):((h.push (seqObj "list" #[] 0)).update h.objs.size (e8 g)).get? b=some o :=
 (dk _ _ (fF (da (XV e)))).trans (FM _ e)
theorem Lb{κ:Bool}{A':eX}{E':Db->On->Prop}{p:Ch}{vs:List V}{Q:List Db->On->Prop}(I:Inv X zG Z H s)(h:SqK κ X.K H p vs)(q:∀us s1,Vals vs us->vs.length<=sizeLine->Inv X zG Z H s1->Q us s1) :
  wpAny (model X.prog X.w) A' (collect (.ref p)) Q E' s:=by
 cases κ with
 | true =>
  obtain⟨its,r,pl,hz⟩:=I.list h;exact collect_list pl.isList (q _ _ r hz (I.kept λb o e=>P5 e)) (by rw [← r.length]; exact hz)
 | false =>
  obtain⟨its,r,pl,hz⟩:=I.tuple h;exact P2 pl (q _ _ r hz (I.kept λb o e=>P5 e)) (by rw [← r.length]; exact hz)
noncomputable def Ux(K:Frag):List V->Hp->VK->Prop:=λxs H Q=>∃(κ:Bool) (p:Ch) (vs:List V) (keys:List (List Key)),xs=[.ref p]/\SqK κ K H p vs/\vs.length<64/\KeysAt K H vs keys /\
 ∀(ix:List Nat) (l:Ch),NM keys ix->H l=none->Q (.ref l) (BD H l (.lst (ix.map λi=>vs.getD i .non)))
theorem DZ:DC X (.builtin "sorted") (Ux X.K):=by
 intro zG s Z H xs us Q I r h;obtain⟨κ,p,vs,keys,rfl,hq,h64,hk,q⟩:=h;obtain⟨u,rfl,rx⟩:=vals1 r;cases rx;exact DD (args_sorted1 _) (λx=>args_list_sort _) (Lb I hq λus s1 r1 hz I1=>⟨by rw [← r1.length]; exact hz,S3 I1 r1 h64 hk q⟩)
end
noncomputable def G7(H:Hp)(L:List Ch)(f:Ch->Obj):Hp:=λb=>if b∈L then (H b).map (HO.frz (f b)) else H b
theorem EQ{H:Hp}{L:List Ch}{f:Ch->Obj}{b:Ch}(h:b∉L):G7 H L f b=H b:=by unfold G7; rw [if_neg h]
theorem SH{H:Hp}{L:List Ch}{f:Ch->Obj}{b:Ch}{o:HO}(h:b∈L)(e:H b=some o):G7 H L f b=some (.frz (f b) o):=by unfold G7; grind
section
variable {X:Cx}{zG:List (Addr×Obj)}{Z:L2.St}{H:Hp}{s:Shared}
theorem Inv.frz{L:List Ch}(I:Inv X zG Z H s)(hL:∀b∈L,∃kvs,H b=some (.dK kvs)):∃f,Inv X zG Z (G7 H L f) s:=by
 have keep:∀(f:Ch->Obj) b o,H b=some o->(∀kvs,o≠.dK kvs)->G7 H L f b=some o:=λf b o e n=>by
  rw [EQ (λhm=>by grind)];exact e
 refine⟨λb=>(s.heap.get? b).getD { cls:=.none,data:=.fields #[] },?_⟩;refine I.step (g':=s.gens) (d':=s.drawn) (t':=s.toks) (h':=s.heap) (ch:=[]) (λ_ z=>nomatch z) (λ_ _ _ _ _ e _=>e) (λb o _ _ _ e _=>⟨o.slots,e⟩) (λb o _ e n=>?_) (λb o _ e=>⟨o,e⟩) (λb xs e=>keep _ b _ e λ_ z=>by cases z) (λb o u e=>keep _ b _ e λ_ z=>by cases z) (λb ps e=>⟨#[],by grind⟩) (λ_ h=>h) (λb u e=>?_) I.bare
 ·unfold G7
  simp_all
 ·by_cases hb:b∈L
  ·obtain⟨kvs,e2⟩:=hL b hb
   rw [SH hb e2] at e;cases e;obtain⟨z,y,vs,r,ob,es,ep,e3,c⟩:=(show ObjOk X.prog X.w H s.heap b (.dK kvs) from I.hok b _ e2);exact⟨by rw [e3]; rfl,z,y,vs,r,ob,es,ep,e3,c⟩
  ·rw [EQ hb] at e
   exact(I.hok b u e).stay (λ_ _ _ q=>q) (λc q=>keep _ c _ q λ_ z=>by cases z) λc xs q=>keep _ c _ q λ_ z=>by cases z
noncomputable def bz(t:TE):TE:=λZ H Q=>t Z H λv H1=>∃L:List Ch,(∀b∈L,∃kvs,H1 b=some (.dK kvs))/\∀f:Ch->Obj,Q v (G7 H1 L f)
theorem Y3{e:d6}{t:TE}(h:PE X e t):PE X e (bz t):=by
 intro zG s Z H Q I hq;refine thn (h _ s Z H _ I hq) λu s1 ⟨v,H1,I1,r,L,hL,q⟩=>?_;obtain⟨f,I2⟩:=I1.frz hL;exact⟨v,_,I2,r,q f⟩
end
end L2
namespace Nt
open L2 Dp
noncomputable def EN(ts:List BL)(p:Str):List (Str×Int):=ts.flatMap λt=>(if t.a=p then [(t.b,t.len)] else [])++(if t.b=p then [(t.a,t.len)] else [])
noncomputable def WV(ts:List BL)(p:Str):D:=.fdi ((EN ts p).map λx=>.inr x.1) ((EN ts p).map λx=>.int x.2)
noncomputable def FP(N:Net):D:=.dic (N.ps.map .inr) (N.ps.map (WV N.ts))
noncomputable def Oa:W2:=λss n P=>∃N:Net,ss=[.sh (enc N)]/\N.Ok/\N.ps.length<=1000/\N.ts.length<=1000/\P (FP N) n
noncomputable def kv(x:Str×Int):Key×V:=(.inr x.1,.int x.2)
structure Stp (H:Hp) (d:Ch) (as:List (Str×Ch)) (tb:Str->List (Key×V)) (H':Hp):Prop where
 old:∀b o,H b=some o->H' b=some o
 new:H d=none
 top:H' d=some (.dK (as.map λx=>(.inr x.1,.ref x.2)))
 inn:∀x∈as,H x.2=none/\x.2≠d/\H' x.2=some (.dK (tb x.1))
 ads:(as.map (·.2)).Nodup
 nms:(as.map (·.1)).Nodup
theorem Jx{as:List (Str×Ch)}(hn:(as.map (·.1)).Nodup){p:Str}{a:Ch}(h:(p,a)∈as):C0 (as.map λx=>((.inr x.1:Key),V.ref x.2)) (.inr p)=some (.ref a):=by
 induction as with
 | nil=>cases h
 | cons x r ih =>
  rw [eR,eF] at hn
  rcases ZB.mp h with e | h
  ·rw [← e]
   exact EJ rfl
  ·exact(EK λe=>hn.1 (by rw [f8 e]; exact Rs.mpr ⟨_,h,rfl⟩)).trans (ih hn.2 h)
theorem Qq{as:List (Str×Ch)}{p:Str}{v:V}(h:p∉as.map (·.1)):putK (as.map λx=>((.inr x.1:Key),V.ref x.2)) (.inr p) v=(as.map λx=>((.inr x.1:Key),V.ref x.2))++[(.inr p,v)]:=by
 unfold putK
 simp_all
theorem Rt{xs:List (Str×Int)}{p:Str}{l:Int}(h:p∉xs.map (·.1)):putK (xs.map kv) (.inr p) (.int l)=(xs++[(p,l)]).map kv:=by
 unfold putK;rw [if_neg,fR]
 ·rfl
 ·rw [fj]
  rintro ⟨y,hy,e⟩;obtain⟨x,hx,rfl⟩:=Rs.mp hy;exact h (Rs.mpr ⟨x,hx,f8 (of_decide_eq_true e)⟩)
theorem Stp.more{H H':Hp}{d q:Ch}{as:List (Str×Ch)}{tb:Str->List (Key×V)}{p:Str}(s:Stp H d as tb H')(hq:H' q=none)(hp:p∉as.map (·.1))(ht:tb p=[]) :
  Stp H d (as++[(p,q)]) tb (BD (BD H' q (.dK [])) d (.dK (putK (as.map λx=>((.inr x.1:Key),V.ref x.2)) (.inr p) (.ref q)))):=by
 have nq:q≠d:=λe=>by rw [e,s.top] at hq; cases hq
 have hHq:H q=none:=by
  cases c:H q with
  | none=>rfl
  | some o=>rw [s.old q o c] at hq; cases hq
 refine⟨λb o e=>?_,s.new,?_,λx hx=>?_,?_,?_⟩
 ·have n1:b≠d:=λz=>by rw [z,s.new] at e; cases e
  have n2:b≠q:=λz=>by rw [z,hHq] at e; cases e
  rw [Ag n1,Ag n2];exact s.old b o e
 ·rw [Al,Qq hp,fR]; rfl
 ·rcases d7.mp hx with hx | hx
  ·obtain⟨h1,h2,h3⟩:=s.inn x hx
   have n2:x.2≠q:=λz=>by rw [z,hq] at h3; cases h3
   exact⟨h1,h2,by rw [Ag h2,Ag n2]; exact h3⟩
  ·rw [TM.mp hx]
   exact⟨hHq,nq,by rw [Ag nq,Al,ht]⟩
 ·rw [fR,fz]
  refine⟨s.ads,eF.mpr ⟨(λh=>by cases h),fJ⟩,λa ha b hb e=>?_⟩;obtain⟨x,hx,rfl⟩:=Rs.mp ha;have hb:b=q:=TM.mp hb;obtain⟨h1,h2,h3⟩:=s.inn x hx;rw [e,hb,hq] at h3;cases h3
 ·rw [fR,fz]
  refine⟨s.nms,eF.mpr ⟨(λh=>by cases h),fJ⟩,λa ha b hb e=>?_⟩;have hb:b=p:=TM.mp hb;exact hp (by rw [← hb,← e]; exact ha)
theorem Td{as:List (Str×Ch)}(hn:(as.map (·.1)).Nodup){p:Str}{a b:Ch}(h1:(p,a)∈as)(h2:(p,b)∈as):a=b:=by
 have:=(Jx hn h1).symm.trans (Jx hn h2)
 grind
theorem Tc{as:List (Str×Ch)}(hn:(as.map (·.2)).Nodup){p q:Str}{a:Ch}(h1:(p,a)∈as)(h2:(q,a)∈as):p=q:=by
 induction as with
 | nil=>cases h1
 | cons x r ih =>
  rw [eR,eF] at hn
  rcases ZB.mp h1 with e1 | g1
  ·rcases ZB.mp h2 with e2 | g2
   ·grind
   ·exact absurd (Rs.mpr ⟨_,g2,by rw [← e1]⟩) hn.1
  ·rcases ZB.mp h2 with e2 | g2
   ·exact absurd (Rs.mpr ⟨_,g1,by rw [← e2]⟩) hn.1
   ·exact ih hn.2 g1 g2
theorem Stp.put{H H':Hp}{d a:Ch}{as:List (Str×Ch)}{tb tb2:Str->List (Key×V)}{p:Str}{kvs:List (Key×V)}(s:Stp H d as tb H')(ha:(p,a)∈as)(h1:tb2 p=kvs)(h2:∀q,q≠p->tb2 q=tb q) :
  Stp H d as tb2 (BD H' a (.dK kvs)):=by
 obtain⟨i1,i2,i3⟩:=s.inn _ ha;refine⟨λb o e=>?_,s.new,?_,λx hx=>?_,s.ads,s.nms⟩
 ·have n1:b≠a:=λz=>by grind
  rw [Ag n1];exact s.old b o e
 ·rw [Ag (fF i2)]
  exact s.top
 ·obtain⟨g1,g2,g3⟩:=s.inn x hx
  refine⟨g1,g2,?_⟩
  by_cases e:x.2=a
  ·have:=Tc s.ads (show (x.1,a)∈as by grind) ha
   rw [e,Al,this,h1]
  ·have:x.1≠p:=λz=>e (Td s.nms (show (p,x.2)∈as by grind) ha)
   rw [Ag e,h2 _ this];exact g3
theorem PU(ts:List BL)(t:BL)(p:Str):EN (ts++[t]) p=EN ts p++((if t.a=p then [(t.b,t.len)] else [])++(if t.b=p then [(t.a,t.len)] else [])):=by
 unfold EN
 simp_all
theorem N_{ts:List BL}{p q:Str}(h:q∈(EN ts p).map (·.1)):∃t∈ts,(t.a=p/\t.b=q)\/(t.b=p/\t.a=q):=by
 obtain⟨x,hx,rfl⟩:=Rs.mp h;obtain⟨t,ht,hx⟩:=f9.mp hx;refine⟨t,ht,?_⟩
 rcases d7.mp hx with hx | hx
 ·simp_all
 simp_all
theorem R8(ts:List BL)(p:Str):(EN ts p).length<=2*ts.length:=by
 induction ts with
 | nil=>exact dY _
 | cons t r ih =>
  unfold EN at ih ⊢;rw [List.flatMap_cons,dZ,dZ];have h1:(if t.a=p then [(t.b,t.len)] else []).length<=1:=by grind
  grind
theorem Vu{ts:List BL}{t:BL}(hp:(ts++[t]).Pairwise Bt)(hlt:∀s∈ts++[t],cs s.a<cs s.b):t.b∉(EN ts t.a).map (·.1)/\t.a∉(EN ts t.b).map (·.1):=by
 rw [List.pairwise_append] at hp
 have key:∀s∈ts,¬((s.a=t.a/\s.b=t.b)\/(s.b=t.a/\s.a=t.b)):=λs hs e=>by
  have h1:=hp.2.2 s hs t (TM.mpr rfl);have h2:=hlt s (fV _ hs);have h3:=hlt t (df _ (TM.mpr rfl))
  rcases e with ⟨e1,e2⟩ | ⟨e1,e2⟩
  ·unfold Bt at h1
   grind
  grind
 refine⟨λh=>?_,λh=>?_⟩
 ·obtain⟨s,hs,e⟩:=N_ h
  exact key s hs e
 ·obtain⟨s,hs,e⟩:=N_ h
  exact key s hs (e.elim (λz=>.inr ⟨z.2,z.1⟩) λz=>.inl ⟨z.2,z.1⟩)
theorem Ng{xs:List Str}(h:rising xs):xs.Nodup:=h.imp λ{a b} hlt e=>by grind
theorem Q3{xs:List Str}(h:xs.Nodup){i:Nat}(hi:i<xs.length):xs[i]∉xs.take i:=by
 have e:xs=xs.take i++xs[i]::xs.drop (i+1):=by
  simp_all
 intro hm;rw [e,fz] at h;exact h.2.2 _ hm _ Re rfl
theorem Stp.at_{K:Frag}{M:Ch->Prop}{H H':Hp}{d:Ch}{as:List (Str×Ch)}{N:Net}(dom:∀a,M a->∃o,H a=some o)(s:Stp H d as (λp=>(EN N.ts p).map kv) H')(hp:as.map (·.1)=N.ps)(f:Ch->Obj):At K M (G7 H' (as.map (·.2)) f) (FP N) (.ref d):=by
 have nd:∀b,H b=none->¬M b:=λb e m=>by obtain⟨o,h⟩:=dom b m; rw [h] at e; cases e
 have zip1:∀as:List (Str×Ch),(as.map λx=>((.inr x.1:Key),V.ref x.2))=((as.map (·.1)).map (.inr:Str->Key)).zip (as.map λx=>V.ref x.2):=λas=>by
  grind
 refine⟨d,as.map λx=>.ref x.2,rfl,⟨nd d s.new,by rw [EQ (λhm=>by obtain⟨x,hx,e⟩:=Rs.mp hm; exact(s.inn x hx).2.1 e),s.top,zip1,hp]⟩,by rw [Go,Go],?_⟩;rw [← hp]
 have go:∀bs:List (Str×Ch),(∀x∈bs,x∈as)->Ats K M (G7 H' (as.map (·.2)) f) ((bs.map (·.1)).map (WV N.ts)) (bs.map λx=>V.ref x.2):=λbs=>by
  induction bs with
  | nil=>intro _; rfl
  | cons x r ih =>
   intro hx;refine⟨.ref x.2,r.map λx=>V.ref x.2,rfl,?_,ih λy hy=>hx y (Sc _ hy)⟩;obtain⟨g1,g2,g3⟩:=s.inn x (hx x Re)
   have zip2:∀xs:List (Str×Int),xs.map kv=(xs.map λx=>(.inr x.1:Key)).zip (xs.map λx=>V.int x.2):=λxs=>by
    induction xs with
    | nil=>rfl
    | cons x r ih=>rw [eR,ih]; rfl
   refine⟨x.2,(EN N.ts x.1).map λx=>V.int x.2,rfl,⟨f x.2,nd _ g1,by rw [SH (Rs.mpr ⟨x,hx x Re,rfl⟩) g3,zip2]⟩,by rw [Go,Go],?_⟩;generalize EN N.ts x.1=xs
   induction xs with
   | nil=>rfl
   | cons x r ih=>exact⟨.int x.2,_,rfl,rfl,ih⟩
 exact go as λ_ h=>h
end Nt
namespace L2
open PySem.W
section
variable {X:Cx}{zG:List (Addr×Obj)}{Z:L2.St}{H:Hp}{s:Shared}{h':Heap}
theorem Inv.adopt2{D e:Ch}{o:HO}(I:Inv X zG Z H s)(m:UH X zG D)(hn:H D=none)(m2:UH X zG e)(hn2:H e=none)(hne:D≠e)(k:∀b u,b≠D->b≠e->s.heap.get? b=some u->h'.get? b=some u)(new:ObjOk X.prog X.w (BD H D o) h' D o):Inv X zG Z (BD H D o) { s with heap:=h' }:=by
 have nin:∀b,b∉[D,e]->b≠D/\b≠e:=λb hc=>⟨λz=>hc (by rw [z]; exact Re),λz=>hc (by rw [z]; exact Sc _ (TM.mpr rfl))⟩
 refine I.step (g':=s.gens) (d':=s.drawn) (t':=s.toks) (ch:=[D,e]) (λb hb=>?_) (λb u _ _ hc q _=>k b u (nin b hc).1 (nin b hc).2 q) (λb u _ _ hc q _=>⟨u.slots,k b u (nin b hc).1 (nin b hc).2 q⟩) (λb u hc q n=>?_)
  (λb u hc q=>⟨u,k b u (nin b hc).1 (nin b hc).2 q⟩) (λb xs q=>?_) (λb u v q=>?_) (λb ps q=>⟨#[],?_⟩) (λmm hm=>?_) (λb u q=>?_) I.bare
 ·rcases ZB.mp hb with rfl | hb
  ·exact⟨.inr m.new,m.loc,m.cell,m.pin⟩
  ·rw [TM.mp hb]
   exact⟨.inr m2.new,m2.loc,m2.cell,m2.pin⟩
 ·rw [Ag (nin b hc).1]; exact n
 ·rw [Ag (A3 q hn)]; exact q
 ·rw [Ag (A3 q hn)]; exact q
 ·rw [Ag (A3 q hn),q]; simp
 ·obtain⟨u,es,ep,ho,r⟩:=hm
  exact⟨u,es,ep,k _ u (fF m.loc) (fF m2.loc) ho,r⟩
 ·by_cases hb:b=D
  ·subst hb; rw [Al] at q; cases q; exact new
  ·rw [Ag hb] at q
   refine(I.hok b u q).stay (λc v hc q2=>k c v ?_ ?_ q2) (λc q2=>by rw [Ag (A3 q2 hn)]; exact q2) λc xs q2=>by rw [Ag (A3 q2 hn)]; exact q2
   ·grind
   grind
noncomputable def Yc(K:Frag)(sp:Sp)(te:TE):TE:=λZ H Q=>te Z H λx H1=>∃(κ:Bool) (l:Ch) (vs:List V) (keys:List (List Key)) (J:List V->Hp->Prop),x=.ref l/\SqK κ K H1 l vs/\vs.length<64/\J [] H1 /\
 (∀ks H2 v,J ks H2->vs[ks.length]?=some v->sp [v] H2 (λk H3=>J (ks++[k]) H3) E0) /\
 ∀ks H2,J ks H2->ks.length=vs.length->KeysAt K H2 ks keys/\∀(ix:List Nat) (l:Ch),NM keys ix->H2 l=none->Q (.ref l) (BD H2 l (.lst (ix.map λi=>vs.getD i .non)))
theorem VG{k:Nat}{f:Ch}{fd:eY}{pn fn:Str}{sp:Sp}{te:TE}{e:d6}{p fp kp pos:Pos}(F:A4 X.prog X.w X.K X.mg X.base Bw k f fd [pn] sp)(hr:Room (k+2) X.A)(hg:Gl X "sorted")(hm:X.mg "sorted"=none)
  (hgf:Gl X fn) (hmf:X.mg fn=some (.ref f)) (hb:Binds X.K fd [pn] []) (he:PE X e te) (hs:autoParam (starEach [e] X.env=[(false,eval e X.env)]) zau3._auto_1) (hdf:autoParam ((fn==("__debug__":Str))=false) zau1._auto_1) :
  PE X (.Call (.Name "sorted" p) [e] [⟨some "key",.Name fn fp,kp⟩] pos) (Yc X.K sp te):=by
 intro zG s Z H Q I h;refine fL (C7 I hg hm gf ?_)
 refine callWith_kw (thn (Bl he CW hs pos zG s Z H (λvs H1=>∃x,vs=[x]/\∃(κ:Bool) (l:Ch) (vs:List V) (keys:List (List Key)) (J:List V->Hp->Prop),x=.ref l/\SqK κ X.K H1 l vs/\vs.length<64/\J [] H1 /\
   (∀ks H2 v,J ks H2->vs[ks.length]?=some v->sp [v] H2 (λk H3=>J (ks++[k]) H3) E0) /\
   ∀ks H2,J ks H2->ks.length=vs.length->KeysAt X.K H2 ks keys/\∀(ix:List Nat) (l:Ch),NM keys ix->H2 l=none->Q (.ref l) (BD H2 l (.lst (ix.map λi=>vs.getD i .non)))) I ?first) λus s1 ⟨xs,H1,I1,r1,q1⟩=>kws_cons (R_ I1 hgf hmf (kws_nil ?_) hdf)) (by rw [hs]; rfl) (by rw [hs]; rfl)
 case first =>
  show te Z H _;refine cast (congrArg (te Z H) ?_) h
  funext x H1
  refine propext ⟨λz=>⟨x,rfl,z⟩,fun⟨y,e,z⟩=>?_⟩;cases e;exact z
 obtain⟨x,rfl,κ,l,vs,keys,J,rfl,hq,h64,j0,jstep,jend⟩:=q1;obtain⟨u,rfl,ru⟩:=vals1 r1;cases ru;show wpAny (model X.prog X.w) X.A (call (.builtin "sorted") [.ref l] [(gK "key",.ref f)]) _ _ s1;refine DD (ksk_s1 _ _) (λx=>ksk_l1 _ _) (Lb I1 hq λus s2 r2 hz I2=>⟨by rw [← r2.length]; exact hz,?_⟩);rw [ksk_t1];have hl:=r2.length;generalize hD:s2.heap.objs.size=D;have hsz3:(s2.heap.push (seqObj "list" us.toArray 0)).objs.size=D+1:=by rw [size_push',hD]
 have hoD:(s2.heap.push (seqObj "list" us.toArray 0)).get? D=some (seqObj "list" us.toArray 0):=by rw [← hD]; exact UF _ rfl
 have mD:UH X zG D:=I2.mine (by rw [hD]; exact Op _);have mK:UH X zG (D+2):=I2.mine (by rw [hD]; exact Nat.le_add_right _ _);have nD:H1 D=none:=I2.hok.fresh (by rw [hD]; exact Op _);have nK:H1 (D+2)=none:=I2.hok.fresh (by rw [hD]; exact Nat.le_add_right _ _);have hne:D≠D+2:=da (fG (iW D));have nstk:∀b,UH X zG b->b∉SI X.stack:=λb m z=>(ZB.mp (I2.stkSub b z)).elim m.loc m.fs
 refine To (s:={ s2 with heap:=s2.heap.push (seqObj "list" us.toArray 0) }) (n:=0) hoD (by rw [← hl]; exact h64)
  (λks s'=>∃kV H',Vals kV ks/\J kV H'/\Inv X zG Z H' s'/\H' D=none/\H' (D+2)=none/\s'.heap.get? D=(Do (s2.heap.push (seqObj "list" us.toArray 0)) D us).get? D) (D+2) (by show D+2=(s2.heap.push _).objs.size+1; rw [hsz3]) (λe1 he1=>?_) (λks s' e v hJ hk hv=>?_) λe1 he1 ks s' hJ hkl=>?_
 ·refine⟨[],H1,.nil,j0,?_,nD,nK,rfl⟩
  exact I2.kept (t':=s2.toks) λb o q=>IY (by rw [← hD]; exact da (XV q)) (FM _ q)
 ·obtain⟨kV,H',rk,hJ,I',n1,n2,hD'⟩:=hJ
  have hi:ks.length<us.length:=(Uf.mp hv).1;have hvi:vs[kV.length]?=some (vs[kV.length]'(by rw [rk.length]; omega)):=No _;obtain⟨u',e2,ru⟩:=r2.get hvi;rw [rk.length,hv] at e2;cases e2;have hsp:=jstep kV H' _ hJ hvi;have E1:Env0 X.prog X.w X.K X.mg X.base X.A.in1.in1 X.stack s' H':=I'.env0.in1.in1;refine ja (iF (F.run X.A.in1.in1 X.stack s' H' ⟨[v],[]⟩ [v] _ _ E0 (hr.in1).in1 E1 (by simpa using hb s' [v] I'.kIn rfl) (.cons ru .nil) hsp) λr s'' hq'=>?_);cases r with
  | error e=>exact fq hq'
  | ok fl =>
   cases fl with
   | next=>exact fq hq'
   | brk=>exact fq hq'
   | cont=>exact fq hq'
   | ret u =>
    obtain⟨w',H3,os,bare,un,hok,rw',q3⟩:=id hq'
    obtain⟨oD,eD⟩:∃o,s'.heap.get? D=some o:=by
     obtain⟨c,hc,_⟩:=Kg hoD;exact⟨_,hD'.trans hc⟩
    have kD:s''.heap.get? D=some oD:=un.keep D oD eD n1 (nstk D mD) (by simp);have kK:s''.heap.get? (D+2)=some (seqObj "list" ks.toArray e):=un.keep _ _ hk n2 (nstk _ mK) (by simp);have f1:H3 D=none:=un.free D oD eD n1 (by simp);have f2:H3 (D+2)=none:=un.free _ _ hk n2 (by simp);have I3:Inv X zG Z H3 s'':=I'.call' os un hok bare (λb z=>absurd z (by simp));refine⟨kK,kV++[w'],H3,rk.append (.cons rw' .nil),q3,?_,f1,f2,?_⟩
    ·exact I3.turned (t':=s''.toks) (λb o hb q=>(dk _ _ (fF hb)).trans q) f2 mK.loc (.inr mK.new) mK.cell mK.pin
    ·show (s''.heap.update (D+2) _).get? D=_
     rw [dk _ _ (fF hne),kD,← eD,hD']
 ·obtain⟨kV,H',rk,hJ,I',n1,n2,hD'⟩:=hJ
  obtain⟨hka,q⟩:=jend kV H' hJ (by rw [rk.length,hkl,hl]);have hkk:keys.length=us.length:=by rw [← hka.len,rk.length,hkl]
  refine⟨hD'.trans he1,λp=>p.Perm (eE (eP us.length))/\So.Srt TR (λi=>keys.getD i []) p us.length,λh2=>?_,λh1=>⟨ju _,λi j hij hj=>?_⟩,λp h' c hp hg hold hDn _=>⟨rfl,?_⟩⟩
  ·have ts:=Mb (prog:=X.prog) (w:=X.w) (A:=X.A.in1.in1) (keys:=keys) (hka.tups I' rk λb o e=>e) (by omega) (G:=λp s''=>s''=s'/\p.Perm (eE (eP us.length))/\So.Srt TR (λi=>keys.getD i []) p us.length) (λp a b=>⟨rfl,by rw [← hkl]; exact a,by rw [← hkl]; exact b⟩)
   rw [hkl] at ts;exact ts
  ·have:i=j:=by omega
   subst this;exact fh _
  ·have hix:(p.toList.map λi=>vs.getD i .non).length=us.length:=by rw [Go,fE,hp]
   refine⟨.ref D,BD H' D (.lst (p.toList.map λi=>vs.getD i .non)),I'.adopt2 mD n1 mK n2 hne hold ⟨by rw [hix,← hl,eK]; omega,_,c,KS (IV r2) p.toList,hDn⟩,rfl,q _ _ (VM hkk hg.1 hg.2) n1⟩
theorem Vb{P:eB}{w:eG}{k:Key}{u:Db}(h:(Aw P w).is k u=true):RelV (kOf k) u:=by
 rcases BN h with ⟨i,t,rfl,rfl⟩ | ⟨x,t,rfl,rfl⟩
 ·exact⟨t,rfl⟩
 ·exact⟨t,rfl⟩
theorem K7{α β:Type}{F:α->β->Prop}:∀{l₁:List α} {l₂:List β} {j:Nat} {a:α} {b:β},Paired F l₁ l₂->l₁[j]?=some a->l₂[j]?=some b->F a b
 | _,_,_,_,_,.nil,h,_=>by simp at h
 | _,_,0,_,_,.cons r t,h1,h2=>by
  grind
 | _,_,j+1,_,_,.cons r t,h1,h2=>K7 (j:=j) t (by simp_all) (by simp_all)
end
end L2
namespace Dp
open L2
section
variable {K:Frag}
noncomputable def Mz(ds:List D)(P:D->Prop):Prop:=match ds with
 | [.int i,.int j]=>P (.int (if j<i then j else i))
 | _=>False
noncomputable def T1(ds:List D)(P:D->Prop):Prop:=match ds with
 | [.int i]=>P (.int (if i<0 then -i else i))
 | _=>False
theorem RS:Dy K .sh (λxs H Q=>∃i j,xs=[.int i,.int j]/\Q (.int (if j<i then j else i)) H) Mz:=by
 intro U M H ds vs P Q dom vM hp w q;unfold Mz at w
 split at w
 ·rename_i i j
  cases hp with
  | cons r1 r2=>cases r2 with
   | cons r3 r4 =>
    cases r4;cases r1.int;cases r3.int;exact⟨i,j,rfl,q _ H (.int _) .refl rfl w⟩
 grind
theorem WL:Dy K .sh (λxs H Q=>∃i,xs=[.int i]/\Q (.int (if i<0 then -i else i)) H) T1:=by
 intro U M H ds vs P Q dom vM hp w q;unfold T1 at w
 split at w
 ·rename_i i
  cases hp with
  | cons r1 r2 =>
   cases r2;cases r1.int;exact⟨i,rfl,q _ H (.int _) .refl rfl w⟩
 grind
end
noncomputable def Cs:D->Option (List Key)
 | .tup xs=>JN xs
 | _=>none
noncomputable def IQ(kf:D->Option (List Key))(xs:List D):Prop:=xs.Pairwise λa b=>∀ka kb,kf a=some ka->kf b=some kb->BX kb ka=false
noncomputable def Keyed(kf:D->Option (List Key))(xs:List D):Prop:=(∀x∈xs,∃k,kf x=some k/\k≠[])/\∀x∈xs,∀y∈xs,∀ka kb,kf x=some ka->kf y=some kb->CM ka kb=true
theorem range_getD(xs:List D):(eP xs.length).map (λi=>xs.getD i .non)=xs:=by
 apply List.ext_getElem
 ·simp
 simp_all
theorem R7{kf:D->Option (List Key)}{xs:List D}{keys:List (List Key)}{ix:List Nat}(hl:keys.length=xs.length)(hk:∀(i:Nat) (x:D),xs[i]?=some x->∃k,keys[i]?=some k/\kf x=some k)(h:NM keys ix) :
  (ix.map λi=>xs.getD i .non).Perm xs/\IQ kf (ix.map λi=>xs.getD i .non):=by
 obtain⟨hp,hs⟩:=h;constructor
 ·have:=hp.map λi=>xs.getD i D.non
  rw [hl,range_getD] at this;exact this
 ·unfold IQ
  rw [List.pairwise_iff_getElem];intro i j hi hj hij ka kb ea eb;rw [List.getElem_map] at ea eb;rw [Go] at hi hj;have il:ix.length=keys.length:=by rw [hp.length_eq,jV]
  have g:∀i (h:i<ix.length) k,kf (xs.getD ix[i] .non)=some k->keys.getD (ix.getD i 0) []=k:=λi h k e=>by
   have hm:ix[i]<keys.length:=f_.mp (hp.mem_iff.mp (fW h));have hx:ix[i]<xs.length:=by rw [← hl]; exact hm
   obtain⟨k',e1,e2⟩:=hk ix[i] xs[ix[i]] (No hx);have e3:xs.getD ix[i] .non=xs[ix[i]]:=by rw [eN,No hx]; rfl
   rw [e3,e2] at e;have e4:ix.getD i 0=ix[i]:=by rw [eN,No h]; rfl
   rw [e4,eN,e1];exact dh e
  have:=hs i j (jf hij) (by rw [← il]; exact hj)
  rw [g i hi ka ea,g j hj kb eb] at this;exact this
theorem GH{kf:D->Option (List Key)}:∀{xs:List D},(∀x∈xs,∃k,kf x=some k/\k≠[])->∃keys:List (List Key),keys.length=xs.length/\(∀(i:Nat) (x:D),xs[i]?=some x->∃k,keys[i]?=some k/\kf x=some k/\k≠[])
 | [],_=>⟨[],rfl,λi x e=>by simp at e⟩
 | x::xs,h=>by
  obtain⟨k,e1,e2⟩:=h x Re;obtain⟨keys,l,g⟩:=GH (xs:=xs) λy hy=>h y (Sc _ hy);refine⟨k::keys,by simp_all,λi y e=>?_⟩;cases i with
  | zero =>
   simp_all
  | succ i =>
   simp_all
section
variable {K:Frag}{M:Addr->Prop}{H:Hp}
theorem Ats.getD:∀{ds:List D} {vs:List V},Ats K M H ds vs->∀i:Nat,At K M H (ds.getD i .non) (vs.getD i .non)
 | [],vs,h,i=>by cases (h); simp [At]
 | d::ds,vs,h,0=>by
  obtain⟨v,r,e,h1,h2⟩:=h
  grind
 | d::ds,vs,h,i+1=>by
  obtain⟨v,r,e,h1,h2⟩:=h;subst e
  simpa using Ats.getD h2 i
theorem Ats.pick{ds:List D}{vs:List V}(h:Ats K M H ds vs):∀ix:List Nat,Ats K M H (ix.map λi=>ds.getD i .non) (ix.map λi=>vs.getD i .non)
 | []=>rfl
 | i::ix=>⟨_,_,rfl,h.getD i,Ats.pick h ix⟩
theorem Iw{kf:D->Option (List Key)}{ds:List D}{vs:List V}{keys:List (List Key)}(hkf:∀d k v,d∈ds->kf d=some k->At K M H d v->∃a,v=.ref a/\SqT K H a (k.map kOf))(hs:Ats K M H ds vs)(hK:Keyed kf ds)(hl:keys.length=ds.length)(hk:∀(i:Nat) (x:D),ds[i]?=some x->∃k,keys[i]?=some k/\kf x=some k/\k≠[]):KeysAt K H vs keys:=by
 have from_:∀(i:Nat) (ns:List Key),keys[i]?=some ns->∃x,ds[i]?=some x/\kf x=some ns/\ns≠[]:=λi ns e=>by
  have hi:i<ds.length:=by rw [← hl]; exact(Uf.mp e).1
  obtain⟨k,e1,e2,e3⟩:=hk i ds[i] (No hi);rw [e] at e1;cases e1;exact⟨ds[i],No hi,e2,e3⟩
 refine⟨hs.length.trans hl.symm,λi ns e=>?_,λx hx y hy=>?_,λx hx=>?_⟩
 ·obtain⟨d,e1,e2,_⟩:=from_ i ns e
  obtain⟨v,e3,h3⟩:=hs.get e1;obtain⟨a,rfl,h4⟩:=hkf d ns v (eQ e1) e2 h3;exact⟨a,e3,h4⟩
 ·obtain⟨i,hi⟩:=gR.mp hx
  obtain⟨j,hj⟩:=gR.mp hy;obtain⟨d,e1,e2,_⟩:=from_ i x hi;obtain⟨d',e1',e2',_⟩:=from_ j y hj;exact hK.2 d (eQ e1) d' (eQ e1') x y e2 e2'
 ·obtain⟨i,hi⟩:=gR.mp hx
  obtain⟨d,e1,e2,e3⟩:=from_ i x hi;exact e3
theorem Iy{d:D}{k:List Key}{v:V}(e:Cs d=some k)(h:At K M H d v):∃a,v=.ref a/\SqT K H a (k.map kOf):=by
 cases d with
 | tup xs =>
  obtain⟨a,vs,e1,hn,hs⟩:=h
  have:=HZ (e) hs
  subst this;exact⟨a,e1,hn.sq⟩
 | _=>cases e
noncomputable def CZ(ds:List D)(P:D->Prop):Prop:=∃d xs,ds=[d]/\Ef d=some xs/\xs.length<64/\Keyed Cs xs/\∀xs':List D,xs'.Perm xs->IQ Cs xs'->P (.lst xs')
theorem Hy:Dy K .fr (Ux K) CZ:=by
 intro U M H ds vs P Q dom vM hp w q;obtain⟨d,xs,rfl,e,h64,hK,w⟩:=w;obtain⟨v,rfl,hx⟩:=FF hp;obtain⟨κ,a,us,rfl,hs,sq⟩:=NY hx e (λ_ z=>z) vM;obtain⟨keys,hl,hk⟩:=GH hK.1;refine⟨κ,a,us,_,rfl,sq M H (Pres.refl _ _) (Ext.refl _ _),by rw [hs.length]; exact h64,Iw (λd k v _=>Iy) hs hK hl hk,λix l ho hn=>?_⟩;obtain⟨o1,o2⟩:=R7 (kf:=Cs) hl (λi x e=>by obtain⟨k,a,b,_⟩:=hk i x e; simp_all) ho;exact q _ _ _ (Av hn) (CI hn (hs.pick ix)) (w _ o1 o2)
end
section
variable {X:Cx}{a e:Expr}{zU:Kd}{wa:DW}{pos p fp kp:Pos}
noncomputable def UO(W:W2)(wa:DW):DW:=λn ρ P=>wa n ρ λd n1=>∃(xs:List D) (rk:D->D),Ef d=some xs/\xs.length<64/\(∀x∈xs,∀Pd:D->Nat->Prop,Pd (rk x) n1->W [.sh x] n1 Pd)/\Keyed (λx=>Cs (rk x)) xs /\
 ∀xs':List D,xs'.Perm xs->IQ (λx=>Cs (rk x)) xs'->P (.lst xs') n1
theorem V3{k:Nat}{fn pn:Str}{W:W2}(G:Got X.prog X.w X.K X.mg X.base fn k [pn] .sh W)(hr:Room (k+2) X.A)(hg:Gl X "sorted")(hm:X.mg "sorted"=none)(hgf:Gl X fn)(he:DE X e zU wa)
  (hs:autoParam (starEach [e] X.env=[(false,eval e X.env)]) zau3._auto_1) (hdf:autoParam ((fn==("__debug__":Str))=false) zau1._auto_1):DE X (.Call (.Name "sorted" p) [e] [⟨some "key",.Name fn fp,kp⟩] pos) .fr (UO W wa):=by
 obtain⟨f,fd,F,hmf,hkf,hb,hW⟩:=G;obtain⟨t,h1,h2⟩:=he;refine⟨_,VG F hr hg hm hgf hmf hb h1 hs hdf,λC M H n ρ Z P Q R w q=>?_⟩;refine h2 C M H n ρ Z _ _ R w λv H1 d n1 e1 f1 r1 p=>?_;obtain⟨xs,rk,hd,h64,hw,hK,w⟩:=p;have R1:=R.step e1 f1;obtain⟨κ,l,us,rfl,hs,sq⟩:=NY (U:=C.U) (r1.tpOf R.dom R.vM) hd R.uV R1.vM;obtain⟨keys,hl,hk⟩:=GH hK.1;have hlen:=hs.length;refine⟨κ,l,us,keys,λks H2=>Ext C.U H1 H2/\FeedC X.K C.F M H2 n1/\ks.length<=xs.length/\∀(i:Nat) (k:V),ks[i]?=some k->∃x,xs[i]?=some x/\At X.K M H2 (rk x) k,rfl,sq M H1 (Pres.refl _ _) (Ext.refl _ _),by rw [hlen]; exact h64,⟨Ext.refl _ _,f1,dY _,λi k z=>absurd (show (none:Option V)=some k from z) (λh=>nomatch h)⟩,λks H2 v hJ hv=>?_,λks H2 hJ hkl=>?_⟩
 ·obtain⟨ex,fd2,hle,hat⟩:=hJ
  have R2':=R1.step ex fd2;have hi:ks.length<xs.length:=by rw [← hlen]; exact(Uf.mp hv).1
  have hxi:xs[ks.length]?=some xs[ks.length]:=No hi;obtain⟨v',e2,hA⟩:=(hs.pres (R1.pres ex)).get hxi;rw [hv] at e2;cases e2;refine⟨rfl,C.F,C.U,C.V,M,n1,[.sh xs[ks.length]],λd n=>d=rk xs[ks.length]/\n=n1,⟨R2'.dom,R2'.fU,R2'.uV,R2'.vM,fd2,.cons ⟨⟨v,rfl,hA⟩,rfl⟩ .nil⟩,hw _ (fW hi) _ ⟨rfl,rfl⟩,λr H3 d n' ex3 f3 vr hd=>?_⟩;obtain⟨rfl,rfl⟩:=hd;refine⟨ex.trans ex3,f3,by rw [dZ,eC]; omega,λi k hik=>?_⟩
  by_cases hlt:i<ks.length
  ·rw [gX hlt] at hik
   obtain⟨x,h3,h4⟩:=hat i k hik;exact⟨x,h3,h4.pres (R2'.pres ex3)⟩
  ·rw [fA (by omega)] at hik
   have hi0:i=ks.length:=by
    have:=(Uf.mp hik).1
    rw [eC] at this;omega
   subst hi0;rw [iJ] at hik;cases (show some r=some k from hik);exact⟨_,hxi,vr⟩
 ·obtain⟨ex,fd2,hle,hat⟩:=hJ
  have R2':=R1.step ex fd2;have hkx:ks.length=xs.length:=by rw [hkl,hlen]
  have hs2:Ats X.K M H2 (xs.map rk) ks:=by
   have go:∀(xs:List D) (ks:List V),ks.length=xs.length->(∀(i:Nat) (k:V),ks[i]?=some k->∃x,xs[i]?=some x/\At X.K M H2 (rk x) k)->Ats X.K M H2 (xs.map rk) ks:=by
    intro xs
    induction xs with
    | nil=>intro ks h _; exact iP.mp h
    | cons x xs ih =>
     intro ks h hh;cases ks with
     | nil=>cases h
     | cons k ks =>
      obtain⟨x',e3,h3⟩:=hh 0 k rfl;cases (show some x=some x' from e3)
      exact⟨k,ks,rfl,h3,ih ks (by simpa using h) λi k' e4=>by
       obtain⟨y,e5,h5⟩:=hh (i+1) k' (by simpa using e4);exact⟨y,by simpa using e5,h5⟩⟩
   exact go xs ks hkx hat
  have hK2:Keyed Cs (xs.map rk):=by
   refine⟨λy hy=>?_,λy hy z hz ka kb ea eb=>?_⟩
   ·obtain⟨x,hx,rfl⟩:=Rs.mp hy
    exact hK.1 x hx
   ·obtain⟨x,hx,rfl⟩:=Rs.mp hy
    obtain⟨x',hx',rfl⟩:=Rs.mp hz;exact hK.2 x hx x' hx' ka kb ea eb
  refine⟨Iw (λd k v _=>Iy) hs2 hK2 (by rw [hl,Go]) λi x e=>?_,λix l ho hn=>?_⟩
  ·rw [dX] at e
   obtain⟨x',hx',rfl⟩:=eT.mp e;exact hk i x' hx'
  ·obtain⟨o1,o2⟩:=R7 (kf:=λx=>Cs (rk x)) hl (λi x e=>by obtain⟨k,a,b,_⟩:=hk i x e; exact⟨k,a,b⟩) ho
   have g:Grow H2 (BD H2 l (.lst (ix.map λi=>us.getD i .non))):=Av hn;refine q _ _ (.lst (ix.map λi=>xs.getD i .non)) n1 ((e1.trans ex).trans g.ext) (fd2.grow g) (VR.back (e1.trans ex) ?_) (w _ o1 o2);exact CI hn ((hs.pres (R1.pres ex)).pick ix)
noncomputable def Zw:Key->D
 | .inl i=>.int i
 | .inr x=>.str x
noncomputable def SE:Key->Prop
 | .inl _=>True
 | .inr x=>x.length<=sizeLine
theorem Zb{K:Frag}{M:Ch->Prop}{H:Hp}{k:Key}(h:SE k):At K M H (Zw k) (kOf k):=by
 cases k with
 | inl i=>exact rfl
 | inr x=>exact⟨rfl,h⟩
end
end Dp
namespace L2
section
open PySem.MeetsSeq
open PySem.AutoSeq1 (wpAny_loadPart')
theorem Um(l:Ch)(items:Array Db)(n:Nat)(x:Db)(e:Db->Bool)(j:Nat)(hj:j<items.size)(hit:e items[j]=true)(hs1:items.size<=sizeLine)(prog:eB)(w:eG)(A:eX)(R:Result->On->Prop)(hp:dg)(g:Array GenState)(d:Drawn)(tk:Nat)(os:_)
  (hl:hp.get? l=some { cls:=.type "list",dict:=none,data:=.seq items n,slots:=#[] }) (he:∀y,y∈items->PySem.SeqAt.EqAt A.in1 ⟨hp,g,d,tk,os⟩ y x (e y)) (h:R (.ok (.ret .none)) ⟨hp.update l (e8 λxs=>xs.eraseIdxIfInBounds j),g,d,tk,os⟩) :
  ∀k i:Nat,j - i=k->i<=j->(∀m (hm:m<items.size),i<=m->m<j->e items[m]=false) ->
   wpAny (model prog w) A.in1 (gg.«list.remove.loop» ⟨[.ref l,x,rawInt i],[]⟩) (λfin s'=>match fin with | .done f=>R (.ok f) s' | .again c'=>c'.quiet=true/\codeAny (model prog w) A c' R s') (λe s'=>R (.error e) s') ⟨hp,g,d,tk,os⟩:=by
 intro k
 induction k with
 | zero =>
  intro i hk hij hno;have hij':i=j:=by omega
  subst hij'
  wp_walk using fD hl
  have hi:items[((i:Nat):Int).toNat]?=some items[i]:=by simp [hj]
  rw [hi];refine Ev (he _ (jW hj) prog w _ _ ?_);rw [hit];have hz':(items.eraseIdxIfInBounds i).size<=sizeLine+1:=dn (size_erased items _) (Nat.le_succ_of_le hs1)
  wp_walk using (iw hl rfl (hz:=hs1) (_hz':=hz')),fD hl
  simpa using h
 | succ k ih =>
  intro i hk hij hno;have hlt:i<items.size:=by omega
  wp_walk using fD hl
  have hi:items[((i:Nat):Int).toNat]?=some items[i]:=by simp [hlt]
  have hc:((i:Int)+1)=((i+1:Nat):Int):=by push_cast; rfl
  rw [hi];refine Ev (he _ (jW hlt) prog w _ _ ?_);rw [hno i hlt (Op _) (by omega)]
  wp_walk
  rw [hc]
  exact⟨fo plain_remove_loop _,e_ entry_remove_loop (by
   rw [fM plain_remove_loop _];exact ih (i+1) (by omega) (by omega) (λm hm h1 h2=>hno m hm (by omega) h2))⟩
theorem Uo{prog:eB}{w:eG}{A:eX}{E:Db->On->Prop}{s:On}{Q:Db->On->Prop}(l:Ch)(items:Array Db)(n:Nat)(x:Db)(e:Db->Bool)(j:Nat)(hj:j<items.size)(hit:e items[j]=true)(hno:∀m (hm:m<items.size),m<j->e items[m]=false)
  (hs1:items.size<=sizeLine) (hl:s.heap.get? l=some { cls:=.type "list",dict:=none,data:=.seq items n,slots:=#[] }) (he:∀y,y∈items->PySem.SeqAt.EqAt A.in1 s y x (e y))
  (h:Q .none { s with heap:=s.heap.update l (e8 λxs=>xs.eraseIdxIfInBounds j) }):wpAny (model prog w) A (call (.builtin "list.remove") [.ref l,x]) Q E s:=by
 have key:wpAny (model prog w) A.in1 (gg.«list.remove» ⟨[.ref l,x],[]⟩) (λfin s'=>match fin with | .done f=>wants Q E (.ok f) s' | .again c'=>c'.quiet=true/\codeAny (model prog w) A c' (wants Q E) s') (λe s'=>wants Q E (.error e) s') s:=by
  obtain⟨hp,g,d,tk,os⟩:=s
  wp_walk using fD hl
  exact⟨fo plain_remove_loop _,e_ entry_remove_loop (Um l _ n x e j hj hit hs1 _ w A _ hp g d tk os hl he h _ 0 rfl (dY _) (λm hm _ h2=>hno m hm h2))⟩
 exact ja (iy PySem.F.slot_list_remove.plain PySem.F.entry_list_remove (PySem.F.slot_list_remove.check _ _ _ _ _ _ _ _ ⟨_,hl,rfl⟩ (PySem.F.args_list_remove_2 _ _) key))
end
section
variable {X:Cx}
noncomputable def Rm:V->List V->Hp->VK->Prop:=λx vs H Q=>∃(l:Ch) (xs:List V) (y:V) (ds:List iH) (d:iH) (j:Nat),x=.ref l/\vs=[y]/\H l=some (.lst xs)/\RVs H ds xs/\RV H d y/\gD ds=true/\d.canLay0=true/\d.depth<=100 /\
 (∃dj,ds[j]?=some dj/\e9 dj d=true)/\(∀m dm,m<j->ds[m]?=some dm->e9 dm d=false)/\Q .non (BD H l (.lst (xs.eraseIdx j)))
theorem Tg{k:Nat}(hr:Room k X.A):bP X "list.remove" Rm:=by
 intro zG s Z H x vs v us Q I rx rv h;obtain⟨l,xs,y,ds,d,j,rfl,rfl,hH,hds,hd,c1,c2,dd,⟨dj,hj,hit⟩,hno,q⟩:=h;cases rx;obtain⟨u,rfl,ru⟩:=rv.one;obtain⟨z,its,n,r,hl,e⟩:=I.lstM hH;obtain⟨as,ra⟩:=RVs.reads I hds r;obtain⟨bs,rb⟩:=RV.reads I hd ru;have hm:=PySem.SeqAt.readsAll_map ds its as c1 ra;have hlen:ds.length=its.length:=by rw [← hm,Go]
 have hu:=hr.un;have hmin:min (fg ds) d.depth<=d.depth:=iX _ _
 have at_:∀m dm,ds[m]?=some dm->∀(h:m<its.toArray.size),PySem.SeqAt.readOf s.heap its.toArray[m]=dm:=λm dm e h=>by
  rw [← hm,dX] at e;have h':m<its.length:=by simpa using h
  rw [No h'] at e;have e:=dh e
  simpa using e
 have hjl:j<its.length:=by rw [← hlen]; exact(Uf.mp hj).1
 refine Uo l its.toArray n u (λy=>e9 (PySem.SeqAt.readOf s.heap y) d) j (by rw [dW]; exact hjl) (by rw [at_ j dj hj]; exact hit) (λm hm' hlt=>?_) (by rw [dW]; omega) e (PySem.SeqAt.items_eqAt (vs:=its.toArray) (by rw [i9]; exact ra) rb c1 c2 (by omega)) ?_
 ·have hml:m<ds.length:=by rw [hlen]; simpa using hm'
  rw [at_ m ds[m] (No hml) hm'];exact hno m ds[m] hlt (No hml)
 ·refine⟨.non,_,I.lset (t':=s.toks) (its':=its.eraseIdx j) hH e ?_ (r.eraseIdx j) ?_,rfl,q⟩
  ·show its.toArray.eraseIdxIfInBounds j=(its.eraseIdx j).toArray
   rw [List.eraseIdxIfInBounds_toArray]
  ·have:=Ir xs j
   omega
end
end L2
namespace Dp
open L2
noncomputable def aw(d:D)(ds:List D)(P:D->D->Prop):Prop:=∃(xs:List D) (y:D) (j:Nat),d=.lst xs/\ds=[y]/\CY (.lst xs)/\CY y/\(∃x,xs[j]?=some x/\Cw x y=true)/\(∀m x,m<j->xs[m]?=some x->Cw x y=false)/\P (.lst (xs.eraseIdx j)) .non
theorem bD{K:Frag}:Xr K Rm aw:=by
 intro M H a d ds vs P Q m t hv w q;obtain⟨xs,y,j,rfl,rfl,⟨n1,l1,_⟩,⟨n2,l2,d2⟩,⟨x,hx,hit⟩,hno,w⟩:=w;obtain⟨us,h1,h2⟩:=t;obtain⟨u,r,rfl,hu,hr⟩:=hv;cases (show r=[] from hr)
 have get:∀(m:Nat) (p:iH),(Be xs)[m]?=some p->∃x,xs[m]?=some x/\p=toPy x:=λm p e=>by
  rw [DH,dX] at e;obtain⟨x,e1,rfl⟩:=eT.mp e
  grind
 refine⟨a,us,u,Be xs,toPy y,j,rfl,rfl,h1,h2.rv n1,hu.rv n2,l1,l2,d2,⟨toPy x,by rw [DH,dX,hx]; rfl,hit⟩,λm p hm e=>?_,q _ (.lst (xs.eraseIdx j)) .non _ ⟨us.eraseIdx j,Al,?_⟩ rfl w⟩
 ·obtain⟨x',e1,rfl⟩:=get m p e
  exact hno m x' hm e1
 ·exact(h2.eraseIdx j).pres (CJ m h1)
noncomputable def KQ(c:Jh)(wb:Ai):Ai:=λD2 n ρ=>∃W:Nat->Nat->List Slot->Prop,(∃m,W m n ρ)/\∀m n ρ,W m n ρ ->
 c n ρ λb n1=>if b=true then ∃N:Nat->List Slot->Prop,(∀n' zY,N n' zY->∃m',m'<m/\W m' n' zY)/\wb { D2 with nx:=N,ct:=N,bk:=D2.nx } n1 ρ else D2.nx n1 ρ
section
variable {X:Cx}{κ:Kd}{c:Expr}{body:List Stmt}{wc:Jh}{wb:Ai}{pos:Pos}
theorem LY(hp:jr (model X.prog X.w) X.A X.env X.xe)(hc:DT X c wc)(hb:UJ X κ body wb):DS X κ (.While c body [] pos) (KQ wc wb):=by
 obtain⟨tc,c1,c2⟩:=hc;obtain⟨tb,b1,b2⟩:=hb;refine⟨_,U9 hp c1 b1,λC M H n ρ Z D2 E R L w=>?_⟩;obtain⟨W,⟨m0,w0⟩,turn⟩:=w;refine⟨λm zZ H'=>∃M' n' zY,Rel X.K C M' H' n' zY zZ/\W m n' zY,⟨m0,M,n,ρ,R,w0⟩,?_⟩;rintro m zZ H' ⟨M',n',zY,R',w'⟩;refine c2 C M' H' n' zY zZ _ _ R' (turn m n' zY w') λb H2 n2 e f p=>?_;have R2:=R'.step e f;cases b with
 | true =>
  rw [if_pos rfl] at p ⊢;obtain⟨N,hN,p⟩:=p;refine⟨λzV H3=>∃M3 n3 zO,Rel X.K C M3 H3 n3 zO zV/\N n3 zO,λzV H3 ⟨M3,n3,zO,R3,w3⟩=>?_,?_⟩
  ·obtain⟨m',hm,w4⟩:=hN n3 zO w3
   exact⟨m',hm,M3,n3,zO,R3,w4⟩
  ·exact b2 C M' H2 n2 zY zZ { D2 with nx:=N,ct:=N,bk:=D2.nx } _ R2 ⟨λM4 H4 n4 zS zQ R4 w4=>⟨M4,n4,zS,R4,w4⟩,L.rt,λM4 H4 n4 zS zQ R4 w4=>L.nx M4 H4 n4 zS zQ R4 w4,λM4 H4 n4 zS zQ R4 w4=>⟨M4,n4,zS,R4,w4⟩⟩ p
 | false =>
  rw [if_neg (by decide)] at p ⊢;exact L.nx M' H2 n2 zY zZ R2 p
theorem IT{D2:E2}{n:Nat}{ρ:List Slot}(I:Nat->Nat->List Slot->Prop)(m0:Nat)(h0:I m0 n ρ)
  (hs:∀m n ρ (N:Nat->List Slot->Prop),I m n ρ->(∀m' n' zY,m'<m->I m' n' zY->N n' zY)->wc n ρ λb n1=>if b=true then wb { D2 with nx:=N,ct:=N,bk:=D2.nx } n1 ρ else D2.nx n1 ρ)
  (mono:∀n ρ (P Q:Bool->Nat->Prop),(∀b n1,P b n1->Q b n1)->wc n ρ P->wc n ρ Q):KQ wc wb D2 n ρ:=by
 refine⟨I,⟨m0,h0⟩,λm n ρ h=>?_⟩;refine mono n ρ _ _ (λb n1 p=>?_) (hs m n ρ (λn' zY=>∃m',m'<m/\I m' n' _) h λm' n' zY hm hi=>⟨m',hm,hi⟩);cases b with
 | true=>exact⟨_,λ_ _ z=>z,p⟩
 | false=>exact p
end
end Dp
namespace Nt
open L2 Dp
noncomputable def Z5(s t:BL):Decidable (s=t) :=
 if h:s.a=t.a/\s.b=t.b/\s.len=t.len then .isTrue (by obtain⟨a,b,l⟩:=s; obtain⟨a',b',l'⟩:=t; obtain⟨h1,h2,h3⟩:=h; simp only at h1 h2 h3; subst h1 h2 h3; rfl) else .isFalse λe=>h (by rw [e]; exact⟨rfl,rfl,rfl⟩)
noncomputable instance:DecidableEq BL:=Z5
noncomputable abbrev EF(Pd:D->Nat->Prop):E2:={ nx:=λn _=>Kd.fr=.sh/\Pd .non n,rt:=Pd }
noncomputable def Ks(t:BL):List Key:=[.inl t.len,.inr t.a,.inr t.b]
noncomputable def E5(ts:List BL):Prop:=ts.Pairwise λs t=>BX (Ks t) (Ks s)=false
noncomputable def O9:D->D
 | .tup [x,y,z]=>.tup [z,x,y]
 | d=>d
noncomputable def cF(x:Str×Int):D:=.tup [.str x.1,.int x.2]
noncomputable abbrev Sn:W2:=λss n P=>∃x y z:D,ss=[.sh (.tup [x,y,z])]/\P (.tup [z,x,y]) n
noncomputable def Dg:W2:=λss n P=>∃(d:D) (ts:List BL),ss=[.sh d]/\Ef d=some (ts.map Ao)/\ts.length<64/\∀ts':List BL,ts'.Perm ts->E5 ts'->P (.lst (ts'.map Ao)) n
noncomputable def UB:Ai:=(Am (BE (AE (Aa Ar (AB 0) (wC (D.int 2))) (AE (Aa Ar (AB 0) (wC (D.int 0))) (AE (Aa Ar (AB 0) (wC (D.int 1))) AY)))))
noncomputable def Li:Ai:=(Am (UO Sn (AB 0)))
theorem Uk{s t:BL}(h:Ks s=Ks t):s=t:=by
 obtain⟨a,b,l⟩:=s;obtain⟨a',b',l'⟩:=t;unfold Ks at h
 grind
theorem J3{α:Type}{R:α->α->Prop}(anti:∀a b,R a b->R b a->a=b):∀{l1 l2:List α},l1.Perm l2->l1.Pairwise R->l2.Pairwise R->l1=l2
 | [],l2,p,_,_=>(List.nil_perm.mp p).symm
 | a::l1,[],p,_,_=>absurd (List.perm_nil.mp p) (fk _ _)
 | a::l1,b::l2,p,h1,h2=>by
  have e:a=b:=by
   rcases ZB.mp (p.mem_iff.mp Re) with e | h
   ·exact e
   ·rcases ZB.mp (p.mem_iff.mpr (Re)) with e | h'
    ·exact e.symm
    ·exact anti a b ((eq.mp h1).1 b h') ((eq.mp h2).1 a h)
  subst e;rw [J3 anti ((List.perm_cons a).mp p) (eq.mp h1).2 (eq.mp h2).2]
theorem Fa{l1 l2:List BL}(p:l1.Perm l2)(h1:E5 l1)(h2:E5 l2):l1=l2:=J3 (λa b x y=>Uk (Cr _ _ y x)) p h1 h2
theorem Ol{α:Type}{f:α->D}{g:D->α}(hg:∀x,g (f x)=x){xs:List D}{ts:List α}(h:xs.Perm (ts.map f)):∃ts':List α,ts'.Perm ts/\xs=ts'.map f:=by
 refine⟨xs.map g,?_,?_⟩
 ·have:=h.map g
  rw [fQ,show g∘f=id from funext hg,jE] at this;exact this
 ·rw [fQ]
  have:∀x∈xs,(f∘g) x=x:=λx hx=>by
   obtain⟨t,_,rfl⟩:=Rs.mp (h.mem_iff.mp hx)
   grind
  rw [i_ this,List.map_id']
noncomputable def ZX:D->BL
 | .tup [.str a,.str b,.int l]=>⟨a,b,l⟩
 | _=>⟨"","",0⟩
section
variable {ss:List Slot}{n:Nat}{Pd:D->Nat->Prop}
theorem Qj(h:Sn ss n Pd):UB (EE Pd) n (ss++Tk 0 .no):=by
 obtain⟨x,y,z,rfl,p⟩:=h;exact⟨_,AJ rfl,_,AJ rfl,_,AJ rfl,z3,p⟩
theorem VL{ts:List BL}(h:IQ (λx=>Cs (O9 x)) (ts.map Ao)):E5 ts:=by
 unfold IQ at h;rw [gW] at h;exact h.imp λ{s t} z=>z _ _ rfl rfl
theorem O4(h:Dg ss n Pd):Li (EF Pd) n (ss++Tk 0 .no):=by
 obtain⟨d,ts,rfl,hd,h64,p⟩:=h;unfold Li;refine⟨ts.map Ao,O9,hd,by rw [Go]; exact h64,λx hx Q hq=>?_,⟨λx hx=>?_,λx hx y hy ka kb ea eb=>?_⟩,λxs' hp ho=>?_⟩
 ·obtain⟨t,_,rfl⟩:=Rs.mp hx
  exact⟨_,_,_,rfl,hq⟩
 ·obtain⟨t,_,rfl⟩:=Rs.mp hx
  exact⟨Ks t,rfl,fk _ _⟩
 ·obtain⟨t,_,rfl⟩:=Rs.mp hx
  obtain⟨u,_,rfl⟩:=Rs.mp hy;cases (show some (Ks t)=some ka from ea);cases (show some (Ks u)=some kb from eb);rfl
 ·obtain⟨ts',h1,rfl⟩:=Ol (g:=ZX) (λ_=>rfl) hp
  exact p ts' h1 (VL ho)
theorem OA{N:Net}(ok:N.Ok){x:Str}{p:Str×Int}(h:p∈EN N.ts x):p.1∈N.ps/\1<=p.2/\p.2<=1000000/\∃t∈N.ts,t.len=p.2/\((t.a=x/\t.b=p.1)\/(t.b=x/\t.a=p.1)):=by
 obtain⟨t,ht,h⟩:=f9.mp h;obtain⟨m1,m2,m3,m4,m5⟩:=ok.tin t ht
 rcases d7.mp h with h | h
 ·split at h
  ·rename_i e
   rw [TM.mp h];exact⟨m2,m4,m5,t,ht,rfl,.inl ⟨e,rfl⟩⟩
  ·cases h
 ·split at h
  ·rename_i e
   rw [TM.mp h];exact⟨m1,m4,m5,t,ht,rfl,.inr ⟨e,rfl⟩⟩
  ·cases h
theorem He(s t:BL):Cw (Ao s) (Ao t)=true↔s=t:=by
 obtain⟨a,b,l⟩:=s;obtain⟨a',b',l'⟩:=t;show (a==a'&&(b==b'&&(l==l'&&true)))=true↔_
 simp_all
theorem Iu{xs:List D}(h:∀d∈xs,item d):CY (.lst xs):=by
 have d1:=dps_le.mpr λd hd=>(h d hd).2.2;exact Ez (by decide) (fines_iff.mpr λd hd=>(h d hd).1) (by show M8 xs+1<=100; omega)
theorem GI{α β:Type}(f:α->β):∀(l:List α) (i:Nat),(l.map f).eraseIdx i=(l.eraseIdx i).map f
 | [],i=>rfl
 | x::l,0=>rfl
 | x::l,i+1=>by
  show f x::(l.map f).eraseIdx i=f x::(l.eraseIdx i).map f;rw [GI f l i]
theorem XS{N:Net}(ok:N.Ok){x o:Str}{s t:BL}(hs:s∈N.ts)(ht:t∈N.ts)(e:Bt s t)(h1:(s.a=x/\s.b=o)\/(s.b=x/\s.a=o))(h2:(t.a=x/\t.b=o)\/(t.b=x/\t.a=o)):False:=by
 have ls:=(ok.tin s hs).2.2.1;have lt:=(ok.tin t ht).2.2.1;have irr:∀a,¬cs a<cs a:=λa=>g8 _
 rcases h1 with ⟨a1,b1⟩ | ⟨a1,b1⟩ <;> rcases h2 with ⟨a2,b2⟩ | ⟨a2,b2⟩ <;> rw [a1,b1] at ls <;> rw [a2,b2] at lt
 ·rcases e with e | ⟨_,e⟩
  ·rw [a1,a2] at e; exact irr _ e
  grind
 ·grind
 ·exact irr _ (kG ls lt)
 ·rcases e with e | ⟨_,e⟩
  ·rw [b1,b2] at e; exact irr _ e
  grind
theorem Te{N:Net}(ok:N.Ok)(x:Str):((EN N.ts x).map (·.1)).Nodup:=by
 have go:∀ts:List BL,(∀t∈ts,t∈N.ts)->ts.Pairwise Bt->((EN ts x).map (·.1)).Nodup:=by
  intro ts
  induction ts with
  | nil=>intro _ _; exact fJ
  | cons t ts ih =>
   intro hin hp;have i1:=ih (λs hs=>hin s (Sc _ hs)) (eq.mp hp).2;have lt:=(ok.tin t (hin t Re)).2.2.1
   have new:∀y,((t.a=x/\t.b=y)\/(t.b=x/\t.a=y))->y∉(EN ts x).map (·.1):=λy hy hm=>by
    obtain⟨s,hs,h⟩:=N_ hm;exact XS ok (hin t Re) (hin s (Sc _ hs)) ((eq.mp hp).1 s hs) hy h
   have e:EN (t::ts) x=((if t.a=x then [(t.b,t.len)] else [])++(if t.b=x then [(t.a,t.len)] else []))++EN ts x:=by
    unfold EN;rw [List.flatMap_cons]
   rw [e]
   by_cases h1:t.a=x
   ·have h2:¬t.b=x:=λz=>by rw [h1,z] at lt; exact g8 _ lt
    rw [if_pos h1,if_neg h2,eO,ie,eR,eF];exact⟨new _ (.inl ⟨h1,rfl⟩),i1⟩
   ·rw [if_neg h1,d8]
    by_cases h2:t.b=x
    ·rw [if_pos h2,ie,eR,eF]
     exact⟨new _ (.inr ⟨h2,rfl⟩),i1⟩
    ·rw [if_neg h2,d8]
     exact i1
 exact go N.ts (λ_ h=>h) ok.trise
end
noncomputable def CH(t:BL):List Key:=[.inr t.a,.inr t.b,.inl t.len]
noncomputable def a9(t:BL):List Key:=[.inr t.a,.inr t.b]
noncomputable def JV(ts:List BL):Prop:=ts.Pairwise λs t=>BX (CH t) (CH s)=false
noncomputable def RU(N:Net)(d:D):Prop:=∃ts:List BL,d=.tup [.tup (N.ps.map .str),.tup (ts.map Ao)]/\(∀t∈ts,t∈N.ts)/\ts.Pairwise Bt
noncomputable def thinB(N:Net)(d:D):Bool:=@decide (RU N d) (gm _)
theorem thinB_iff{N:Net}{d:D}:thinB N d=true↔RU N d:=by
 unfold thinB
 grind
theorem Vs{N:Net}{d:D}{b:Bool}(h:b=true↔RU N d):b=thinB N d:=by
 rw [eU,thinB_iff];exact h
noncomputable def Z4(N:Net)(d:D):Prop:=∃s∈N.ts,d=Ao s
noncomputable def FL(N:Net)(d:D):Bool:=@decide (Z4 N d) (gm _)
theorem tofB_iff{N:Net}{d:D}:FL N d=true↔Z4 N d:=by
 unfold FL
 grind
theorem YC{a:Str}{x:D}(h:Cw (.str a) x=true):x=.str a:=by
 cases x with
 | str b =>
  have h:(a==b)=true:=h
  grind
 | _=>cases h
theorem az{a:Str}{x:D}(h:Cw x (.str a)=true):x=.str a:=by
 cases x with
 | str b =>
  have h:(b==a)=true:=h
  grind
 | _=>cases h
theorem Fl:∀{xs:List D} {ps:List Str},jP (Be xs) (Be (ps.map .str))=true->xs=ps.map .str
 | [],[],_=>rfl
 | [],_::_,h=>by cases h
 | _::_,[],h=>by cases h
 | x::xs,p::ps,h=>by
  have h:(e9 _ _&&jP _ _)=true:=h;rw [de] at h;rw [az h.1,Fl h.2];rfl
theorem eqvAll_refl:∀ps:List Str,jP (Be (ps.map .str)) (Be (ps.map .str))=true
 | []=>rfl
 | p::ps=>by
  show ((p==p)&&jP _ _)=true;rw [beq_self_eq_true,eqvAll_refl ps];rfl
theorem eqD_strs{p:D}{ps:List Str}:Cw p (.tup (ps.map .str))=true↔p=.tup (ps.map .str):=by
 constructor
 ·intro h
  cases p with
  | tup xs=>rw [Fl h]
  | _=>cases h
 ·rintro rfl
  exact eqvAll_refl ps
theorem M5{s:BL}{d:D}(h:Cw (Ao s) d=true):∃z,d=.tup [.str s.a,.str s.b,z]/\∀i,z=.int i->i=s.len:=by
 cases d with
 | tup xs =>
  match xs,h with
  | [x,y,z],h =>
   have h:(e9 (toPy (.str s.a)) (toPy x)&&(e9 (toPy (.str s.b)) (toPy y)&&(e9 (.int s.len) (toPy z)&&true)))=true:=h;rw [Bool.and_true,de,de] at h;refine⟨z,by rw [YC (a:=s.a) (x:=x) h.1,YC (a:=s.b) (x:=y) h.2.1],λi e=>?_⟩;subst e;have h3:(s.len==i)=true:=h.2.2
   grind
  | [],h=>cases h
  | [x],h=>exact absurd h (by show ¬((e9 (toPy (.str s.a)) (toPy x)&&false)=true); simp)
  | [x,y],h=>exact absurd h (by show ¬((e9 (toPy (.str s.a)) (toPy x)&&(e9 (toPy (.str s.b)) (toPy y)&&false))=true); simp)
  | x::y::z::u::r,h=>exact absurd h (by show ¬((e9 (toPy (.str s.a)) (toPy x)&&(e9 (toPy (.str s.b)) (toPy y)&&(e9 (.int s.len) (toPy z)&&false)))=true); simp)
 | _=>cases h
theorem OI(s:BL):Cw (Ao s) (Ao s)=true:=(He s s).mpr rfl
theorem OW{f:BL->D}{k:BL->List Key}(hk:∀s t,VS (f s) (f t)=some (BX (k s) (k t))):∀{ts:List BL},Sh (ts.map f)=true↔ts.Pairwise λs t=>BX (k s) (k t)=true
 | []=>⟨λ_=>.nil,λ_=>rfl⟩
 | [t]=>⟨λ_=>jq _ _,λ_=>rfl⟩
 | s::t::r=>by
  show ((VS _ _==some _)&&Sh ((t::r).map f))=true↔_;rw [de,OW hk (ts:=t::r),hk,eq (a:=s)];constructor
  ·rintro ⟨h1,h2⟩
   have h1:=dh (eq_of_beq h1);refine⟨λu hu=>?_,h2⟩
   rcases ZB.mp hu with rfl | hu
   ·exact h1
   ·exact Cq _ _ _ h1 ((eq.mp h2).1 u hu)
  simp_all
theorem LJ(s t:BL):VS (Ao s) (Ao t)=some (BX (CH s) (CH t)):=by
 show (if (true&&(true&&(true&&true)))=true then some (G4 (CH s) (CH t)) else none)=_;rw [if_pos (show (true&&(true&&(true&&true)))=true from rfl),J5 _ _ rfl]
theorem ekey_iff{s t:BL}:BX (a9 s) (a9 t)=true↔Bt s t:=by
 show (if fN _=.inr _ then (if fN _=.inr _ then false else decide (cs _<cs _)) else decide (cs _<cs _))=true↔(cs _<cs _\/(s.a=t.a/\cs _<cs _))
 by_cases h1:s.a=t.a
 ·rw [if_pos (by rw [h1])]
  by_cases h2:s.b=t.b
  ·simp_all
  ·rw [if_neg (λe=>h2 (f8 e)),decide_eq_true_eq,h1]
   constructor
   ·intro h; simp_all
   grind
 simp_all
theorem MT(s:BL):¬Bt s s:=by
 rintro (h | ⟨_,h⟩) <;> exact CP _ h
theorem NU{s t:BL}(h:Bt s t):BX (CH s) (CH t)=true:=by
 show (if fN _=.inr _ then (if fN _=.inr _ then (if iM _=.inl _ then false else decide _) else decide (cs _<cs _)) else decide (cs _<cs _))=true
 rcases h with h | ⟨h,h'⟩
 ·rw [if_neg (λe=>CP s.a (by simp_all)),decide_eq_true h]
 ·rw [if_pos (by rw [h]),if_neg (λe=>CP s.b (by grind)),decide_eq_true h']
theorem GF:∀{ts:List BL},ts.Pairwise Bt->∀s∈ts,∀t∈ts,s.a=t.a->s.b=t.b->s=t
 | [],_,s,hs,_,_,_,_=>by cases hs
 | x::ts,h,s,hs,t,ht,e1,e2=>by
  have h:=eq.mp h
  rcases ZB.mp hs with es | hs
  ·rcases ZB.mp ht with et | ht
   ·rw [es,et]
   ·rcases h.1 t ht with h | ⟨_,h⟩
    ·grind
    grind
  ·rcases ZB.mp ht with et | ht
   ·rcases h.1 s hs with h | ⟨_,h⟩
    ·rw [← et,e1] at h; exact absurd h (CP _)
    grind
   ·exact GF h.2 s hs t ht e1 e2
theorem XR{N:Net}(ok:N.Ok){s t:BL}(hs:s∈N.ts)(ht:t∈N.ts)(h:BX (CH s) (CH t)=true):Bt s t:=by
 have h:(if fN _=.inr _ then (if fN _=.inr _ then (if iM _=.inl _ then false else decide _) else decide _) else decide _)=true:=h
 by_cases h1:s.a=t.a
 ·rw [if_pos (by rw [h1])] at h
  by_cases h2:s.b=t.b
  ·rw [if_pos (by rw [h2]),if_pos (by rw [GF ok.trise s hs t ht h1 h2])] at h
   cases h
  ·rw [if_neg (λe=>h2 (f8 e)),decide_eq_true_eq] at h
   exact .inr ⟨h1,h⟩
 ·rw [if_neg (λe=>h1 (f8 e)),decide_eq_true_eq] at h
  exact .inl h
theorem LX{ts:List BL}(h:ts.Pairwise Bt):ts.Nodup:=h.imp λ{s t} h e=>by rw [e] at h; exact MT _ h
theorem sub_len{l m:List BL}(hl:l.Nodup)(hm:m.Nodup)(h:∀t∈l,t∈m):l.length<=m.length:=by
 have:l.Perm (m.filter λt=>decide (t∈l)):=(List.perm_ext_iff_of_nodup hl (hm.filter _)).mpr λt=>by
  simp_all
 rw [this.length_eq];exact g9 _ _
theorem Ug{N:Net}(ok:N.Ok){ts:List BL}(h:∀t∈ts,t∈N.ts)(hp:ts.Pairwise Bt):Net.Ok ⟨N.ps,ts⟩:=⟨ok.names,ok.rise,λt ht=>ok.tin t (h t ht),hp⟩
theorem Mc{P:BL->Prop}:∀{xs:List D},(∀d∈xs,∃s,P s/\d=Ao s)->∃ts:List BL,xs=ts.map Ao/\∀t∈ts,P t
 | [],_=>⟨[],rfl,λt h=>by cases h⟩
 | d::xs,h=>by
  obtain⟨s,hs,rfl⟩:=h d Re;obtain⟨ts,rfl,ht⟩:=Mc λe he=>h e (Sc _ he);refine⟨s::ts,rfl,λt z=>?_⟩
  grind
theorem KZ{N:Net}{xs:List D}(h:xs.all (FL N)=true):∃ts:List BL,xs=ts.map Ao/\∀t∈ts,t∈N.ts :=
 Mc λd hd=>by
  obtain⟨s,hs,e⟩:=tofB_iff.mp (fB.mp h d hd);exact⟨s,hs,e⟩
theorem Md{N:Net}(ok:N.Ok)(p:D)(xs:List D):(Cw p (.tup (N.ps.map .str))&&(xs.all (FL N)&&Sh xs))=thinB N (.tup [p,.tup xs]):=by
 refine Vs ⟨λh=>?_,λh=>?_⟩
 ·rw [de,de] at h
  obtain⟨ts,rfl,hts⟩:=KZ h.2.1;refine⟨ts,by rw [eqD_strs.mp h.1],hts,?_⟩
  have:=(OW LJ).mp h.2.2
  exact this.imp_of_mem λ{s t} hs ht z=>XR ok (hts s hs) (hts t ht) z
 ·obtain⟨ts,e,hts,hp⟩:=h
  cases e;rw [de,de];refine⟨eqD_strs.mpr rfl,fB.mpr λd hd=>?_,(OW LJ).mpr (hp.imp λ{s t} z=>NU z)⟩;obtain⟨t,ht,rfl⟩:=Rs.mp hd;exact tofB_iff.mpr ⟨t,hts t ht,rfl⟩
theorem FO{N:Net}{d:D}(h:∀p xs,d≠.tup [p,.tup xs]):thinB N d=false:=by
 rw [eV];intro z;obtain⟨ts,e,_⟩:=thinB_iff.mp z;exact h _ _ e
end Nt
namespace L2
open PySem.W
end L2
namespace Dp
open L2
end Dp
namespace Nt
open L2 Dp
noncomputable def look(ts:List BL)(x y:Str):Option Int:=((EN ts x).find? λz=>decide (z.1=y)).map (·.2)
noncomputable def OC(ts:List BL):Str->List Str->Int->Option Int
 | _,[],s=>some s
 | x,y::r,s=>match look ts x y with
  | some l=>OC ts y r (s+l)
  | none=>none
noncomputable def Yl:Option Int->D
 | some i=>.int i
 | none=>.non
noncomputable def Fh:D->Bool
 | .str _=>true
 | _=>false
noncomputable def ZE(N:Net):List Str->D
 | x::r=>if x∈N.ps then Yl (OC N.ts x r 0) else .non
 | []=>.non
noncomputable def ZF(N:Net):D->D
 | .tup xs=>if xs.all Fh then ZE N (strsOf xs) else .non
 | _=>.non
noncomputable def au(d:D):Prop:=G9 (10 ^ 30) d/\QM d<=160000/\RE d<=50
noncomputable abbrev Xp:W2:=λss n P=>∃(N:Net) (d:D),ss=[.sh (enc N),.sh d]/\N.Ok/\N.ps.length<=26/\N.ts.length<=60/\au d/\P (ZF N d) n
noncomputable def P_:Ai:=(Af (A2 (Bh (A5 (AS (Dk "tuple" (AB 1)))) (AS (Aa (LV false) (Bs CF (AE (AB 1) AY)) (wC (D.int 0))))) (Am (wC D.non)) Ap)
 (Af (A2 (A5 (AS (Bs Fk (AE (BS [none] (A1 (AB 1)) (AR 0) Cf (Dk "str" (AB 0))) AY)))) (Am (wC D.non)) Ap)
 (Af (A0 2 (AU Oa (AC (AD (AB 0)) AV)))
 (Af (A2 (AS (Aa (Jw true) (Aa Ar (AB 1) (wC (D.int 0))) (AB 2))) (Am (wC D.non)) Ap)
 (Af (A0 3 (wC (D.int 0)))
 (Af (Cj (QP (AE (AB 1) (AE (YT Pt (AB 1) (KR (wC (D.int 1))) Ee) AY))) (Bi 2 (AX (AR 4) (AX (AR 5) BB))) (Af (A2 (AS (Aa (Jw true) (AB 5) (Aa CC (AB 2) (AB 4)))) (Am (wC D.non)) Ap)
 (UR 3 (Aa CC (Aa CC (AB 2) (AB 4)) (AB 5)))))
 (Am (AB 3))))))))
theorem Ou:∀{xs:List D},xs.all Fh=true->∃ys:List Str,xs=ys.map .str
 | [],_=>⟨[],rfl⟩
 | d::r,h=>by
  rw [iU,de] at h;obtain⟨ys,e⟩:=Ou h.2;cases d with
  | str x=>exact⟨x::ys,by grind⟩
  | _=>cases h.1
theorem all_strs(ys:List Str):(ys.map D.str).all Fh=true:=by rw [List.all_map]; exact fB.mpr λ_ _=>rfl
theorem Jy{g:Str->D}{x:Str}:∀{ps:List Str},BP (ps.map .inr) (ps.map g) (.inr x)=if x∈ps then some (g x) else none
 | []=>rfl
 | p::ps=>by
  show (if fN p=.inr x then some _ else BP _ _ _)=_;rw [Jy]
  grind
theorem NT{y:Str}:∀{xs:List (Str×Int)},BP (xs.map λx=>.inr x.1) (xs.map λx=>.int x.2) (.inr y)=((xs.find? λz=>decide (z.1=y)).map (·.2)).map .int
 | []=>rfl
 | p::ps=>by
  show (if fN _=.inr y then some _ else BP _ _ _)=_;rw [NT]
  by_cases e:p.1=y
  ·simp_all
  simp_all
theorem VW{N:Net}(ok:N.Ok){x y:Str}{l:Int}(h:look N.ts x y=some l):y∈N.ps/\1<=l/\l<=1000000:=by
 unfold look at h;cases c:(EN N.ts x).find? λz=>decide (z.1=y) with
 | none=>grind
 | some z =>
  have h1:=List.find?_some c;obtain⟨t,ht,hz⟩:=f9.mp (jd c);obtain⟨m1,m2,_,m3,m4⟩:=ok.tin t ht
  rcases d7.mp hz with hz | hz
  ·simp_all
  simp_all
section
variable {ss:List Slot}{n:Nat}{Pd:D->Nat->Prop}
theorem Pb{N:Net}(ok:N.Ok){D2:E2}{b0 b1:Slot}:∀(r:List Str) (x:Str) (s:Int) (s4 s5:Slot),x∈N.ps->(match OC N.ts x r s with | some l=>∀s4 s5,D2.nx n [b0,b1,.sh (FP N),.sh (.int l),s4,s5] | none=>D2.rt .non n) ->
  BF (Bi 2 (AX (AR 4) (AX (AR 5) BB))) (Af (A2 (AS (Aa (Jw true) (AB 5) (Aa CC (AB 2) (AB 4)))) (Am (wC D.non)) Ap) (UR 3 (Aa CC (Aa CC (AB 2) (AB 4)) (AB 5)))) D2 (Dz ((x::r).map .str) (r.map .str)) n [b0,b1,.sh (FP N),.sh (.int s),s4,s5]
 | [],x,s,s4,s5,hx,h=>h s4 s5
 | y::r,x,s,s4,s5,hx,h=>by
  have v1:BP (N.ps.map .inr) (N.ps.map (WV N.ts)) (.inr x)=some (WV N.ts x):=by rw [Jy,if_pos hx]
  refine⟨rfl,rfl,?_⟩;refine⟨_,_,.inr x,_,rfl,rfl,v1,_,_,.inr y,rfl,rfl,?_⟩;rw [NT];unfold OC at h;have hl:((EN N.ts x).find? λz=>decide (z.1=y)).map (·.2)=look N.ts x y:=rfl;rw [hl];cases c:look N.ts x y with
  | none=>rw [c] at h; exact EC h
  | some l =>
   rw [c] at h;have v2:BP ((EN N.ts x).map λz=>.inr z.1) ((EN N.ts x).map λz=>.int z.2) (.inr y)=some (.int l):=by rw [NT,hl,c]; rfl
   refine Bp ⟨s,rfl,_,_,.inr x,_,rfl,rfl,v1,_,_,.inr y,_,rfl,rfl,v2,l,rfl,?_⟩;exact Pb ok r y (s+l) _ _ (VW ok c).1 h
theorem Nj(h0:Xp ss n Pd):P_ (EE Pd) n (ss++Tk 4 .no):=by
 obtain⟨N,d,rfl,ok,lp,lt,fd,p⟩:=h0;cases d with
 | tup xs =>
  have hl:=Rk xs;have hz:L0 xs<=160000:=fd.2.1;have p':Pd (if xs.all Fh then ZE N (strsOf xs) else .non) n:=p;refine⟨_,_,rfl,rfl,?_⟩;show if ((xs.length:Int)==0)=true then _ else _
  cases xs with
  | nil=>exact EC p'
  | cons x0 r0 =>
   rw [show (((x0::r0).length:Int)==0)=false from beq_eq_false_iff_ne.mpr (by rw [dq]; omega)];refine Bp ⟨by omega,?_⟩;refine BC (λd=>.bl (Fh d)) (λρ=>∃s,ρ=[s]) _ _ _ _ ?_ ⟨_,rfl⟩ ?_
   ·rintro d hd ρ m nx ⟨s,rfl⟩ hnx
    have:=hnx [.sh d] ⟨_,rfl⟩
    cases d <;> exact this
   rw [d8];refine⟨_,_,rfl,Hx Fh (x0::r0),?_⟩;rw [WF];show if (!(x0::r0).all Fh)=true then _ else _
   cases ha:(x0::r0).all Fh with
   | false=>rw [ha] at p'; exact EC p'
   | true =>
    rw [ha] at p';obtain⟨ys,e⟩:=Ou ha;rw [e,Ka] at p';cases ys with
    | nil=>cases e
    | cons y r =>
     rw [eR] at e;cases e;refine Bp ⟨N,rfl,ok,by omega,by omega,?_⟩;refine⟨.str y,AJ (j:=0) rfl,_,_,.inr y,rfl,rfl,?_⟩;show if (!(BP (N.ps.map .inr) (N.ps.map (WV N.ts)) (.inr y)).isSome)=true then _ else _
     rw [Jy];have p2:Pd (if y∈N.ps then Yl (OC N.ts y r 0) else .non) n:=p'
     by_cases hy:y∈N.ps
     ·rw [if_pos hy] at p2 ⊢
      refine Bp ⟨_,_,(y::r).map .str,r.map .str,rfl,rfl,by show some (Dp.cutD (D.str y::r.map .str) (some 1) none)=_; rw [Xh]; rfl,?_⟩;refine Pb ok r y 0 _ _ hy ?_;cases c:OC N.ts y r 0 with
      | none=>rw [c] at p2; exact p2
      | some l=>rw [c] at p2; exact λ_ _=>p2
     ·rw [if_neg hy] at p2 ⊢
      exact EC p2
 | _=>exact p
theorem C1{b:BW}{tt:Jh}{te:DW}{P:List D->Nat->Prop}(c:D->Bool)(g:D->D)(I:List Slot->Prop):∀(ds acc:List D) (n:Nat) (ρ:List Slot),
  (∀d∈ds,∀(ρ:List Slot) (n:Nat) (nx:D->Nat->List Slot->Prop) (sk:Nat->List Slot->Prop),I ρ->(∀zY,I zY->c d=true->nx (g d) n zY)->(∀zY,I zY->c d=false->sk n zY)->b d ρ λzT=>tt n zT λc n1=>if c=true then te n1 zT λy n2=>nx y n2 zT else sk n1 zT)->I ρ->P (acc++(ds.filter c).map g) n->EO b tt te P ds acc n ρ
 | [],acc,n,ρ,_,_,h=>by rw [List.filter_nil,kO,eO] at h; exact h
 | d::ds,acc,n,ρ,ht,hρ,h=>ht d Re ρ n _ _ hρ
  (λzY hρ' hc=>C1 c g I ds _ n _ (λd hd=>ht d (Sc _ hd)) hρ' (by simp_all))
  (λzY hρ' hc=>C1 c g I ds _ n _ (λd hd=>ht d (Sc _ hd)) hρ' (by grind))
end
noncomputable def Xn:W2:=λss n P=>∃(N:Net) (d:D),ss=[.sh (enc N),.sh d]/\N.Ok/\CY d/\P (.bl (FL N d)) n
noncomputable def Jg:W2:=λss n P=>∃(N:Net) (d:D),ss=[.sh (enc N),.sh d]/\N.Ok/\N.ps.length<=24/\N.ts.length<=60/\G9 (10 ^ 41) d/\QM d<=200000/\RE d<=90/\P (.bl (thinB N d)) n
noncomputable def JX:Ai:=(Am (EI (Aa (GS false) (AB 1) (Aa Ar (AB 0) (wC (D.int 1)))) (AU C8 (AC (AD (Aa Ar (AB 1) (wC (D.int 2)))) AV))))
noncomputable def NF:Ai:=(Af (A2 (Bh (A5 (AS (AU B8 (AC (AD (wC (D.int 2))) (AC (AD (AB 1)) AV))))) (A5 (AS (Dk "tuple" (Aa Ar (AB 1) (wC (D.int 1))))))) (Am (wC (D.bl false))) Ap)
 (Am (EI (Aa XQ (Aa Ar (AB 1) (wC (D.int 0))) (Aa Ar (AB 0) (wC (D.int 0)))) (EI (Bs Fk (AE (BS [some 0,none] (A1 (Aa Ar (AB 1) (wC (D.int 1)))) (AR 1) Cf (AU Xn (AC (AD (AB 0)) (AC (AD (AB 1)) AV)))) AY)) (AU IK (AC (AD (Aa Ar (AB 1) (wC (D.int 1)))) AV))))))
theorem R6{ts:List BL}(h:IQ Cs (ts.map Ao)):JV ts:=by
 unfold IQ at h;rw [gW] at h;exact h.imp λ{s t} z=>z _ _ rfl rfl
theorem Pg{N:Net}(ok:N.Ok){ts:List BL}(h:∀t∈ts,t∈N.ts):CY (.tup (ts.map Ao))/\CY (.lst (ts.map Ao)):=by
 have it:∀d∈ts.map Ao,item d:=λd hd=>by
  obtain⟨t,ht,rfl⟩:=Rs.mp hd;exact LL ok _ (Rs.mpr ⟨t,h t ht,rfl⟩)
 have d1:M8 (ts.map Ao)<=1:=dps_le.mpr λd hd=>(it d hd).2.2;exact⟨Ez (B:=1000001) (by decide) (fines_iff.mpr λd hd=>(it d hd).1) (by show M8 (ts.map Ao)+1<=100; omega),Iu it⟩
theorem HY{N:Net}(ok:N.Ok){t:BL}(h:t∈N.ts):CY (Ao t):=by
 have it:=LL ok _ (Rs.mpr ⟨t,h,rfl⟩);exact Ez (B:=1000001) (by decide) it.1 (by have:=it.2.2; omega)
theorem Sb{ts:List BL}{t:BL}:((ts.map Ao).any λy=>Cw y (Ao t))=decide (t∈ts):=by
 rw [eU,fj,decide_eq_true_eq];constructor
 ·rintro ⟨d,hd,e⟩
  obtain⟨s,hs,rfl⟩:=Rs.mp hd;rw [← (He s t).mp e];exact hs
 ·intro h
  exact⟨Ao t,Rs.mpr ⟨t,h,rfl⟩,(He t t).mpr rfl⟩
theorem OB:∀xs:List D,xs.length<=L0 xs
 | []=>dY _
 | x::xs=>by
  have:=OB xs
  show xs.length+1<=QM x+1+L0 xs;omega
theorem LK:∀ts:List BL,200*ts.length<=L0 (ts.map Ao)
 | []=>dY _
 | t::ts=>by
  have:=LK ts
  show 200*(ts.length+1)<=t.a.length+1+(t.b.length+1+(200+1+0))+1+L0 (ts.map Ao);omega
section
variable {ss:List Slot}{n:Nat}{Pd:D->Nat->Prop}
theorem Nn(h:Xn ss n Pd):JX (EE Pd) n (ss++Tk 0 .no):=by
 obtain⟨N,d,rfl,ok,hl,p⟩:=h;unfold JX;refine⟨_,AJ (j:=1) rfl,hl,(Pg ok λ_ h=>h).1,_,rfl,?_⟩;cases c:(N.ts.map Ao).any λy=>Cw y d with
 | false =>
  have:FL N d=false:=by
   rw [eV];intro z;obtain⟨s,hs,rfl⟩:=tofB_iff.mp z;rw [Sb,decide_eq_true hs] at c;cases c
  rw [this] at p;exact p
 | true =>
  obtain⟨e,he,q⟩:=fj.mp c;obtain⟨s,hs,rfl⟩:=Rs.mp he;obtain⟨z,rfl,hz⟩:=M5 q;refine⟨_,AJ (j:=2) rfl,[z],rfl,rfl,?_⟩
  have:FL N (.tup [.str s.a,.str s.b,z])=IS z:=by
   rw [eU,tofB_iff];constructor
   ·rintro ⟨t,_,e⟩
    have e:z=.int t.len:=by injection e with e; injection e with _ e; injection e with _ e; injection e
    rw [e];rfl
   ·intro hw
    cases z with
    | int i=>exact⟨s,hs,by rw [hz i rfl]; rfl⟩
    | _=>cases hw
  rw [this] at p;exact p
theorem Qp(h:Jg ss n Pd):NF (EE Pd) n (ss++Tk 0 .no):=by
 obtain⟨N,d,rfl,ok,l1,l2,hf,hs,hd,p⟩:=h;unfold NF;refine⟨2,d,rfl,?_⟩;cases h2:tupleOfB 2 d with
 | false =>
  rw [FO (λp xs e=>by rw [e] at h2; cases h2)] at p;exact EC p
 | true =>
  obtain⟨x,y,rfl⟩:=bn h2;refine Bp ⟨_,AJ (j:=1) rfl,?_⟩;cases y with
  | tup xs =>
   rw [← Md ok] at p;have f1:G9 (10 ^ 41) x:=hf.1;have f2:GZ (10 ^ 41) xs:=hf.2.1;have hd':max (RE x) (max (M8 xs+1) 0)+1<=90:=hd;have hs':QM x+1+(L0 xs+1+0)<=200000:=hs;refine Bp ⟨_,AJ (j:=0) rfl,_,AJ (j:=0) rfl,Ez (B:=10 ^ 41) (by decide) f1 (by omega),B9 ok.names,?_⟩;refine RO (b1:=Cw x (.tup (N.ps.map .str))) (b2:=xs.all (FL N)&&Sh xs) (P:=Pd) (n:=n) (k:=λP=>_) (λ_ hp=>?_) p;refine⟨_,AJ (j:=1) rfl,by show xs.length<=10000000; have:=OB xs; omega,?_⟩;refine BC (λd=>.bl (FL N d)) (λρ=>∃s,ρ=[.sh (enc N),s]) _ _ _ _ ?_ ⟨_,rfl⟩ ?_
   ·rintro e he ρ m nx ⟨s,rfl⟩ hnx
    have dx:M8 xs<=88:=by omega
    exact⟨N,e,rfl,ok,Ez (B:=10 ^ 41) (by decide) (fines_iff.mp f2 e he) (by have:=dps_le.mp dx e he; omega),hnx _ ⟨_,rfl⟩⟩
   rw [d8];refine⟨_,_,rfl,Hx (FL N) xs,?_⟩;rw [WF];refine RO (b1:=xs.all (FL N)) (b2:=Sh xs) (P:=Pd) (n:=n) (k:=λP=>_) (λha hp=>?_) hp;obtain⟨ts,rfl,hts⟩:=KZ ha
   have:=LK ts
   refine⟨_,AJ (j:=1) rfl,_,_,rfl,rfl,by rw [Go]; omega,λa ha b hb=>?_,hp⟩;obtain⟨s,_,rfl⟩:=Rs.mp ha;obtain⟨t,_,rfl⟩:=Rs.mp hb;exact⟨_,LJ s t⟩
  | _ =>
   rw [FO (λp xs e=>by cases e)] at p;exact EC p
end
theorem UY{s t:BL}(h:CH s=CH t):s=t:=by
 obtain⟨a,b,l⟩:=s;obtain⟨a',b',l'⟩:=t;unfold CH at h;simp only [List.cons.injEq,Sum.inl.injEq,Sum.inr.injEq,and_true] at h;obtain⟨rfl,rfl,rfl⟩:=h;rfl
theorem QT{l1 l2:List BL}(p:l1.Perm l2)(h1:JV l1)(h2:JV l2):l1=l2:=J3 (λa b x y=>UY (Cr _ _ y x)) p h1 h2
theorem RL{ts:List BL}(h:ts.Pairwise Bt):JV ts:=h.imp λ{s t} z=>by
 cases e:BX (CH t) (CH s) with
 | false=>rfl
 | true =>
  have:=Cq _ _ _ (NU z) e
  rw [C2] at this;cases this
noncomputable def Bu:W2:=λss n P=>∃l t b x:Int,ss=[.sh (.int l),.sh (.tup [.int t,.int b]),.sh (.int x)]/\1<=b/\b<=1000000/\1<=t/\t<=1000000/\P (.bl (decide (l*b<=x*t))) n
noncomputable def QA:Ai:=(Am (Aa Pu (Aa LU (AB 0) (Aa Ar (AB 1) (wC (D.int 1)))) (Aa LU (AB 2) (Aa Ar (AB 1) (wC (D.int 0))))))
section
variable {ss:List Slot}{n:Nat}{Pd:D->Nat->Prop}
theorem bY{i j:Int}(h0:0<=j)(h1:j<=1000000):CMul i j:=.inr ⟨by omega,by omega⟩
theorem Nm(h:Bu ss n Pd):QA (EE Pd) n (ss++Tk 0 .no):=by
 obtain⟨l,t,b,x,rfl,b0,b1,t0,t1,p⟩:=h;exact⟨_,AJ rfl,bY (by omega) b1,_,AJ rfl,bY (by omega) t1,p⟩
end
end Nt
namespace L2
open PySem.W
section
variable {prog:Program}{w:World}{A:Around}{E:Value->Shared->Prop}{R:Result->Shared->Prop}{I:Addr}{fp wr:List Addr}{n:Nat}{P:Nat->Value->Prop}{St:Nat->Heap->Prop}
noncomputable def YM(prog:eB)(w:eG)(A:eX)(op:CmpOp)(P:Nat->Db->Prop)(Cm:dg->Prop)(bt:Nat->Nat->Bool):Prop :=
 ∀i j vi vj (s:On) (Q:Db->On->Prop) (E:Db->On->Prop),Cm s.heap->P i vi->P j vj->Q (.bool (bt i j)) s->wpAny (model prog w) A (richCompare op vi vj) Q E s
theorem Th(W:Walks prog w A.in1 I fp wr n P St)(bt:Nat->Nat->Bool)(Cm:dg->Prop)(hcmp:YM prog w A.in1 .Lt P Cm bt)(S:Ch)(hSf:S∉fp)(hmono:∀h h':dg,Cm h->(∀b o,b∉wr->b≠S->h.get? b=some o->h'.get? b=some o)->Cm h') :
  ∀(k j:Nat) (s:On) (vb:Db) (c:Nat),n - (j+1)=k->j+1<=n->St (j+1) s.heap->Cm s.heap->P (argBest bt j) vb ->
  s.heap.get? S=some { cls:=.type "list",dict:=none,data:=.seq #[vb,vb] c,slots:=#[] } ->
  (∀v h' tk,P (argBest bt (n - 1)) v->(∀b o,b∉wr->b≠S->s.heap.get? b=some o->h'.get? b=some o)->R (.ok (.ret v)) { s with heap:=h',toks:=tk }) ->
  codeAny (model prog w) A (.builtin "min.loop" ⟨[.ref I,.none,.ref S],[]⟩) R s:=by
 have hSw:S∉wr:=λh=>hSf (W.sub _ h);have hname:(toString "min"++toString ".loop" : String) = "min.loop":=by decide
 intro k
 induction k with
 | zero =>
  intro j s vb c hk hj hst hcm hPb hS hR;have hin:j+1=n:=by omega
  refine e_ PySem.F.entry_min_loop ?_;rw [fM PySem.F.plain_min_loop _];show wpAny _ A.in1 (seqItems? (.ref S) >>= _) _ _ s;refine Ev (fX hS rfl ?_);show wpAny _ A.in1 (tryCatch (pyNext (.ref I)) _ >>= _) _ _ s;refine Ev (jB (W.done s _ _ (hin▸hst) λh' tk hk'=>?_));have hS':=hk' S _ hSw hS;show wpAny _ A.in1 (updateSeq S (λ_=>#[]) >>= _) _ _ _;refine Ev ?_;refine iw hS' rfl (Ev (gu (T0 ?_)));refine hR vb _ tk (by rw [← hin]; exact hPb) λb o hbw hbS e=>(dk _ _ (fF hbS)).trans (hk' b o hbw e)
 | succ k ih =>
  intro j s vb c hk hj hst hcm hPb hS hR;have hlt:j+1<n:=by omega
  refine e_ PySem.F.entry_min_loop ?_;rw [fM PySem.F.plain_min_loop _];show wpAny _ A.in1 (seqItems? (.ref S) >>= _) _ _ s;refine Ev (fX hS rfl ?_);show wpAny _ A.in1 (tryCatch (pyNext (.ref I)) _ >>= _) _ _ s;refine Ev (jB (W.item (j+1) s _ _ hlt hst λv h' tk hP hst' hk'=>?_));have hS':=hk' S _ hSw hS;have hcm':Cm h':=hmono _ _ hcm λb o h1 _ e=>hk' b o h1 e;show wpAny _ A.in1 (tryCatch (holding [v,v] (richCompare .Lt v vb >>= _)) _ >>= _) _ _ _;refine Ev (jB (fI (Ev (hcmp (j+1) (argBest bt j) v vb _ _ _ hcm' hP hPb ?_))));refine Ev (fI (fY ?_));refine Ev (gu (T0 ?_));cases hb:bt (j+1) (argBest bt j) with
  | true =>
   simp only [if_true];refine Ev ?_;refine iw hS' rfl (Ev (gu ?_));rw [hname]
   refine T0 ⟨fo PySem.F.plain_min_loop _,ih (j+1) _ v _ (by omega) hlt (W.frame _ _ _ hst' λb hbf o e=>?_) (hmono _ _ hcm' λb o _ h2 e=>(dk _ _ (fF h2)).trans e) (by simp only [argBest,hb,if_true]; exact hP) (g7 _ hS' rfl)
    λv' h'' tk'' hP' hk''=>?_⟩
   ·exact(dk _ _ (λh:S=b=>hSf (by rw [h]; exact hbf))).trans e
   ·exact hR v' h'' tk'' hP' λb o hbw hbS e=>hk'' b o hbw hbS ((dk _ _ (fF hbS)).trans (hk' b o hbw e))
  | false =>
   simp only [gA,if_false];refine Ev (gu ?_);rw [hname];refine T0 ⟨fo PySem.F.plain_min_loop _,ih (j+1) _ vb c (by omega) hlt hst' hcm' (by simp only [argBest,hb,gA,if_false]; exact hPb) hS' λv' h'' tk'' hP' hk''=>?_⟩;exact hR v' h'' tk'' hP' λb o hbw hbS e=>hk'' b o hbw hbS (hk' b o hbw e)
theorem Q4(W:Walks prog w A.in1 I fp wr n P St)(bt:Nat->Nat->Bool)(Cm:dg->Prop)(hcmp:YM prog w A.in1 .Lt P Cm bt)(S:Ch)(hSf:S∉fp)(hmono:∀h h':dg,Cm h->(∀b o,b∉wr->b≠S->h.get? b=some o->h'.get? b=some o)->Cm h')(hn:0<n){s:On}{c:Nat}(hst:St 0 s.heap)(hcm:Cm s.heap)
  (hS:s.heap.get? S=some { cls:=.type "list",dict:=none,data:=.seq #[] c,slots:=#[] })
  (hR:∀v h' tk,P (argBest bt (n - 1)) v->(∀b o,b∉wr->b≠S->s.heap.get? b=some o->h'.get? b=some o)->R (.ok (.ret v)) { s with heap:=h',toks:=tk }) :
  codeAny (model prog w) A (.builtin "min.loop" ⟨[.ref I,.none,.ref S],[]⟩) R s:=by
 have hSw:S∉wr:=λh=>hSf (W.sub _ h);have hname:(toString "min"++toString ".loop" : String) = "min.loop":=by decide
 refine e_ PySem.F.entry_min_loop ?_;refine Ev (fX hS rfl ?_);refine Ev (jB (W.item 0 s _ _ hn hst λv h' tk hP hst' hk'=>?_));have hS':=hk' S _ hSw hS;have hcm':Cm h':=hmono _ _ hcm λb o h1 _ e=>hk' b o h1 e;show wpAny _ A.in1 (updateSeq S (λ_=>#[v,v]) >>= _) _ _ _;refine Ev ?_;refine iw hS' rfl ?_;rw [hname];refine T0 ⟨fo PySem.F.plain_min_loop _,Th W bt Cm hcmp S hSf hmono _ 0 _ v _ rfl hn (W.frame _ _ _ hst' λb hbf o e=>?_) (hmono _ _ hcm' λb o _ h2 e=>(dk _ _ (fF h2)).trans e) hP (g7 _ hS' rfl) λv' h'' tk'' hP' hk''=>?_⟩
 ·exact(dk _ _ (λh:S=b=>hSf (by grind))).trans e
 ·exact hR v' h'' tk'' hP' λb o hbw hbS e=>hk'' b o hbw hbS ((dk _ _ (fF hbS)).trans (hk' b o hbw e))
theorem min_list{s:On}{l:Ch}{items:Array Db}{Q:Db->On->Prop}(bt:Nat->Nat->Bool)(hh:A.handled=none)(hl:s.heap.IsList l items)(hn:0<items.size)
  (hcmp:∀i j vi vj (s':On) (Q:Db->On->Prop) (E:Db->On->Prop),(∀b o,s.heap.get? b=some o->s'.heap.get? b=some o)->items[i]?=some vi->items[j]?=some vj->Q (.bool (bt i j)) s'->wpAny (model prog w) A.in1 (richCompare .Lt vi vj) Q E s')
  (h:∀v h' tk,items[argBest bt (items.size - 1)]?=some v->(∀b o,s.heap.get? b=some o->h'.get? b=some o)->Q v { s with heap:=h',toks:=tk }):wpAny (model prog w) A (call (.builtin "min") [.ref l]) Q E s:=by
 have hname:(toString "min"++toString ".loop" : String) = "min.loop":=by decide
 have hlt:l<s.heap.objs.size:=by obtain⟨_,e,_⟩:=hl; exact XV e
 refine call_function_tree PySem.F.kind_min PySem.F.plain_min PySem.F.entry_min (PySem.F.args_min1 _) ?_;show wpAny _ A.in1 (jJ "min" ["key","default"] 0 ⟨[],[]⟩ >>= _) _ _ s;refine Ev (jy (show jJ "min" ["key","default"] 0 ⟨[],[]⟩=pure [none,none] from rfl) ?_);refine Ev (T0 ?_);refine Ev (fb hl ?_);refine Ev (fw ?_);rw [hname];have W:=Walks.list (prog:=prog) (w:=w) (A:=A.in1) hh s.heap.objs.size l (da hlt) items;have hs1:(s.heap.push { cls:=.type "list_iterator",data:=.fields #[.ref l,.int 0 0] }).objs.size=s.heap.objs.size+1:=ft _ _;refine T0 ⟨fo PySem.F.plain_min_loop _,Q4 W bt (λh'=>∀b o,s.heap.get? b=some o->h'.get? b=some o) (λi j vi vj s' Q E hc h1 h2 q=>hcmp i j vi vj s' Q E hc h1 h2 q) (s.heap.push { cls:=.type "list_iterator",data:=.fields #[.ref l,.int 0 0] }).objs.size (λhm=>?_) (λh1 h2 hc hk b o e=>hk b o (λhm=>?_) ?_ (hc b o e)) hn ⟨⟨_,FM _ (UF _ rfl),rfl,rfl⟩,(hl.push _).push _⟩ (λb o e=>FM _ (FM _ e)) (UF _ rfl) λv h' tk hP hk=>?_⟩
 ·rw [hs1] at hm
  rcases ZB.mp hm with e | hm
  ·exact absurd e (jj _)
  ·rw [← TM.mp hm] at hlt
   exact absurd hlt (jb.mpr (fm _))
 ·rw [TM.mp hm] at e
  exact absurd (XV e) (fH _)
 ·rw [hs1]
  exact da (fG (XV e))
 ·refine h v h' tk hP λb o e=>hk b o (λhm=>?_) ?_ (FM _ (FM _ e))
  ·rw [TM.mp hm] at e
   exact absurd (XV e) (fH _)
  ·rw [hs1]
   exact da (fG (XV e))
end
theorem Lk(keys:List (List Key)):∀m:Nat,argBest (λi j=>BX (keys.getD i []) (keys.getD j [])) m<=m/\∀i,i<=m->BX (keys.getD i []) (keys.getD (argBest (λi j=>BX (keys.getD i []) (keys.getD j [])) m) [])=false
 | 0=>⟨Op _,λi hi=>by
  have:i=0:=by omega
  subst this;exact C2 _⟩
 | m+1=>by
  obtain⟨h1,h2⟩:=Lk keys m;unfold argBest
  by_cases c:BX (keys.getD (m+1) []) (keys.getD (argBest (λi j=>BX (keys.getD i []) (keys.getD j [])) m) [])=true
  ·rw [if_pos c]
   refine⟨Op _,λi hi=>?_⟩
   by_cases e:i=m+1
   ·subst e; exact C2 _
   ·cases z:BX (keys.getD i []) (keys.getD (m+1) []) with
    | false=>rfl
    | true =>
     have:=Cq _ _ _ z c
     rw [h2 i (by omega)] at this;cases this
  grind
section
variable {X:Cx}
noncomputable def X3(K:Frag):List V->Hp->VK->Prop:=λxs H Q=>∃(p:Ch) (vs:List V) (keys:List (List Key)),xs=[.ref p]/\SqL K H p vs/\0<vs.length/\KeysAt K H vs keys /\
 ∀j v,vs[j]?=some v->(∀i,i<vs.length->BX (keys.getD i []) (keys.getD j [])=false)->Q v H
theorem T_{k:Nat}(hr:Room k X.A):DC X (.builtin "min") (X3 X.K):=by
 intro zG s Z H xs us Q I r h;obtain⟨p,vs,keys,rfl,hq,hn,hk,q⟩:=h;obtain⟨u,rfl,rx⟩:=vals1 r;cases rx;obtain⟨its,r',pl,hz⟩:=I.list hq;have hl:=r'.length;have tk:=hk.tups I r' λb o e=>e;have hu:=hr.un;refine min_list (λi j=>BX (keys.getD i []) (keys.getD j [])) hr.hd pl.isList (by rw [dW]; omega) (λi j vi vj s' Q' E' hold h1 h2 q'=>?_) λv h' tk' hv hold=>?_
 ·have hi:i<keys.length:=by rw [← hk.len,hl]; have:=(jQ.mp h1).1; simpa using this
  have hj:j<keys.length:=by rw [← hk.len,hl]; have:=(jQ.mp h2).1; simpa using this
  obtain⟨a,⟨cls,dd,data,sl⟩,xs,n,e1,e2,e3,e4,e5⟩:=tk.at_ i keys[i] (No hi);obtain⟨a',⟨cls',dd',data',sl'⟩,xs',n',e1',e2',e3',e4',e5'⟩:=tk.at_ j keys[j] (No hj);simp only at e3 e4 e3' e4';subst e3 e4 e3' e4';have e1:its.toArray[i]?=some (.ref a):=by rw [← e1]; simp
  have e1':its.toArray[j]?=some (.ref a'):=by rw [← e1']; simp
  rw [e1] at h1;rw [e1'] at h2;cases h1;cases h2;have hsm:=hk.same _ (fW hi) _ (fW hj);have g1:keys.getD i []=keys[i]:=by rw [eN,No hi]; rfl
  have g2:keys.getD j []=keys[j]:=by rw [eN,No hj]; rfl
  simp only [g1,g2] at q';rw [← J5 _ _ hsm] at q'
  exact richCompare_meets_room (op:=.Lt) ⟨_,hold _ _ e2,rfl⟩ ⟨_,hold _ _ e2',rfl⟩ PySem.F.slot_tuple_lt PySem.F.entry_tuple_lt (PySem.F.args_tuple_lt_2 _ _) (GW a a' xs xs' n n' dd dd' sl sl' keys[i] keys[j] e5 e5' hsm)
   ⟨hold _ _ e2,hold _ _ e2',show jZ (G4 keys[i] keys[j])≠Value.notImplemented/\Q' (.bool (G4 keys[i] keys[j])) s' from⟨(λx=>nomatch x),q'⟩⟩ (by show X.A.units+1<cLine; omega)
 ·obtain⟨b1,b2⟩:=Lk keys (its.toArray.size - 1)
  rw [dW] at hv b1 b2;have hj:argBest (λi j=>BX (keys.getD i []) (keys.getD j [])) (its.length - 1)<vs.length:=by omega
  obtain⟨u,e1,ru⟩:=r'.get (No hj);have e2:its.toArray[argBest (λi j=>BX (keys.getD i []) (keys.getD j [])) (its.length - 1)]?=some u:=by rw [← e1]; simp
  rw [e2] at hv;cases hv;exact⟨_,H,I.kept (t':=tk') hold,ru,q _ _ (No hj) λi hi=>b2 i (by omega)⟩
end
end L2
namespace Dp
open L2
noncomputable def X_(ds:List D)(P:D->Prop):Prop:=∃xs,ds=[.lst xs]/\0<xs.length/\Keyed Cs xs/\∀x∈xs,(∀y∈xs,∀kx ky,Cs x=some kx->Cs y=some ky->BX ky kx=false)->P x
theorem Zi{K:Frag}:Dy K .sh (X3 K) X_:=by
 intro U M H ds vs P Q dom vM hp w q;obtain⟨xs,rfl,hn,hK,w⟩:=w;obtain⟨v,rfl,hx⟩:=FF hp;obtain⟨a,us,rfl,_,hq,hs⟩:=hx;obtain⟨keys,hl,hk⟩:=GH hK.1;have hlen:=hs.length;refine⟨a,us,keys,rfl,.inl hq,by omega,Iw (λd k v _=>Iy) hs hK hl hk,λj v hv hle=>?_⟩;have hj:j<xs.length:=by rw [← hlen]; exact(Uf.mp hv).1
 obtain⟨v',e1,h1⟩:=hs.get (No hj);rw [hv] at e1;cases e1;refine q v H xs[j] .refl h1 (w _ (fW hj) λy hy kx ky ex ey=>?_);obtain⟨i,hi⟩:=gR.mp hy;have hil:i<xs.length:=(Uf.mp hi).1;obtain⟨k1,a1,b1,_⟩:=hk i y hi;obtain⟨k2,a2,b2,_⟩:=hk j xs[j] (No hj)
 grind
end Dp
namespace L2
noncomputable def ce(d:Ch)(o:Obj)(kvs:List (Key×V)):It :=
 ⟨λi H=>H d=some (.frz o (.dK kvs))/\i<kvs.length,λi H x H'=>∃T p,x=.ref T/\H T=none/\kvs[i]?=some p/\H'=BD H T (.tup [kV p.1,p.2]),λi H=>H d=some (.frz o (.dK kvs))/\kvs.length<=i⟩
theorem ZK{P:eB}{w:eG}{k:Key}{u:Db}(h:(Aw P w).is k u=true):RelV (kV k) u:=by
 rcases BN h with ⟨i,t,rfl,rfl⟩ | ⟨x,t,rfl,rfl⟩
 ·exact⟨t,rfl⟩
 ·exact⟨t,rfl⟩
theorem ON{X:Cx}{zG:List (Ch×Obj)}{Z:L2.St}{H:Hp}{s:On}{d:Ch}{o:Obj}{kvs:List (Key×V)}{es:Array DictEntry}{ep:Nat}(I:Inv X zG Z H s)(h:H d=some (.frz o (.dK kvs)))(hd:o.data=.dict es ep) :
  ∃ws,KV kvs ws/\s.heap.DictAt (Aw X.prog X.w) d ws ep:=by
 obtain⟨e0,_,_,ws,kv,o',es',ep',e1,e2,e3,e4⟩:=(I.hok d _ h);rw [e0] at e1;cases e1;rw [hd] at e3;cases e3;exact⟨ws,kv,o,es,e0,e2,hd,e4⟩
theorem QS{P:eB}{w:eG}{K:Frag}{els:List d6}{j:Nat}{pos:Pos}(d it:Ch)(o:Obj)(kvs:List (Key×V))(es:Array DictEntry)(ep:Nat)(hdat:o.data=.dict es ep) :
  Turn P w K (.Tuple els j pos) (ce d o kvs) [it] it (λi h=>∃ok ov,IsItemIter h it d i kvs.length ep ok ov) where
 mem:=by simp
 obj:=λi h ⟨ok,ov,st⟩ c hc=>by
  rw [TM.mp hc];exact⟨_,st,λv q=>by cases q⟩
 keep:=λi h h' ⟨ok,ov,st⟩ k=>⟨ok,ov,k it (by simp) _ st⟩
 item:=by
  intro X hP hw hK hc i zG s Z H E I hf st hg;subst hP hw hK;obtain⟨hH,hi⟩:=hg;obtain⟨ok,ov,st⟩:=st;obtain⟨ws,kv,D⟩:=ON I hH hdat
  have hl:=kv.length;have hiw:i<ws.length:=by omega
  rw [hl] at st;obtain⟨k,v,hkv⟩:∃k v,ws[i]=(k,v):=⟨_,_,rfl⟩;have hx:ws[i]?=some (k,v):=by rw [No hiw,hkv]
  have hp:kvs[i]?=some kvs[i]:=No hi;obtain⟨ek,rv⟩:=K7 kv hp hx;have ek:kvs[i].1=k:=ek;refine wpAny_pyNext_items_item st D hx λkey h' hkey hout htup hsz hold=>⟨_,rfl,?_⟩;refine wpAny_letOwnedTupleGo_items hout λh2 hit2 hsame=>?_;have hT:H s.heap.objs.size=none:=I.hok.fresh (Op _);have nit:s.heap.objs.size≠it:=gz (XV st)
  have kk:∀c o,c∉[it]->s.heap.get? c=some o->h2.get? c=some o:=λc o hc e=>by
   have hc:c≠it:=λz=>hc (by rw [z]; exact TM.mpr rfl);exact(hsame.2 c hc).trans (hold c o hc e)
  have I2:Inv X zG Z (BD H s.heap.objs.size (.tup [kV kvs[i].1,kvs[i].2])) { s with heap:=h2 }:=by
   refine I.turnLaid (t':=s.toks) (ch:=[it]) (λc hc=>hf c hc) kk (Op _) ?_;exact⟨by show 2<=sizeLine; decide,[key,v],.cons (ZK (by rw [ek]; exact hkey)) (.cons rv .nil),⟨_,(hsame.2 _ nit).trans htup,rfl,_,rfl,rfl,rfl⟩⟩
  refine⟨.ref s.heap.objs.size,_,I2,rfl,⟨_,_,rfl,hT,hp,rfl⟩,⟨key,v,by rw [hl]; exact hit2⟩,λc hc=>?_⟩;rw [TM.mp hc,Ag (fF nit)];exact(hf it (by simp)).1
 done:=by
  intro X hP hw hK hc i zG s Z H E I hf st hg;subst hP hw hK;obtain⟨hH,hi⟩:=hg;obtain⟨ok,ov,st⟩:=st;obtain⟨ws,kv,D⟩:=ON I hH hdat
  have hl:=kv.length;rw [hl] at st;refine wpAny_pyNext_items_end (I.ok.hd hc) st D (j9 (by omega)) λh' ext=>⟨rfl,?_⟩;exact I.turnedL (t':=s.toks) (ch:=[it]) (λc hc=>hf c hc) λc o hc e=>ext c o (λz=>hc (by rw [z]; exact TM.mpr rfl)) e
 self:=λA i s Q E ⟨ok,ov,st⟩ h=>PySem.W.kcp_self st h
noncomputable def ZP(to:TE):TI:=λZ H R=>to Z H λx H1=>∃d o kvs,x=.ref d/\H1 d=some (.frz o (.dK kvs))/\∀r,H1 r=none->R (ce d o kvs) (BD H1 r (.ext λh=>h.IsItemsView r d))
theorem VE{X:Cx}{e:d6}{els:List d6}{j:Nat}{tpos apos cpos:Pos}{to:TE}(ho:PE X e to)(hbase:autoParam (attributeBase e "items" X.env (eval e X.env)=eval e X.env) zau3._auto_1)(hline:autoParam ((apos.endLine==cpos.line)=true) zau3._auto_1) :
  PI X (.Tuple els j tpos) (.Call (.Attribute e "items" apos) [] [] cpos) (ZP to):=by
 intro zG s Z H R I h;refine wpAny_Call_method0_late hbase hline (thn (ho zG s Z H _ I h) λv s1 ⟨x,H1,I1,r1,d,o,kvs,ex,hd,q⟩=>?_);subst ex;cases r1;obtain⟨h1,h2,lo⟩:=RA I1 (.inl ⟨kvs,.inr ⟨o,hd⟩⟩);obtain⟨_,_,ws,kv,D⟩:=Ga I1.hok (.inr ⟨o,hd⟩);refine⟨"dict","dict.items",PySem.F.plainAttrs_dict,PySem.F.slot_dict_items,PySem.F.type_dict_items,h1,h2,gJ rfl (PySem.evalArgs_none ?_)⟩;refine io PySem.F.slot_dict_items D.typeIs PySem.F.entry_dict_items (PySem.F.args_dict_items_1 _) (meets_dict_items (Aw X.prog X.w) d lo) ⟨⟨ws,D⟩,?_⟩;have hf:H1 s1.heap.objs.size=none:=I1.fresh;have hv:(s1.heap.push { cls:=.type "dict_items",data:=.fields #[.ref d] }).IsItemsView s1.heap.objs.size d:=⟨_,UF _ rfl,rfl,rfl⟩
 have I2:Inv X zG Z (BD H1 s1.heap.objs.size (.ext λh=>h.IsItemsView s1.heap.objs.size d)) { s1 with heap:=s1.heap.push { cls:=.type "dict_items",data:=.fields #[.ref d] } } :=
  I1.laid (t':=s1.toks) (λb o e=>FM _ e) (Op _) ⟨hv,⟨_,UF _ rfl⟩,λh1 h2 ⟨o,e,c⟩ k=>⟨o,k o e,c⟩⟩
 have hd2:(BD H1 s1.heap.objs.size (.ext λh=>h.IsItemsView s1.heap.objs.size d)) d=some (.frz o (.dK kvs)):=by rw [Ag (A3 hd hf)]; exact hd
 obtain⟨es,ep,hdat⟩:∃es ep,o.data=.dict es ep:=by
  obtain⟨e0,_,_,ws,kv,o',es',ep',e1,e2,e3,e4⟩:=(show ObjOk X.prog X.w H1 s1.heap d (.frz o (.dK kvs)) from I1.hok d _ hd)
  grind
 obtain⟨ws2,kv2,D2⟩:=ON I2 hd2 hdat
 have hl:=kv2.length;refine wpAny_pyIter_items (s:={ s1 with heap:=s1.heap.push { cls:=.type "dict_items",data:=.fields #[.ref d] } }) hv D2 ?_;refine⟨_,[(s1.heap.push { cls:=.type "dict_items",data:=.fields #[.ref d] }).objs.size],_,ce d o kvs,_,rfl,I2.kept (t':=s1.toks) (λb o e=>FM _ e),QS d _ o kvs es ep hdat,⟨.none,.none,by rw [hl]; exact UF _ rfl⟩,λc hc=>?_,q _ hf⟩;rw [TM.mp hc];exact I2.fpOk (Op _) I2.fresh
end L2
namespace Dp
open L2
noncomputable def wItems(wa:DW):GQ:=λn ρ P=>wa n ρ λd n1=>∃ks ds,d=.fdi ks ds/\(∀k∈ks,SE k)/\P (Dz (ks.map Zw) ds) n1
theorem ZL(k:Key):kV k=kOf k:=by cases k <;> rfl
section
variable {X:Cx}{a:Expr}{zU:Kd}{wa:DW}{els:List Expr}{j:Nat}{tpos apos cpos:Pos}
theorem V2(ha:DE X a zU wa)(hbase:autoParam (attributeBase a "items" X.env (eval a X.env)=eval a X.env) zau3._auto_1)(hline:autoParam ((apos.endLine==cpos.line)=true) zau3._auto_1):DI X (.Tuple els j tpos) (.Call (.Attribute a "items" apos) [] [] cpos) (wItems wa):=by
 obtain⟨t,a1,a2⟩:=ha;refine⟨_,VE a1 hbase hline,λC M H n ρ Z P Rr R w q=>?_⟩;refine a2 C M H n ρ Z _ _ R w λv H1 d n1 ee f1 r1 p=>?_;obtain⟨ks,ds,rfl,hfit,p⟩:=p;have R1:=R.step ee f1;obtain⟨ad,vs,rfl,⟨o,nM,hd⟩,hlen,hs⟩:∃a vs,v=.ref a/\NdF M H1 a ks vs/\ks.length=ds.length/\Ats X.K M H1 ds vs:=r1.tpOf R.dom R.vM;have hl:=hs.length;refine⟨ad,o,_,rfl,hd,λr hr=>?_⟩;have g:Grow H1 (BD H1 r (.ext λh=>h.IsItemsView r ad)):=Av hr;refine q _ _ _ n1 (ee.trans g.ext) (f1.grow g) (λi M' H' pr dom=>?_) p;have pr2:Pres M H1 M' H':=g.pres.trans pr;have hd':H' ad=some (.frz o (.dK (ks.zip vs))):=(pr2.nd nM hd).2;have zl:(ks.zip vs).length=ks.length:=by rw [iz]; omega
 have zd:(Dz (ks.map Zw) ds).length=ks.length:=by unfold Dz; rw [i8,Go]; omega
 refine⟨λe he=>?_,λhle=>⟨hd',by omega⟩⟩;have hi:i<ks.length:=by rw [← zd]; exact(Uf.mp he).1
 have hid:i<ds.length:=by omega
 refine⟨⟨hd',by omega⟩,λx H2 y=>?_⟩;obtain⟨T,pp,rfl,hT,hp,rfl⟩:=y;obtain⟨v',e1,h1⟩:=(hs.pres pr2).get (No hid)
 have e2:(ks.zip vs)[i]?=some (ks[i],v'):=by
  rw [List.getElem?_zip_eq_some];exact⟨No hi,e1⟩
 rw [e2] at hp;cases hp
 have e3:e=.tup [Zw ks[i],ds[i]]:=by
  unfold Dz at he;rw [ic,dX,No hi,No hid] at he;exact(dh he).symm
 subst e3;refine⟨Av hT,C3 dom hT ⟨_,_,rfl,?_,_,_,rfl,h1,rfl⟩⟩;show At X.K M' H' (Zw ks[i]) (kV ks[i]);rw [ZL];exact Zb (hfit _ (fW hi))
end
section
variable {K:Frag}{C:Fm}{M:Addr->Prop}{H:Hp}{n:Nat}{ρ:List Slot}{Z:L2.St}
theorem Rel.hold(R:Rel K C M H n ρ Z){p:Ch}{o:HO}(hp:H p=none):Rel K C (λb=>M b\/b=p) (BD H p o) n ρ Z:=by
 have g:Grow H (BD H p o):=Av hp;have pr:Pres M H _ (BD H p o):=G8 hp;refine⟨R.len,λa z=>.inl (R.sub a z),λa z=>?_,R.ext.trans g.ext,R.fU,R.uV,λa z=>.inl (R.vM a z),(R.feed.grow g).more p λf hf q=>?_,λi s q=>(R.sl i s q).pres pr (λ_ z=>.inl z) g.ext R.uV,λq hq=>(R.pin q hq).trans pr,R.br0,R.new,R.two,λq hq=>?_⟩
 ·rcases z with z | z
  ·obtain⟨u,h1⟩:=R.dom a z
   exact⟨u,g.all a u h1⟩
  ·rw [z]; exact⟨o,Al⟩
 ·obtain⟨_,_,_,_,_,h3,_⟩:=R.feed f hf
  have:=h3.2
  grind
 ·obtain⟨h1,h2,h3,h4⟩:=R.kept q hq
  exact⟨g.all _ _ h1,.inl h2,h3,h4⟩
end
noncomputable def LQ(ks:List Key)(k:Key):Bool:=ks.any λk0=>decide (k0=k)
theorem hasK_iff{ks:List Key}{k:Key}:LQ ks k=true↔k∈ks:=by
 unfold LQ
 simp_all
noncomputable def C9(ks:List Key)(k:Key):List Key:=if LQ ks k=true then ks else ks++[k]
noncomputable def DV{α:Type}(ks:List Key)(ds:List α)(k:Key)(d:α):List α:=if LQ ks k=true then f7 (λk0 d0=>if k0=k then d else d0) ks ds else ds++[d]
theorem Xi{ks:List Key}{vs:List V}(hl:ks.length=vs.length)(k:Key):((ks.zip vs).any λkv=>decide (kv.1=k))=LQ ks k:=by
 rw [eU,fj,hasK_iff];constructor
 ·rintro ⟨⟨a,b⟩,hm,e⟩
  have e:=of_decide_eq_true e;rw [← e];exact(iA hm).1
 ·intro h
  obtain⟨i,hi,e⟩:=hX.mp h;exact⟨(ks[i],vs[i]'(by omega)),hX.mpr ⟨i,by grind,by grind⟩,by grind⟩
theorem U6{ks:List Key}{vs:List V}(hl:ks.length=vs.length)(k:Key)(v:V):putK (ks.zip vs) k v=(C9 ks k).zip (DV ks vs k v):=by
 unfold putK C9 DV;rw [Xi hl]
 by_cases h:LQ ks k=true
 ·have go:∀(ks:List _) (vs:List V),((ks.zip vs).map λkv=>if kv.1=k then (kv.1,v) else kv)=ks.zip (f7 (λk0 d0=>if k0=k then v else d0) ks vs):=by
   intro ks
   induction ks with
   | nil=>intro vs; rfl
   | cons a ks ih =>
    intro vs;cases vs with
    | nil=>rfl
    | cons b vs =>
     show (if a=k then (a,v) else (a,b))::_=(a,if a=k then v else b)::_;exact jX.mpr ⟨by split <;> rfl,ih vs⟩
  simp_all
 ·rw [if_neg h,if_neg h,if_neg h,List.zip_append hl]
  rfl
theorem Ats.put{K:Frag}{M:Ch->Prop}{H:Hp}{k:Key}{d:D}{v:V}(hd:At K M H d v):∀{ks:List Key} {ds:List D} {vs:List V},Ats K M H ds vs->Ats K M H (f7 (λk0 d0=>if k0=k then d else d0) ks ds) (f7 (λk0 d0=>if k0=k then v else d0) ks vs)
 | [],ds,vs,h=>rfl
 | a::ks,[],vs,h=>by cases (h); rfl
 | a::ks,e::ds,vs,h=>by
  obtain⟨u,r,rfl,h1,h2⟩:=h;refine⟨_,_,rfl,?_,Ats.put hd h2⟩
  grind
theorem Ats.putX{K:Frag}{M:Ch->Prop}{H:Hp}{k:Key}{d:D}{v:V}{ks:List Key}{ds:List D}{vs:List V}(hd:At K M H d v)(h:Ats K M H ds vs):Ats K M H (DV ks ds k d) (DV ks vs k v):=by
 unfold DV
 split
 ·exact Ats.put hd h
 ·exact h.append (Ats.one hd)
theorem Rq{α:Type}{ks:List Key}{ds:List α}{k:Key}{d:α}(hl:ks.length=ds.length):(C9 ks k).length=(DV ks ds k d).length:=by
 unfold C9 DV
 grind
theorem Ma:∀{ks:List Key} {ds:List D} {k:Key},k∉ks->BP ks ds k=none
 | [],ds,k,_=>by rfl
 | a::ks,[],k,_=>rfl
 | a::ks,d::ds,k,h=>by
  unfold BP;rw [if_neg (λe=>h (by grind))];exact Ma λz=>h (Sc _ z)
theorem IW:∀{ks:List Key} {ds:List D} {k:Key},ks.length=ds.length->k∈ks->∃z,BP ks ds k=some z
 | [],ds,k,_,h=>by cases h
 | a::ks,[],k,h,_=>by cases h
 | a::ks,d::ds,k,hl,h=>by
  unfold BP
  by_cases e:a=k
  ·simp_all
  ·rw [if_neg e]
   exact IW (by simp_all) ((ZB.mp h).resolve_left λz=>e z.symm)
theorem UU{ks:List Key}{ds:List D}{k:Key}{d:D}(hl:ks.length=ds.length)(j:Key):BP (C9 ks k) (DV ks ds k d) j=if j=k then some d else BP ks ds j:=by
 unfold C9 DV
 by_cases h':LQ ks k=true
 ·have h:=hasK_iff.mp h'
  rw [if_pos h',if_pos h']
  have go:∀(ks:List Key) (ds:List D),ks.length=ds.length->(j=k->k∈ks)->BP ks (f7 (λk0 d0=>if k0=k then d else d0) ks ds) j=if j=k then some d else BP ks ds j:=by
   intro ks
   induction ks with
   | nil =>
    intro ds _ hm
    by_cases e:j=k
    ·exact absurd (hm e) d9
    ·rw [if_neg e]; cases ds <;> rfl
   | cons a ks ih =>
    intro ds hl hm;cases ds with
    | nil=>cases hl
    | cons e ds =>
     show (if a=j then some (if a=k then d else e) else BP ks _ j)=if j=k then some d else if a=j then some e else BP ks ds j
     by_cases e1:a=j
     ·rw [if_pos e1,if_pos e1]
      by_cases e2:j=k
      ·rw [if_pos e2,if_pos (e1.trans e2)]
      ·rw [if_neg e2,if_neg (λz=>e2 (e1.symm.trans z))]
     ·rw [if_neg e1,if_neg e1]
      refine ih ds (by simpa using hl) λz=>(ZB.mp (hm z)).resolve_left λw=>e1 (w.symm.trans z.symm)
  exact go ks ds hl λ_=>h
 ·have h:k∉ks:=λz=>h' (hasK_iff.mpr z)
  rw [if_neg h',if_neg h']
  have go:∀(ks:List Key) (ds:List D),ks.length=ds.length->k∉ks->BP (ks++[k]) (ds++[d]) j=if j=k then some d else BP ks ds j:=by
   intro ks
   induction ks with
   | nil =>
    intro ds hl _;cases ds with
    | nil =>
     show (if k=j then some d else none)=if j=k then some d else none
     by_cases e:j=k
     ·rw [if_pos e,if_pos e.symm]
     ·rw [if_neg e,if_neg (λz=>e z.symm)]
    | cons e ds=>cases hl
   | cons a ks ih =>
    intro ds hl hm;cases ds with
    | nil=>cases hl
    | cons e ds =>
     show (if a=j then some e else BP (ks++[k]) (ds++[d]) j)=if j=k then some d else if a=j then some e else BP ks ds j
     rw [ih ds (by simpa using hl) λz=>hm (Sc _ z)]
     by_cases e1:a=j
     ·rw [if_pos e1,if_pos e1,if_neg (λz=>hm (by rw [← z,← e1]; exact Re))]
     ·rw [if_neg e1,if_neg e1]
  exact go ks ds hl h
section
variable {X:Cx}{a b e:Expr}{κ zU zP:Kd}{wa wb:DW}{pos pos':Pos}
noncomputable def QQ(wk wv:DW):DW:=λn ρ P=>wk n ρ λk n1=>wv n1 ρ λd n2=>∃key,keyOf k=some key/\P (.dic [key] [d]) n2
theorem P0(ha:DE X a zU wa)(hb:DE X b zP wb)(hk:autoParam (zP≠.tp) zau6._auto_1):DE X (.Dict [some a] [b] pos) .fr (QQ wa wb):=by
 obtain⟨t,h1,h2⟩:=ha;obtain⟨u,g1,g2⟩:=hb;refine⟨_,Wy (VA h1 g1 Wu) rfl rfl (fk _ _) (by show 1<=15; decide),λC M H n ρ Z P Q R w q=>λp hp=>?_⟩;have R1:=R.hold (o:=.dK []) hp
 have np:¬C.U p:=λz=>by
  obtain⟨o,w⟩:=R.dom p (R.vM p (R.uV p z));rw [hp] at w; cases w
 refine h2 C _ _ n ρ Z _ _ R1 w λx H2 k n1 e1 f1 r1 p1=>?_;have R2:=R1.step e1 f1;refine g2 C _ _ n1 ρ Z _ _ R2 p1 λy H3 d n2 e2 f2 r2 p2=>?_;obtain⟨key,hkey,p2⟩:=p2;have R3:=R2.step e2 f2;have hat:At X.K (λb=>M b\/b=p) H3 d y:=r2.shOf R2.dom hk;have hp3:H3 p=some (.dK []):=e2.keep (e1.keep Al np) np;have hx:x=kV key:=DX hkey (r1.tpOf R1.dom R1.vM);refine⟨hp3,[(key,y)],by rw [hx]; rfl,by show 1<=15; decide,?_⟩;show Q (.ref p) (BD H3 p (.dK [(key,y)]));refine q _ _ (.dic [key] [d]) n2 (λb o eb=>?_) ?_ ⟨p,rfl,hp,[y],Al,rfl,?_⟩ p2
 ·have nb:b≠p:=A3 eb hp
  obtain⟨o1,z1,k1,t1⟩:=e1 b o (by rw [Ag nb]; exact eb);obtain⟨o2,z2,k2,t2⟩:=e2 b o1 z1;exact⟨o2,by rw [Ag nb]; exact z2,λnu=>(k2 nu).trans (k1 nu),λvs z=>(t2 vs ((t1 vs z).trans z)).trans (t1 vs z)⟩
 ·refine f2.pres ⟨λb o eb nb=>by rw [Ag (λz=>nb (.inr z))]; exact eb,λb z=>.inl (.inl z),λb vs eb=>by rw [Ag (λz=>by rw [z,hp3] at eb; cases eb)]; exact eb⟩ λf o hf eb=>?_
  rw [Ag (λz=>np (by rw [← z]; exact R.fU f hf))];exact eb
 ·exact⟨y,[],rfl,hat.pres (CJ (.inr rfl) hp3),rfl⟩
noncomputable def JH(i:Nat)(wk wv:DW):Ai:=λD2 n ρ=>∃ks ds,ρ[i]?=some (.ow (.dic ks ds))/\wv n ρ λd n1=>wk n1 ρ λk n2=>∃key,keyOf k=some key/\ks.length<sizeLine/\D2.nx n2 (ρ.set i (.ow (.dic (C9 ks key) (DV ks ds key d))))
theorem OM{i k:Nat}{x:d6}(hr:Room k X.A)(hx:PE X x (B3 i))(ha:DE X a zU wa)(hb:DE X b zP wb)(hk:autoParam (zP≠.tp) zau6._auto_1)
  (hs:autoParam (swapsWith b (some (.Subscript x a pos')) pos.line X.env=pure false) zau3._auto_1):DS X κ (.Assign [.Subscript x a pos'] b pos) (JH i wa wb):=by
 obtain⟨t,h1,h2⟩:=ha;obtain⟨u,g1,g2⟩:=hb;refine⟨_,HK (Hc hr) hx h1 g1 hs,λC M H n ρ Z D2 E R L w=>?_⟩;obtain⟨ks,ds,hd,w⟩:=w;refine g2 C M H n ρ Z _ _ R w λv H1 d n1 e1 f1 r1 p=>?_;have R1:=R.step e1 f1;obtain⟨ad,ea,m,nv,tt⟩:=R1.sl i _ hd;refine⟨.ref ad,getD_some ea,?_⟩;refine h2 C M H1 n1 ρ Z _ _ R1 p λy H2 kk n2 e2 f2 r2 p=>?_;obtain⟨key,hkey,hlt,p⟩:=p;have R2:=R1.step e2 f2;obtain⟨ad',ea',m',nv',tt'⟩:=R2.sl i _ hd;rw [ea] at ea';cases ea';obtain⟨vs,hH,hl,hs'⟩:=tt';have hat:At X.K M H2 d v:=(r1.shOf R.dom hk).pres (R1.pres e2);have hvl:ks.length=vs.length:=by rw [hl,hs'.length]
 refine⟨ad,_,rfl,by rw [DX hkey (r2.tpOf R1.dom R1.vM)]; exact DPut.k hH (by rw [iz]; omega),L.nx M _ n2 _ Z (R2.mut (e:=.dic (C9 ks key) (DV ks ds key d)) hd ea ⟨DV ks vs key v,by rw [Al,U6 hvl],Rq hl,(hs'.putX hat).pres (CJ m' hH)⟩) p⟩
noncomputable def Z3:D->Option Bool
 | .lst xs=>some (!xs.isEmpty)
 | .tup xs=>some (!xs.isEmpty)
 | .bl b=>some b
 | .non=>some false
 | _=>none
noncomputable def YS(wa:DW):Jh:=λn ρ P=>wa n ρ λd n1=>∃c,Z3 d=some c/\P c n1
theorem NH{K:Frag}{M:Ch->Prop}{H:Hp}{ds:List D}{vs:List V}(h:Ats K M H ds vs):vs.isEmpty=ds.isEmpty:=by
 have:=h.length
 cases vs <;> cases ds <;> first | rfl | cases this
theorem Ya{U M:Ch->Prop}{H:Hp}{K:Frag}{d:D}{x:V}{c:Bool}(h:AtT K U M H d x)(e:Z3 d=some c):Zl K x H c:=by
 cases d with
 | lst ds=>cases e; obtain⟨a,vs,rfl,_,hq,hs⟩:=h; exact .inl ⟨vs,.inl hq,by rw [NH hs]⟩
 | tup ds=>cases e; obtain⟨a,vs,rfl,hq,hs⟩:=h; exact .inr (.inl ⟨vs,.inl (.inl hq),by rw [NH hs]⟩)
 | bl b=>cases e; rw [h.bl]; exact rfl
 | non=>cases e; rw [h]; exact rfl
 | _=>cases e
theorem ZV(h:DE X e κ wa)(he:autoParam (∀whole,isTrue e X.env whole=(do let v ← whole; standAt e.pos; holding [v] (truthy v))) zau2._auto_1):DT X e (YS wa):=by
 obtain⟨t,h1,h2⟩:=h;refine⟨_,U7 h1 he,λC M H n ρ Z P Q R w q=>?_⟩;refine h2 C M H n ρ Z _ _ R w λv H' d n' e1 f1 r1 p=>?_;obtain⟨c,hc,p⟩:=p;exact⟨c,Ya (r1.tpOf R.dom R.vM) hc,q c H' n' e1 f1 p⟩
noncomputable def C4(neg:Bool)(d e:D)(P:D->Prop):Prop:=e=.non/\P (.bl (if neg then !Vd d else Vd d))
theorem Lm{K:Frag}:FC K .sh (λx y H Q=>y=.non/\Q (.bl (decide (x=.non))) H) (C4 false):=λU M H d e x y P Q dom vM hx hy w q=>by
 obtain⟨rfl,w⟩:=w;exact⟨hy,q _ H _ .refl (by rw [Pn hx]; rfl) w⟩
theorem HA{K:Frag}:FC K .sh (λx y H Q=>y=.non/\Q (.bl (!decide (x=.non))) H) (C4 true):=λU M H d e x y P Q dom vM hx hy w q=>by
 obtain⟨rfl,w⟩:=w;exact⟨hy,q _ H _ .refl (by rw [Pn hx]; rfl) w⟩
variable {apos cpos:Pos}{f:Expr}{κf:Kd}{wf:DW}
noncomputable def Oi(wa wk:DW):DW:=λn ρ P=>wa n ρ λd n1=>∃ks ds,JR d=some (ks,ds)/\wk n1 ρ λk n2=>∃key,keyOf k=some key/\P ((BP ks ds key).getD .non) n2
noncomputable def UP(wa wk wx:DW):DW:=λn ρ P=>wa n ρ λd n1=>∃ks ds,JR d=some (ks,ds)/\wk n1 ρ λk n2=>wx n2 ρ λz n3=>∃key,keyOf k=some key/\P ((BP ks ds key).getD z) n3
theorem US{U M:Ch->Prop}{H:Hp}{K:Frag}{d z:D}{x v:V}{ks:List Key}{ds:List D}{key:Key}(e:JR d=some (ks,ds))(h:AtT K U M H d x)(hz:At K M H z v):∃a o,x=.ref a/\DGet H a (kV key) o/\At K M H ((BP ks ds key).getD z) (o.getD v):=by
 obtain⟨a,vs,rfl,ha,hs⟩:=JA e h;refine⟨a,_,rfl,KA ha,?_⟩;have h:=HH (k:=key) (ks:=ks) hs;cases c:BP ks ds _ with
 | none=>simp_all
 | some y=>rw [c] at h; obtain⟨u,h1,h2⟩:=h; grind
theorem Vi{U M:Ch->Prop}{H:Hp}{K:Frag}{d:D}{x:V}{ks:List Key}{ds:List D}(e:JR d=some (ks,ds))(h:AtT K U M H d x):∃a,x=.ref a/\bd H a:=by
 obtain⟨a,vs,rfl,ha,hs⟩:=JA e h;exact⟨a,rfl,.inl ⟨_,ha⟩⟩
theorem SX{k:Nat}(hr:Room k X.A)(ha:DE X a zU wa)(hb:DE X b zP wb)(m:autoParam (M1 X a "get" apos b cpos) zau9._auto_1):DE X (.Call (.Attribute a "get" apos) [b] [] cpos) .sh (Oi wa wb):=by
 obtain⟨t,h1,h2⟩:=ha;obtain⟨u,g1,g2⟩:=hb;refine⟨_,VJ (Hc hr) h1 g1 m,λC M H n ρ Z P Q R w q=>?_⟩;refine h2 C M H n ρ Z _ _ R w λv H1 d n1 e1 f1 r1 p=>?_;obtain⟨ks,ds,hd,p⟩:=p;have R1:=R.step e1 f1;obtain⟨ad,rfl,hI⟩:=Vi hd (r1.tpOf R.dom R.vM);refine⟨ad,rfl,hI,?_⟩;refine g2 C M H1 n1 ρ Z _ _ R1 p λy H2 kk n2 e2 f2 r2 p=>?_;obtain⟨key,hkey,p⟩:=p;have R2:=R1.step e2 f2;have hat:=(r1.tpOf R.dom R.vM).pres (R1.pres e2) e2 R.uV;obtain⟨ad',o,ex,g,hz⟩:=US (key:=key) hd hat (z:=.non) (v:=.non) rfl;cases ex;exact⟨o,by rw [DX hkey (r2.tpOf R1.dom R1.vM)]; exact g,q _ H2 _ n2 (e1.trans e2) f2 hz p⟩
theorem Xc{k:Nat}(hr:Room k X.A)(ha:DE X a zU wa)(hb:DE X b zP wb)(hf:DE X f κf wf)(hk:autoParam (κf≠.tp) zau6._auto_1)(m:autoParam (M2 X a "get" apos b f cpos) zau9._auto_1):DE X (.Call (.Attribute a "get" apos) [b,f] [] cpos) .sh (UP wa wb wf):=by
 obtain⟨t,h1,h2⟩:=ha;obtain⟨u,g1,g2⟩:=hb;obtain⟨u2,k1,k2⟩:=hf;refine⟨_,VI (Hc hr) h1 g1 k1 m,λC M H n ρ Z P Q R w q=>?_⟩;refine h2 C M H n ρ Z _ _ R w λv H1 d n1 e1 f1 r1 p=>?_;obtain⟨ks,ds,hd,p⟩:=p;have R1:=R.step e1 f1;obtain⟨ad,rfl,hI⟩:=Vi hd (r1.tpOf R.dom R.vM);refine⟨ad,rfl,hI,?_⟩;refine g2 C M H1 n1 ρ Z _ _ R1 p λy H2 kk n2 e2 f2 r2 p=>?_;have R2:=R1.step e2 f2;refine k2 C M H2 n2 ρ Z _ _ R2 p λz H3 dz n3 e3 f3 r3 p=>?_;obtain⟨key,hkey,p⟩:=p;have R3:=R2.step e3 f3;have hat:=((r1.tpOf R.dom R.vM).pres (R1.pres e2) e2 R.uV).pres (R2.pres e3) e3 R.uV;have hy:=(r2.tpOf R1.dom R1.vM).pres (R2.pres e3) e3 R.uV;obtain⟨ad',o,ex,g,hz⟩:=US (key:=key) hd hat (r3.shOf R2.dom hk);cases ex;exact⟨o,by rw [DX hkey hy]; exact g,q _ H3 _ n3 ((e1.trans e2).trans e3) f3 hz p⟩
end
end Dp
namespace L2
open AutoSeq1 (wpAny_loadPart')
theorem Tb:typeLookup (.type "list_reverseiterator") "__len__"=pure none:=by kernel_rfl
theorem Vj:typeLookup (.type "list_reverseiterator") "__length_hint__"=pure (some (.builtin "list_reverseiterator.__length_hint__")):=by kernel_rfl
theorem boot_reversed:bootBuiltins "reversed"=some (.type "reversed"):=by decide +kernel
section
variable {prog:Program}{w:World}{A:Around}{E:Value->Shared->Prop}{s:Shared}{I:Addr}{fp wr:List Addr}{G:Array GenState->Array GenState->Prop}{n:Nat}{P:Nat->Value->Prop}{St:Nat->Shared->Prop}
theorem P4{Q:List Db->On->Prop}
  (W:WalksS prog w A.in1 I fp wr G n P St) (hT:∀i s,St i s->s.TypeIs (.ref I) "list_reverseiterator") (hst:St 0 s) (hfp:∀b∈fp,b<s.heap.objs.size) (hI:I∈fp)
  (hQ:∀s' acc,Moved wr G s s'->ItemsOf P acc n->Q acc.toList s') (hn:n<=sizeLine):wpAny (model prog w) A (collect (.ref I)) Q E s:=by
 have hSf:s.heap.objs.size∉fp:=λhm=>fH _ (hfp _ hm);have hSI:s.heap.objs.size≠I:=λe=>hSf (e▸hI);unfold collect;refine Ev (wpAny_runValue (e_ F.entry_proto_collect ?_));rw [fM F.plain_proto_collect _];show wpAny _ A.in1 (newList [] >>= λl=>again (.builtin "list.__iadd__" ⟨[l,.ref I],[]⟩)) _ _ s;refine Ev (fw ?_);refine T0 ⟨fo F.plain_list_iadd _,e_ F.entry_list_iadd ?_⟩;rw [fM F.plain_list_iadd _];have hst₁:=W.frame 0 s (s.heap.push { cls:=.type "list",data:=.seq ([]:List Db).toArray }) s.toks hst (Op _) λb _ o e=>FM _ e;have hS₁:(s.heap.push { cls:=.type "list",data:=.seq ([]:List Db).toArray }).get? s.heap.objs.size=some { cls:=.type "list",data:=.seq ([]:List Db).toArray }:=UF _ rfl;have h1:jm (.ref s.heap.objs.size) (.ref I)=false:=by simp [jm,hSI]
 show wpAny _ A.in1 (gN (.ref s.heap.objs.size) (.ref I) (.ref s.heap.objs.size)) _ _ _;unfold gN;refine Ev (g0 (hT 0 _ hst₁) ?_);rw [if_neg (by rw [h1]; decide)];refine Ev (W.self 0 _ _ _ hst₁ ?_);refine Ev (fI ?_);unfold Builtin.List.listLengthHint;refine Ev (jt (hT 0 _ hst₁) Tb ?_);show wpAny _ A.in1 (specialOf (eh I) (gK "__length_hint__") >>= _) _ _ _;refine Ev (jt (hT 0 _ hst₁) Vj ?_)
 (generalize hid:("list_reverseiterator.__length_hint__" : String)=id0; wp_delta; rw [show splitId id0=some ("list_reverseiterator","__length_hint__") from by subst hid; decide +kernel]; subst hid)
 refine Ev (wpAny_isInstance (b:=true) (hT 0 _ hst₁) (by rw [isSubtype_type]; kernel_rfl) ?_);refine T0 ?_;rw [if_neg (by decide)];refine T0 ⟨fo F.plain_extend_loop _,codeAny_extend_loopS W hn _ hSf _ n 0 _ _ _ rfl (dY _) hst₁ hS₁ (ItemsOf.nil P) λs' acc' c' hm hS' hacc=>?_⟩;show wpAny _ A (load s.heap.objs.size >>= _) _ _ s';refine Ev (wpAny_load hS' ?_);exact T0 (hQ s' acc' (Moved.drop_new (o:={ cls:=.type "list",data:=.seq ([]:List Db).toArray }) (tk:=s.toks) hm (Op _)) hacc)
theorem Lc{Q₁:Db->On->Prop}(W:WalksS prog w A.in1.in1 I fp wr G n P St)(hT:∀i s,St i s->s.TypeIs (.ref I) "list_reverseiterator")(hst:St 0 s)(hfp:∀b∈fp,b<s.heap.objs.size)(hI:I∈fp)
  (h:∀s' acc,Moved wr G s s'->ItemsOf P acc n->Q₁ (.ref s'.heap.objs.size) { s' with heap:=s'.heap.push { cls:=.type "tuple",data:=.seq acc } }) (hsz:n<=sizeLine) :
  codeAny (model prog w) A (.call (.builtin "tuple.__new__") ⟨[.type "tuple",.ref I],[]⟩) (wants Q₁ E) s:=by
 refine jv ?_;show wpAny _ A.in1 (do checkBuiltinCall "tuple.__new__" ⟨[.type "tuple",.ref I],[]⟩; again (.builtin "tuple.__new__" ⟨[.type "tuple",.ref I],[]⟩)) _ _ s;refine Ev (jy (F.newCall_tuple_1 _) (T0 ⟨fo F.plain_tuple_new _,e_ F.entry_tuple_new ?_⟩));rw [fM F.plain_tuple_new _];have hsub:=sub_tuple_self;have hinit:=init_tuple_lookup;have hmh:=madeHere_tuple;have hTI:=hT 0 s hst
 wp_walk using g0 hTI,P4 (hn:=hsz) W hT hst hfp hI
 intro s' acc hm hacc;show wpAny _ _ (gh acc.toList.toArray >>= λv=>ret v) _ _ _;unfold gh;refine Ev (fw ?_ (by show acc.toList.toArray.size<=sizeLine; simp only [Array.toArray_toList]; rw [hacc.1]; exact hsz));refine T0 ?_;have e:acc.toList.toArray=acc:=by simp
 rw [e];exact h s' acc hm hacc
theorem Lg{Q:Db->On->Prop}(W:WalksS prog w A.in1.in1.in1 I fp wr G n P St)(hT:∀i s,St i s->s.TypeIs (.ref I) "list_reverseiterator")(hst:St 0 s)(hfp:∀b∈fp,b<s.heap.objs.size)(hI:I∈fp)
  (hQ:∀s' acc,Moved wr G s s'->ItemsOf P acc n->Q (.ref s'.heap.objs.size) { s' with heap:=s'.heap.push { cls:=.type "tuple",data:=.seq acc } }) (hsz:n<=sizeLine) :
  wpAny (model prog w) A (call (.type "tuple") [.ref I]) Q E s:=callType_codes (Q₁:=λobj s₁=>s₁.TypeIs obj _/\Q _ _) j_ (F.typeCall_tuple_1 _) F.entry_object_init
  (Lc (hsz:=hsz) W hT hst hfp hI λs' acc hm hacc=>⟨⟨_,UF _ rfl,rfl⟩,hQ s' _ hm hacc⟩) λobj s₁ h₁=>⟨h₁.1,F.args_object_init_2 _ _,object_init_meets j_.init.lookup j_.made (by decide) _ w _ _ _ ⟨h₁.1,rfl,h₁.2⟩⟩
end
section
variable {X:Cx}{e:Expr}{te:TE}{p1 p2 q1 q2:Pos}
noncomputable def Wf(K:Frag)(te:TE):TE:=λZ H Q=>te Z H λx H1=>∃l xs,x=.ref l/\SqL K H1 l xs/\∀r,H1 r=none->Q (.ref r) (BD H1 r (.tup xs.reverse))
theorem TN(hc:X.calm=true)(he:PE X e te)(hg1:Gl X "tuple")(hm1:X.mg "tuple"=none)(hg2:Gl X "reversed")(hm2:X.mg "reversed"=none)(h1:autoParam (starEach [iK (.Name "reversed" p2) [e] [] q2] X.env=[(false,eval (iK (.Name "reversed" p2) [e] [] q2) X.env)]) zau3._auto_1)
  (h2:autoParam (starEach [e] X.env=[(false,eval e X.env)]) zau3._auto_1):PE X (.Call (.Name "tuple" p1) [.Call (.Name "reversed" p2) [e] [] q2] [] q1) (Wf X.K te):=by
 intro zG s Z H Q I h;refine fL (C7 I hg1 hm1 gZ ?_);refine ej ?_ h1 rfl;rw [h1];refine fK ?_;refine fL (C7 I hg2 hm2 boot_reversed ?_);refine ej ?_ h2 rfl;rw [h2];refine fK (thn (he zG s Z H _ I h) λu s1 ⟨x,H1,I1,r1,l,xs,ex,hq,q⟩=>fZ ?_);subst ex;cases r1;obtain⟨its,r',pl,hz⟩:=I1.list hq;have hlen:=r'.length;have hl:s1.heap.IsList l its.toArray:=pl.isList;have hlt:l<s1.heap.objs.size:=by obtain⟨_,e,_⟩:=id hl; exact XV e
 refine call_reversed_list hl (fZ ?_);have hn1:H1 s1.heap.objs.size=none:=I1.fresh;have I2:Inv X zG Z H1 { s1 with heap:=s1.heap.push (revObj l ((its.toArray.size:Int) - 1)) }:=I1.kept (t':=s1.toks) λb o e=>FM _ e;have fpk:IR X zG H1 s1.heap.objs.size:=I1.fpOk (Op _) hn1;refine Lg (s:={ s1 with heap:=s1.heap.push (revObj l ((its.toArray.size:Int) - 1)) }) (kH (A:=X.A.in1.in1.in1) (I1.ok.hd hc) s1.heap.objs.size l (da hlt) its.toArray).toS (λi s' hs=>hs.2.1.typeIs) ⟨dY _,⟨_,UF _ rfl,rfl,by show Data.fields _=_; simp [revObj]⟩,hl.push _⟩ (λb hb=>?_) Re (λs' acc hm hacc=>?_) (by rw [dW,← hlen]; exact hz)
 ·rcases ZB.mp hb with rfl | hb
  ·exact XV (UF _ rfl)
  ·obtain rfl:=TM.mp hb
   exact eI hlt (by show s1.heap.objs.size<=(s1.heap.push _).objs.size; rw [size_push']; exact fm _)
 ·obtain⟨h',g',d',tk',os'⟩:=s'
  have e1:g'=s1.gens:=hm.gens;have e2:d'=s1.drawn:=hm.drawn;have e3:os'=s1.os:=hm.os;subst e1 e2 e3;have I3':=I2.turnedL (h':=h') (t':=tk') (ch:=[s1.heap.objs.size]) (λc hc=>by rw [TM.mp hc]; exact fpk) λb o hb e=>hm.heap b o hb e;have I3:Inv X zG Z H1 { s1 with heap:=h',toks:=tk' }:=I3'
  have hv:acc.toList=its.reverse:=by
   refine List.ext_getElem? λi=>?_;obtain⟨a1,a2⟩:=hacc;have e0:acc.toList[i]?=acc[i]?:=by simp
   rw [e0]
   by_cases hi:i<its.length
   ·have hi2:i<acc.size:=by rw [a1,dW]; exact hi
    have a3:=a2 i acc[i] (iE hi2);rw [kA hi,iE hi2,← a3,dW];simp
   ·rw [j9 (by rw [fP]; omega)]
    exact Array.getElem?_eq_none (by rw [a1,dW]; omega)
  have hv2:acc=its.reverse.toArray:=by rw [← hv]
  have rr:Vals xs.reverse its.reverse:=r'.reverse;refine⟨.ref h'.objs.size,BD H1 h'.objs.size (.tup xs.reverse),I3.laid (t':=tk') (λb o e=>FM _ e) (Op _) (show ObjOk X.prog X.w _ _ _ (.tup xs.reverse) from⟨by rw [fP]; exact hz,its.reverse,rr,by rw [hv2]; exact IsTupN.new _ _⟩),rfl,q _ (I3.hok.fresh (Op _))⟩
end
end L2
namespace Dp
open L2
noncomputable def RZ(wa:DW):DW:=λn ρ P=>wa n ρ λd n1=>∃xs,d=.lst xs/\P (.tup xs.reverse) n1
section
variable {X:Cx}{a:Expr}{zU:Kd}{wa:DW}{p1 p2 q1 q2:Pos}
theorem T6(hc:X.calm=true)(ha:DE X a zU wa)(hg1:Gl X "tuple")(hm1:X.mg "tuple"=none)(hg2:Gl X "reversed")(hm2:X.mg "reversed"=none)(h1:autoParam (starEach [iK (.Name "reversed" p2) [a] [] q2] X.env=[(false,eval (iK (.Name "reversed" p2) [a] [] q2) X.env)]) zau3._auto_1)
  (h2:autoParam (starEach [a] X.env=[(false,eval a X.env)]) zau3._auto_1):DE X (.Call (.Name "tuple" p1) [.Call (.Name "reversed" p2) [a] [] q2] [] q1) .sh (RZ wa):=by
 obtain⟨t,a1,a2⟩:=ha;refine⟨_,TN hc a1 hg1 hm1 hg2 hm2 h1 h2,λC M H n ρ Z P Q R w q=>?_⟩;refine a2 C M H n ρ Z _ _ R w λv H1 d n1 e1 f1 r1 p=>?_;obtain⟨xs,rfl,p⟩:=p;have R1:=R.step e1 f1;obtain⟨ad,vs,rfl,nV,hq,hs⟩:=r1.tpOf R.dom R.vM;refine⟨ad,vs,rfl,.inl hq,λr hr=>?_⟩;have g:Grow H1 (BD H1 r (.tup vs.reverse)):=Av hr;exact q _ _ (.tup _) n1 (e1.trans g.ext) (f1.grow g) (C3 R1.dom hr (hs.reverse)) p
end
end Dp
namespace Nt
open L2 Dp
noncomputable def Ed(N:Net)(x y:Str)(l:Int):Prop:=(y,l)∈EN N.ts x
inductive Wk (N:Net) (s:Str):Str->Int->Prop
 | nil:Wk N s s 0
 | snoc {x y:Str} {d l:Int}:Wk N s x d->Ed N x y l->Wk N s y (d+l)
noncomputable def Least(N:Net)(s x:Str)(d:Int):Prop:=Wk N s x d/\∀d',Wk N s x d'->d<=d'
theorem Ed.pos{N:Net}(ok:N.Ok){x y:Str}{l:Int}(h:Ed N x y l):1<=l/\l<=1000000:=by
 obtain⟨_,h1,h2,_⟩:=OA ok h
 simp_all
theorem Ed.ins{N:Net}(ok:N.Ok){x y:Str}{l:Int}(h:Ed N x y l):y∈N.ps:=(OA ok h).1
theorem Wk.pos{N:Net}(ok:N.Ok){s x:Str}{d:Int}(h:Wk N s x d):0<=d:=by
 induction h with
 | nil=>omega
 | snoc _ he ih=>have:=he.pos ok; omega
theorem Least.unique{N:Net}{s x:Str}{d d':Int}(h:Least N s x d)(h':Least N s x d'):d=d':=by
 have:=h.2 d' h'.1
 have:=h'.2 d h.1
 omega
theorem Hj{N:Net}{s:Str}{F:Str->Option Int}(h0:∃d,F s=some d/\d<=0)(hw:∀x d,F x=some d->Wk N s x d)(hc:∀x d y l,F x=some d->Ed N x y l->∃d',F y=some d'/\d'<=d+l) :
  (∀x d,F x=some d->Least N s x d)/\∀x d,Wk N s x d->F x≠none:=by
 have main:∀x d,Wk N s x d->∃d',F x=some d'/\d'<=d:=by
  intro x d h
  induction h with
  | nil=>exact h0
  | snoc _ he ih =>
   grind
 refine⟨λx d e=>⟨hw x d e,λd' h=>?_⟩,λx d h e=>?_⟩
 ·obtain⟨d1,e1,h1⟩:=main x d' h
  simp_all
 ·obtain⟨d1,e1,_⟩:=main x d h
  grind
theorem OK{N:Net}{t:BL}(ht:t∈N.ts):Ed N t.a t.b t.len/\Ed N t.b t.a t.len:=by
 constructor
 ·exact f9.mpr ⟨t,ht,fV _ (by simp_all)⟩
 ·exact f9.mpr ⟨t,ht,df _ (by simp_all)⟩
theorem Ed.tie{N:Net}(ok:N.Ok){x y:Str}{l:Int}(h:Ed N x y l):∃t∈N.ts,t.len=l/\((t.a=x/\t.b=y)\/(t.b=x/\t.a=y)):=by
 obtain⟨_,_,_,t,ht,e,h⟩:=OA ok h;exact⟨t,ht,e,h⟩
structure Dmap (ks:List Key) (ds:List D) (enc:α->D) (F:Str->Option α):Prop where
 len:ks.length=ds.length
 at_:∀x:Str,BP ks ds (.inr x)=(F x).map enc
 dom:∀k∈ks,∃x:Str,k=.inr x
 nd:ks.Nodup
theorem Dmap.mem{α:Type}{ks:List Key}{ds:List D}{enc:α->D}{F:Str->Option α}(h:Dmap ks ds enc F)(x:Str):(.inr x∈ks)↔F x≠none:=by
 constructor
 ·intro hm e
  obtain⟨z,hz⟩:=IW h.len hm;rw [h.at_,e] at hz;cases hz
 ·intro hn
  by_cases hm:fN x∈ks
  ·exact hm
  ·have:=Ma (ds:=ds) hm
   rw [h.at_] at this
   simp_all
theorem Dmap.one{α:Type}{enc:α->D}{s:Str}{a:α}:Dmap [.inr s] [enc a] enc (λx=>if x=s then some a else none):=by
 refine⟨rfl,λx=>?_,λk hk=>⟨s,TM.mp hk⟩,eF.mpr ⟨d9,fJ⟩⟩;show (if fN s=.inr x then some _ else none)=(if x=s then some a else none).map _
 by_cases e:x=s
 ·simp_all
 ·rw [if_neg e,if_neg (λz=>e (f8 z).symm)]; rfl
noncomputable def IZ{α:Type}(F:Str->Option α)(x:Str)(a:α):Str->Option α:=λy=>if y=x then some a else F y
theorem Bn{α:Type}{F:Str->Option α}{x:Str}{a:α}:IZ F x a x=some a:=if_pos rfl
theorem Bk{α:Type}{F:Str->Option α}{x y:Str}{a:α}(h:y≠x):IZ F x a y=F y:=if_neg h
theorem Dmap.put{α:Type}{ks:List Key}{ds:List D}{enc:α->D}{F:Str->Option α}(h:Dmap ks ds enc F)(x:Str)(a:α):Dmap (C9 ks (.inr x)) (DV ks ds (.inr x) (enc a)) enc (IZ F x a):=by
 refine⟨Rq h.len,λy=>?_,λk hk=>?_,?_⟩
 ·rw [UU h.len]
  unfold IZ
  by_cases e:y=x
  ·rw [if_pos e,if_pos (by rw [e])]; rfl
  ·rw [if_neg e,if_neg (λz=>e (f8 z)),h.at_]
 ·unfold C9 at hk
  split at hk
  ·exact h.dom k hk
  ·rcases d7.mp hk with hk | hk
   ·exact h.dom k hk
   simp_all
 ·unfold C9
  split
  ·exact h.nd
  ·rename_i hn
   rw [fz];refine⟨h.nd,eF.mpr ⟨d9,fJ⟩,λa ha b hb e=>hn (hasK_iff.mpr ?_)⟩
   grind
theorem Dmap.le{α:Type}{ks:List Key}{ds:List D}{enc:α->D}{F:Str->Option α}(h:Dmap ks ds enc F){ps:List Str}(hp:∀x,F x≠none->x∈ps):ks.length<=ps.length:=by
 have:∀(ks:List Key) (ps:List Str),ks.Nodup->(∀k∈ks,∃x:Str,k=.inr x/\x∈ps)->ks.length<=ps.length:=by
  intro ks
  induction ks with
  | nil=>simp_all
  | cons k ks ih =>
   intro ps hn hm;obtain⟨x,rfl,hx⟩:=hm k Re;have hn:=eF.mp hn
   have h1:=ih (ps.erase x) hn.2 λj hj=>by
    obtain⟨y,rfl,hy⟩:=hm j (Sc _ hj)
    grind
   grind
 refine this ks ps h.nd λk hk=>?_;obtain⟨x,rfl⟩:=h.dom k hk;exact⟨x,rfl,hp x ((h.mem x).mp hk)⟩
noncomputable abbrev NO:=Str->Option (Int×Option Str)
structure Dj (N:Net) (s:Str) (F:NO) (Wt:List Str):Prop where
 start:F s=some (0,none)
 ins:∀x,F x≠none->x∈N.ps
 wk:∀x d p,F x=some (d,p)->Wk N s x d
 prev:∀x d p,F x=some (d,p)->(p=none/\x=s)\/∃y dy q l,p=some y/\F y=some (dy,q)/\y∉Wt/\Ed N y x l/\d=dy+l
 wfound:∀x∈Wt,F x≠none
 nd:Wt.Nodup
 done:∀x d p y l,F x=some (d,p)->x∉Wt->Ed N x y l->∃dy q,F y=some (dy,q)/\dy<=d+l
 near:∀x d p y dy q,F x=some (d,p)->x∉Wt->F y=some (dy,q)->y∈Wt->d<=dy
theorem Dj.init{N:Net}{s:Str}(hs:s∈N.ps):Dj N s (λx=>if x=s then some (0,none) else none) [s]:=by
 have iff:∀x d p,(if x=s then some ((0:Int),(none:Option Str)) else none)=some (d,p)->x=s/\d=0/\p=none:=λx d p e=>by
  grind
 refine⟨if_pos rfl,λx e=>?_,λx d p e=>?_,λx d p e=>?_,λx hx=>?_,eF.mpr ⟨d9,fJ⟩,λx d p y l e hx=>?_,λx d p y dy q e hx=>?_⟩
 ·grind
 ·obtain⟨rfl,rfl,rfl⟩:=iff x d p e
  exact .nil
 ·obtain⟨rfl,rfl,rfl⟩:=iff x d p e
  exact .inl ⟨rfl,rfl⟩
 ·simp_all
 ·exact absurd (TM.mpr (iff x d p e).1) hx
 ·exact absurd (TM.mpr (iff x d p e).1) hx
structure Dm (N:Net) (s:Str) (F:NO) (Wt:List Str) (v:Str) (dv:Int) (seen:List (Str×Int)):Prop where
 start:F s=some (0,none)
 ins:∀x,F x≠none->x∈N.ps
 wk:∀x d p,F x=some (d,p)->Wk N s x d
 prev:∀x d p,F x=some (d,p)->(p=none/\x=s)\/∃y dy q l,p=some y/\F y=some (dy,q)/\y∉Wt/\Ed N y x l/\d=dy+l
 wfound:∀x∈Wt,F x≠none
 nd:Wt.Nodup
 done:∀x d p y l,F x=some (d,p)->x∉Wt->x≠v->Ed N x y l->∃dy q,F y=some (dy,q)/\dy<=d+l
 near:∀x d p y dy q,F x=some (d,p)->x∉Wt->F y=some (dy,q)->y∈Wt->d<=dy
 here:∃p,F v=some (dv,p)
 out:v∉Wt
 least:∀x d p,F x=some (d,p)->x∉Wt->d<=dv
 gone:∀y l,(y,l)∈seen->∃dy q,F y=some (dy,q)/\dy<=dv+l
theorem Dj.take{N:Net}{s:Str}{F:NO}{Wt:List Str}(h:Dj N s F Wt){v:Str}{dv:Int}{p:Option Str}(hv:v∈Wt)(e:F v=some (dv,p))(hmin:∀y∈Wt,∀dy q,F y=some (dy,q)->dv<=dy):Dm N s F (Wt.erase v) v dv []:=by
 have sub:∀x,x∈Wt.erase v->x∈Wt:=λx hx=>List.mem_of_mem_erase hx;have out:v∉Wt.erase v:=λz=>(h.nd.mem_erase_iff.mp z).1 rfl
 have back:∀x,x∉Wt.erase v->x=v\/x∉Wt:=λx hx=>by
  grind
 refine⟨h.start,h.ins,h.wk,λx d q ex=>?_,λx hx=>h.wfound x (sub x hx),h.nd.erase v,λx d q y l ex hx nx he=>?_,λx d q y dy q2 ex hx ey hy=>?_,⟨p,e⟩,out,λx d q ex hx=>?_,λy l hy=>by cases hy⟩
 ·rcases h.prev x d q ex with z | ⟨y,dy,q2,l,e1,e2,e3,e4,e5⟩
  ·exact .inl z
  ·exact .inr ⟨y,dy,q2,l,e1,e2,λz=>e3 (sub y z),e4,e5⟩
 ·rcases back x hx with z | z
  ·exact absurd z nx
  ·exact h.done x d q y l ex z he
 ·rcases back x hx with z | z
  ·subst z
   rw [e] at ex;cases ex;exact hmin y (sub y hy) dy q2 ey
  ·exact h.near x d q y dy q2 ex z ey (sub y hy)
 ·rcases back x hx with z | z
  ·grind
  ·exact h.near x d q v dv p ex z e hv
theorem Dm.finish{N:Net}{s:Str}{F:NO}{Wt:List Str}{v:Str}{dv:Int}{seen:List (Str×Int)}(h:Dm N s F Wt v dv seen)(hs:∀y l,Ed N v y l->(y,l)∈seen):Dj N s F Wt:=by
 refine⟨h.start,h.ins,h.wk,h.prev,h.wfound,h.nd,λx d p y l e hx he=>?_,h.near⟩
 by_cases z:x=v
 ·subst z
  obtain⟨p',e'⟩:=h.here;rw [e'] at e;cases e;exact h.gone y l (hs y l he)
 ·exact h.done x d p y l e hx z he
theorem Dm.find{N:Net}(ok:N.Ok){s:Str}{F:NO}{Wt:List Str}{v:Str}{dv:Int}{seen:List (Str×Int)}(h:Dm N s F Wt v dv seen){y:Str}{l:Int}(he:Ed N v y l)(hy:F y=none):Dm N s (IZ F y (dv+l,some v)) (Wt++[y]) v dv (seen++[(y,l)]):=by
 have hpos:=(he.pos ok).1;obtain⟨pv,ev⟩:=h.here;have ne:∀x d p,F x=some (d,p)->x≠y:=λx d p e z=>by rw [z,hy] at e; cases e
 have keep:∀x d p,F x=some (d,p)->IZ F y (dv+l,some v) x=some (d,p):=λx d p e=>by rw [Bk (ne x d p e)]; exact e
 have yW:y∉Wt:=λz=>h.wfound y z hy
 have cases_:∀x d p,IZ F y (dv+l,some v) x=some (d,p)->(x=y/\d=dv+l/\p=some v)\/(x≠y/\F x=some (d,p)):=λx d p e=>by
  by_cases z:x=y
  ·rw [z,Bn] at e; cases e; exact .inl ⟨z,rfl,rfl⟩
  ·rw [Bk z] at e; exact .inr ⟨z,e⟩
 have inW:∀x,x∉Wt++[y]->x∉Wt/\x≠y:=λx hx=>⟨λz=>hx (fV _ z),λz=>hx (df _ (by rw [z]; exact TM.mpr rfl))⟩
 have vW:v∉Wt++[y]:=λz=>by
  rcases d7.mp z with z | z
  ·exact h.out z
  ·exact ne v dv pv ev (TM.mp z)
 refine⟨keep _ _ _ h.start,λx hx=>?_,λx d p e=>?_,λx d p e=>?_,λx hx=>?_,?_,λx d p z l2 e hx nx he2=>?_,λx d p z dz q e hx ez hz=>?_,⟨pv,keep _ _ _ ev⟩,vW,λx d p e hx=>?_,λz l2 hz=>?_⟩
 ·by_cases z:x=y
  ·rw [z]; exact he.ins ok
  ·rw [Bk z] at hx; exact h.ins x hx
 ·rcases cases_ x d p e with ⟨rfl,rfl,_⟩ | ⟨_,e⟩
  ·exact .snoc (h.wk v dv pv ev) he
  ·exact h.wk x d p e
 ·rcases cases_ x d p e with ⟨rfl,rfl,rfl⟩ | ⟨_,e⟩
  ·exact .inr ⟨v,dv,pv,l,rfl,keep _ _ _ ev,vW,he,rfl⟩
  ·rcases h.prev x d p e with z | ⟨u,du,q,l2,e1,e2,e3,e4,e5⟩
   ·exact .inl z
   ·refine .inr ⟨u,du,q,l2,e1,keep _ _ _ e2,λz=>?_,e4,e5⟩
    rcases d7.mp z with z | z
    ·exact e3 z
    ·exact ne u du q e2 (TM.mp z)
 ·rcases d7.mp hx with hx | hx
  ·have:=h.wfound x hx
   cases e:F x with
   | none=>exact absurd e this
   | some a=>rw [keep x a.1 a.2 e]; intro z; cases z
  ·rw [TM.mp hx,Bn]; intro z; cases z
 ·rw [fz]
  exact⟨h.nd,eF.mpr ⟨d9,fJ⟩,λa ha b hb e=>yW (by rw [← TM.mp hb,← e]; exact ha)⟩
 ·obtain⟨w1,w2⟩:=inW x hx
  rcases cases_ x d p e with ⟨z,_⟩ | ⟨_,e⟩
  ·exact absurd z w2
  ·obtain⟨d3,q3,e3,h3⟩:=h.done x d p z l2 e w1 nx he2
   exact⟨d3,q3,keep _ _ _ e3,h3⟩
 ·obtain⟨w1,w2⟩:=inW x hx
  rcases cases_ x d p e with ⟨z,_⟩ | ⟨_,ex⟩
  ·exact absurd z w2
  ·rcases cases_ z dz q ez with ⟨_,e2,_⟩ | ⟨nz,ez⟩
   ·have:=h.least x d p ex w1
    omega
   ·rcases d7.mp hz with hz | hz
    ·exact h.near x d p z dz q ex w1 ez hz
    ·exact absurd (TM.mp hz) nz
 ·obtain⟨w1,w2⟩:=inW x hx
  rcases cases_ x d p e with ⟨z,_⟩ | ⟨_,e⟩
  ·exact absurd z w2
  ·exact h.least x d p e w1
 ·rcases d7.mp hz with hz | hz
  ·obtain⟨d3,q3,e3,h3⟩:=h.gone z l2 hz
   exact⟨d3,q3,keep _ _ _ e3,h3⟩
  ·cases TM.mp hz
   exact⟨_,_,Bn,h_ _⟩
theorem Dm.nearer{N:Net}(ok:N.Ok){s:Str}{F:NO}{Wt:List Str}{v:Str}{dv:Int}{seen:List (Str×Int)}(h:Dm N s F Wt v dv seen){y:Str}{l dy:Int}{qy:Option Str}(he:Ed N v y l)(hy:F y=some (dy,qy))(hlt:dv+l<dy):Dm N s (IZ F y (dv+l,some v)) Wt v dv (seen++[(y,l)]):=by
 have hpos:=(he.pos ok).1;obtain⟨pv,ev⟩:=h.here
 have yW:y∈Wt:=by
  by_cases z:y∈Wt
  ·exact z
  ·have:=h.least y dy qy hy z
   omega
 have vy:v≠y:=λz=>h.out (by rw [z]; exact yW);have keep:∀x,x∉Wt->IZ F y (dv+l,some v) x=F x:=λx hx=>Bk λz=>hx (by rw [z]; exact yW)
 have cases_:∀x d p,IZ F y (dv+l,some v) x=some (d,p)->(x=y/\d=dv+l/\p=some v)\/(x≠y/\F x=some (d,p)):=λx d p e=>by
  by_cases z:x=y
  ·rw [z,Bn] at e; cases e; exact .inl ⟨z,rfl,rfl⟩
  ·rw [Bk z] at e; exact .inr ⟨z,e⟩
 have less:∀x d p,F x=some (d,p)->∃d' q,IZ F y (dv+l,some v) x=some (d',q)/\d'<=d:=λx d p e=>by
  by_cases z:x=y
  ·subst z
   rw [hy] at e;cases e;exact⟨_,_,Bn,by omega⟩
  ·exact⟨d,p,by rw [Bk z]; exact e,h_ _⟩
 have sy:s≠y:=λz=>by
  have:=h.start
  rw [z,hy] at this;cases this
  have:=(h.wk v dv pv ev).pos ok
  omega
 refine⟨by rw [Bk sy]; exact h.start,λx hx=>?_,λx d p e=>?_,λx d p e=>?_,λx hx=>?_,h.nd,λx d p z l2 e hx nx he2=>?_,λx d p z dz q e hx ez hz=>?_,⟨pv,by rw [Bk vy]; exact ev⟩,h.out,λx d p e hx=>?_,λz l2 hz=>?_⟩
 ·by_cases z:x=y
  ·rw [z]; exact he.ins ok
  ·rw [Bk z] at hx; exact h.ins x hx
 ·rcases cases_ x d p e with ⟨rfl,rfl,_⟩ | ⟨_,e⟩
  ·exact .snoc (h.wk v dv pv ev) he
  ·exact h.wk x d p e
 ·rcases cases_ x d p e with ⟨rfl,rfl,rfl⟩ | ⟨_,e⟩
  ·exact .inr ⟨v,dv,pv,l,rfl,by rw [Bk vy]; exact ev,h.out,he,rfl⟩
  ·rcases h.prev x d p e with z | ⟨u,du,q,l2,e1,e2,e3,e4,e5⟩
   ·exact .inl z
   ·exact .inr ⟨u,du,q,l2,e1,by rw [keep u e3]; exact e2,e3,e4,e5⟩
 ·by_cases z:x=y
  ·rw [z,Bn]; intro w; cases w
  ·rw [Bk z]; exact h.wfound x hx
 ·rw [keep x hx] at e
  obtain⟨d3,q3,e3,h3⟩:=h.done x d p z l2 e hx nx he2;obtain⟨d4,q4,e4,h4⟩:=less z d3 q3 e3;exact⟨d4,q4,e4,by omega⟩
 ·rw [keep x hx] at e
  rcases cases_ z dz q ez with ⟨rfl,rfl,_⟩ | ⟨nz,ez⟩
  ·have:=h.least x d p e hx
   omega
  ·exact h.near x d p z dz q e hx ez hz
 ·rw [keep x hx] at e
  exact h.least x d p e hx
 ·rcases d7.mp hz with hz | hz
  ·obtain⟨d3,q3,e3,h3⟩:=h.gone z l2 hz
   obtain⟨d4,q4,e4,h4⟩:=less z d3 q3 e3;exact⟨d4,q4,e4,by omega⟩
  ·cases TM.mp hz
   exact⟨_,_,Bn,h_ _⟩
theorem Dm.skip{N:Net}{s:Str}{F:NO}{Wt:List Str}{v:Str}{dv:Int}{seen:List (Str×Int)}(h:Dm N s F Wt v dv seen){y:Str}{l dy:Int}{qy:Option Str}(hy:F y=some (dy,qy))(hle:dy<=dv+l):Dm N s F Wt v dv (seen++[(y,l)]):=by
 refine⟨h.start,h.ins,h.wk,h.prev,h.wfound,h.nd,h.done,h.near,h.here,h.out,h.least,λz l2 hz=>?_⟩
 rcases d7.mp hz with hz | hz
 ·exact h.gone z l2 hz
 simp_all
structure Told (N:Net) (s:Str) (F:NO):Prop where
 start:F s=some (0,none)
 ins:∀x,F x≠none->x∈N.ps
 least:∀x d p,F x=some (d,p)->Least N s x d
 all:∀x d,Wk N s x d->F x≠none
 prev:∀x d p,F x=some (d,p)->(p=none/\x=s)\/∃y dy q l,p=some y/\F y=some (dy,q)/\Ed N y x l/\d=dy+l
theorem Dj.told{N:Net}{s:Str}{F:NO}(h:Dj N s F []):Told N s F:=by
 have cl:=Hj (N:=N) (s:=s) (F:=λx=>(F x).map (·.1)) ⟨0,by rw [h.start]; rfl,h_ _⟩ (λx d e=>by
  obtain⟨⟨d',p⟩,e1,e2⟩:=eT.mp e;cases e2;exact h.wk x _ p e1) (λx d y l e he=>by
  obtain⟨⟨d',p⟩,e1,e2⟩:=eT.mp e;cases e2;obtain⟨dy,q,e3,h3⟩:=h.done x _ p y l e1 d9 he;exact⟨dy,by rw [e3]; rfl,h3⟩)
 refine⟨h.start,h.ins,λx d p e=>cl.1 x d (by rw [e]; rfl),λx d hw e=>cl.2 x d hw (by rw [e]; rfl),λx d p e=>?_⟩
 rcases h.prev x d p e with z | ⟨y,dy,q,l,e1,e2,_,e4,e5⟩
 ·exact .inl z
 simp_all
noncomputable abbrev Kn:=Str->Option Int
structure Bf (N:Net) (s:Str) (c:Nat) (K:Kn):Prop where
 start:∃d,K s=some d/\d<=0
 ins:∀x,K x≠none->x∈N.ps
 wk:∀x d,K x=some d->Wk N s x d
 top:∀x d,K x=some d->d<=1000000*(c:Int)
noncomputable def big:Nat:=27000001
noncomputable def wt(K:Kn)(x:Str):Nat:=match K x with
 | some d=>d.toNat
 | none=>big
noncomputable def UL(ps:List Str)(K:Kn):Nat:=(ps.map (wt K)).sum
theorem Ue{f g:Str->Nat}:∀{ps:List Str},(∀x∈ps,f x<=g x)->(ps.map f).sum<=(ps.map g).sum
 | [],_=>Op _
 | x::ps,h=>by
  have h2:=Ue λy hy=>h y (Sc _ hy)
  grind
theorem Ud{f g:Str->Nat}:∀{ps:List Str},(∀x∈ps,f x<=g x)->(∃x∈ps,f x<g x)->(ps.map f).sum<(ps.map g).sum
 | [],_,⟨x,hx,_⟩=>by cases hx
 | x::ps,h,⟨y,hy,hl⟩=>by
  have h1:=h x Re;rw [eR,eR,List.sum_cons,List.sum_cons]
  rcases ZB.mp hy with rfl | hy
  ·have h2:=Ue λy hy=>h y (Sc _ hy)
   omega
  ·have h2:=Ud (λy hy=>h y (Sc _ hy)) ⟨y,hy,hl⟩
   omega
theorem Bf.put {N : Net} (ok : N.Ok) {s : Str} {c c' : Nat} {K : Kn} (h : Bf N s c K) (hc : c' ≤ 26) (hcc : c ≤ c') {x y : Str} {d l : Int} (hx : K x = some d) (he : Ed N x y l) (hn : K y = none → c' = c + 1) (hl : ∀ d', K y = some d' → d + l < d') : Bf N s c' (IZ K y (d + l)) ∧ UL N.ps (IZ K y (d + l)) < UL N.ps K := by
  have hp := he.pos ok;have hd := (h.wk x d hx).pos ok;have hw : Wk N s y (d + l) := .snoc (h.wk x d hx) he;have td := h.top x d hx
  have ht : d + l ≤ 1000000 * (c' : Int) := by
    cases e : K y with
    | none => rw [hn e]; have : ((c + 1 : Nat) : Int) = (c : Int) + 1 := by omega
              rw [this, Int.mul_add]; omega
    | some d' =>
      have h1 := hl d' e;have h2 := h.top y d' e;have : (1000000 : Int) * (c : Int) ≤ 1000000 * (c' : Int) := gw (by omega) (by omega);omega
  refine ⟨⟨?_, λz hz => ?_, λz dz e => ?_, λz dz e => ?_⟩, Ud (λz _ => ?_) ⟨y, he.ins ok, ?_⟩⟩
  · obtain ⟨d0, e0, h0⟩ := h.start
    by_cases z : s = y
    · have := hl d0 (by rw [← z]; exact e0)
      omega
    · exact ⟨d0, by rw [Bk z]; exact e0, h0⟩
  · by_cases e : z = y
    · rw [e]; exact he.ins ok
    · rw [Bk e] at hz; exact h.ins z hz
  · by_cases w : z = y
    · rw [w, Bn] at e; cases e; rw [w]; exact hw
    · rw [Bk w] at e; exact h.wk z dz e
  · by_cases w : z = y
    · rw [w, Bn] at e; cases e; exact ht
    · rw [Bk w] at e
      have h2 := h.top z dz e;have : (1000000 : Int) * (c : Int) ≤ 1000000 * (c' : Int) := gw (by omega) (by omega);omega
  · unfold wt
    by_cases w : z = y
    · rw [w, Bn]
      cases e : K y with
      | none => show (d + l).toNat ≤ big; unfold big; omega
      | some d' => show (d + l).toNat ≤ d'.toNat; have := hl d' e; omega
    · rw [Bk w]
      exact Op _
  · unfold wt
    rw [Bn];cases e : K y with
    | none => show (d + l).toNat < big; unfold big; omega
    | some d' => show (d + l).toNat < d'.toNat; have := hl d' e; omega
theorem Bf.init{N:Net}{s:Str}(hs:s∈N.ps):Bf N s 1 (λx=>if x=s then some 0 else none):=by
 have iff:∀x d,(if x=s then some (0:Int) else none)=some d->x=s/\d=0:=λx d e=>by
  grind
 refine⟨⟨0,if_pos rfl,h_ _⟩,λx e=>by grind,λx d e=>?_,λx d e=>?_⟩
 ·obtain⟨rfl,rfl⟩:=iff x d e
  exact .nil
 ·obtain⟨rfl,rfl⟩:=iff x d e
  decide
noncomputable def KY(K:Kn)(e:Str×Str×Int):Prop:=∀d,K e.1=some d->∃d',K e.2.1=some d'/\d'<=d+e.2.2
structure LTold (N:Net) (s:Str) (K:Kn):Prop where
 ins:∀x,K x≠none->x∈N.ps
 least:∀x d,K x=some d->Least N s x d
 all:∀x d,Wk N s x d->K x≠none
 top:∀x d,K x=some d->d<=30000000
theorem Bf.told{N:Net}(ok:N.Ok){s:Str}{c:Nat}{K:Kn}(h:Bf N s c K)(hc:c<=26)(ht:∀t∈N.ts,KY K (t.a,t.b,t.len)/\KY K (t.b,t.a,t.len)):LTold N s K:=by
 have cl:=Hj h.start h.wk (λx d y l e he=>by
  obtain⟨t,hm,e1,h2⟩:=he.tie ok;subst e1
  rcases h2 with ⟨rfl,rfl⟩ | ⟨rfl,rfl⟩
  ·exact(ht t hm).1 d e
  ·exact(ht t hm).2 d e)
 exact⟨h.ins,cl.1,cl.2,λx d e=>by have:=h.top x d e; omega⟩
noncomputable def walk(N:Net):List Str->Int->Prop
 | [],_=>False
 | [_],d=>d=0
 | x::y::r,d=>∃l e,Ed N x y l/\walk N (y::r) e/\d=l+e
theorem Sw{N:Net}{x y:Str}{r:List Str}{d l:Int}(he:Ed N x y l)(h:walk N (y::r) d):walk N (x::y::r) (l+d):=⟨l,d,he,h,rfl⟩
noncomputable def Far(N:Net)(a b:Str):Option Int->Prop
 | some d=>Least N a b d
 | none=>∀d,¬Wk N a b d
theorem Far.unique{N:Net}{a b:Str}{o o':Option Int}(h:Far N a b o)(h':Far N a b o'):o=o':=by
 cases o with
 | none =>
  cases o' with
  | none=>rfl
  | some d=>exact absurd (h'.1) (h d)
 | some d =>
  cases o' with
  | none=>exact absurd (h.1) (h' d)
  | some d'=>rw [Least.unique (h) h']
theorem Told.far{N:Net}{s:Str}{F:NO}(h:Told N s F)(x:Str):Far N s x ((F x).map (·.1)):=by
 cases e:F x with
 | none=>exact λd hw=>h.all x d hw e
 | some a=>exact h.least x _ _ e
theorem LTold.far{N:Net}{s:Str}{K:Kn}(h:LTold N s K)(x:Str):Far N s x (K x):=by
 cases e:K x with
 | none=>exact λd hw=>h.all x d hw e
 | some d=>exact h.least x d e
noncomputable def Way(N:Net)(a b:Str)(o:Option (List Str)):Prop:=match o with
 | some w=>∃d r,w=a::r/\w.getLast?=some b/\walk N w d/\Least N a b d/\w.length<=30/\∀x∈w,x∈N.ps
 | none=>∀d,¬Wk N a b d
noncomputable def aa:Option Str->D
 | some y=>.str y
 | none=>.non
noncomputable def HP:Option Int->D
 | some y=>.int y
 | none=>.non
noncomputable def b_:Option (List Str)->D
 | some w=>.tup (w.map .str)
 | none=>.non
noncomputable def I_(p:Int×Option Str):D:=.tup [.int p.1,aa p.2]
noncomputable def okN(N:Net):Prop:=N.Ok/\N.ps.length<=25/\N.ts.length<=60
noncomputable def Sq:W2:=λss n P=>∃(Wt:List Str) (ks:List Key) (ds:List D) (F:NO),ss=[.br (.lst (Wt.map .str)),.br (.dic ks ds)]/\Dmap ks ds I_ F/\(∀x∈Wt,F x≠none)/\Wt≠[]/\Wt.length<=100 /\
 ∀v∈Wt,(∀y∈Wt,∀dv pv dy py,F v=some (dv,pv)->F y=some (dy,py)->dv<=dy)->P (.str v) n
noncomputable def HF:W2:=λss n P=>∃(N:Net) (s:Str),ss=[.sh (enc N),.sh (.str s)]/\okN N/\s∈N.ps/\∀(ks:List Key) (ds:List D) (F:NO),Dmap ks ds I_ F->Told N s F->P (.dic ks ds) n
noncomputable def Od:W2:=λss n P=>∃(N:Net) (a b:Str),ss=[.sh (enc N),.sh (.str a),.sh (.str b)]/\okN N/\a∈N.ps/\b∈N.ps/\∀o,Far N a b o->P (HP o) n
noncomputable def WM:W2:=λss n P=>∃(N:Net) (a b:Str),ss=[.sh (enc N),.sh (.str a),.sh (.str b)]/\okN N/\a∈N.ps/\b∈N.ps/\∀o,Way N a b o->P (b_ o) n
noncomputable def Hm:Ai:=(Am (Aa Ar (Bs X_ (AE (BS [some 1,none] (A1 (A7 0)) (AR 1) Cf (BE (AE (Aa Ar (Aa CC (A7 0) (AB 1)) (wC (D.int 0))) (AE (AB 1) AY)))) AY)) (wC (D.int 1))))
noncomputable def Ho:Ai:=(Af (A0 2 (AU Oa (AC (AD (AB 0)) AV)))
 (Af (FD 3 (QQ (AB 1) (BE (AE (wC (D.int 0)) (AE (wC D.non) AY)))))
 (Af (FD 4 (DL (AE (AB 1) AY)))
 (Af (KQ (YS (A7 4)) (Af (A0 5 (AU Sq (AC (Ec (A7 4)) (AC (Ec (A7 3)) AV))))
 (Af (WU 4 "list" aw (AE (AB 5) AY))
 (Cj (wItems (Aa CC (AB 2) (AB 5))) (Bi 2 (AX (AR 6) (AX (AR 7) BB))) (Af (A0 8 (Aa B0 (Aa Ar (Aa CC (A7 3) (AB 5)) (wC (D.int 0))) (AB 7)))
 (A2 (AS (Aa (Jw true) (AB 6) (A7 3))) (Af (WU 4 "list" RC (AE (AB 6) AY))
 (JH 3 (AB 6) (BE (AE (AB 8) (AE (AB 5) AY))))) (A2 (AS (Aa E3 (AB 8) (Aa Ar (Aa CC (A7 3) (AB 6)) (wC (D.int 0))))) (JH 3 (AB 6) (BE (AE (AB 8) (AE (AB 5) AY)))) Ap)))))))
 (Oh 3)))))
noncomputable def YG:Ai:=(Af (A0 3 (AU HF (AC (AD (AB 0)) (AC (AD (AB 1)) AV))))
 (Am (bh (AS (Aa (Jw false) (AB 2) (AB 3))) (Aa Ar (Aa CC (AB 3) (AB 2)) (wC (D.int 0))) (wC D.non))))
noncomputable def P8:Ai:=(Af (A0 3 (AU HF (AC (AD (AB 0)) (AC (AD (AB 1)) AV))))
 (Af (A2 (AS (Aa (Jw true) (AB 2) (AB 3))) (Am (wC D.non)) Ap)
 (Af (FD 4 (DL AY))
 (Af (A0 5 (AB 2))
 (Af (KQ (AS (Aa (C4 true) (AB 5) (wC D.non))) (Af (WU 4 "list" RC (AE (AB 5) AY))
 (A0 5 (Aa Ar (Aa CC (AB 3) (AB 5)) (wC (D.int 1))))))
 (Am (RZ (A7 4))))))))
theorem cS{i j:Int}{x y:Str}(h:BX [.inl j,.inr y] [.inl i,.inr x]=false):i<=j:=by
 have h:(if iM j=.inl i then (if fN y=.inr x then false else decide _) else decide _)=false:=h
 grind
section
variable {ss:List Slot}{n:Nat}{Pd:D->Nat->Prop}
theorem MA(h:Sq ss n Pd):Hm (EE Pd) n (ss++Tk 0 .no):=by
 obtain⟨Wt,ks,ds,F,rfl,M,hF,hne,hl,p⟩:=h;unfold Hm;refine⟨by show (Wt.map D.str).length<=10000000; rw [Go]; omega,?_⟩
 have dist:∀x∈Wt,∃d q,F x=some (d,q):=λx hx=>by
  cases e:F x with
  | none=>exact absurd e (hF x hx)
  | some a=>exact⟨a.1,a.2,rfl⟩
 refine BC (λd=>match d with | .str x=>.tup [.int ((F x).getD (0,none)).1,.str x] | d=>d) (λρ=>∃s,ρ=[.br (.dic ks ds),s]) _ _ _ _ ?_ ⟨_,rfl⟩ ?_
 ·rintro d hd ρ m nx ⟨s,rfl⟩ hnx
  obtain⟨x,hx,rfl⟩:=Rs.mp hd;obtain⟨dx,q,ex⟩:=dist x hx;refine⟨ks,ds,_,I_ (dx,q),rfl,rfl,by rw [M.at_,ex]; rfl,_,AJ (j:=0) rfl,(by decide:2<=sizeLine),?_⟩
  grind
 rw [d8,fQ];refine⟨_,rfl,?_,⟨λx hx=>?_,λx hx y hy ka kb ea eb=>?_⟩,λx hx hmin=>?_⟩
 ·rw [Go]
  cases Wt with
  | nil=>exact absurd rfl hne
  | cons a r=>exact Nat.succ_pos _
 ·obtain⟨z,_,rfl⟩:=Rs.mp hx
  exact⟨_,rfl,fk _ _⟩
 ·obtain⟨z,_,rfl⟩:=Rs.mp hx
  obtain⟨u,_,rfl⟩:=Rs.mp hy;cases (show some [iM _,fN _]=some ka from ea);cases (show some [iM _,fN _]=some kb from eb);rfl
 ·obtain⟨v,hv,rfl⟩:=Rs.mp hx
  refine⟨_,AJ (j:=1) rfl,p v hv λy hy dv pv dy py ev ey=>?_⟩
  have:=cS (hmin _ (Rs.mpr ⟨y,hy,rfl⟩) _ _ rfl rfl)
  rw [ev,ey] at this;exact this
theorem A_(x:Str):keyOf (.str x)=some (.inr x):=rfl
theorem Tf{N:Net}(ok:N.Ok){xs:List Str}(h:∀x∈xs,x∈N.ps):CY (.lst (xs.map .str)):=Iu λd hd=>by
  obtain⟨x,hx,rfl⟩:=Rs.mp hd;exact DK (ok.names x (h x hx))
theorem QN{N:Net}{Wt:List Str}(hn:Wt.Nodup)(h:∀x∈Wt,x∈N.ps):Wt.length<=N.ps.length:=by
 have:∀(xs ps:List Str),xs.Nodup->(∀x∈xs,x∈ps)->xs.length<=ps.length:=by
  intro xs
  induction xs with
  | nil=>grind
  | cons x xs ih =>
   intro ps hn hm;have hx:=hm x Re;have hn:=eF.mp hn;have h1:=ih (ps.erase x) hn.2 λj hj=>(List.mem_erase_of_ne λe=>hn.1 (by simp_all)).mpr (hm j (Sc _ hj))
   grind
 simp_all
theorem K3(ks:List Key)(k:Key):(C9 ks k).length=if LQ ks k=true then ks.length else ks.length+1:=by
 unfold C9
 split
 ·rfl
 simp_all
theorem Dmap.has{α:Type}{ks:List Key}{ds:List D}{enc:α->D}{F:Str->Option α}(h:Dmap ks ds enc F){x:Str}:(F x=none->LQ ks (.inr x)=false)/\(F x≠none->LQ ks (.inr x)=true):=by
 constructor
 ·intro e
  cases c:LQ ks _ with
  | false=>rfl
  | true=>exact absurd e ((h.mem x).mp (hasK_iff.mp c))
 ·intro e
  exact hasK_iff.mpr ((h.mem x).mpr e)
theorem S2{N:Net}{x:Str}(hx:x∈N.ps):BP (N.ps.map .inr) (N.ps.map (WV N.ts)) (.inr x)=some (WV N.ts x):=by
 have go:∀ps:List _,x∈ps->BP (ps.map .inr) (ps.map (WV N.ts)) (.inr x)=some (WV N.ts x):=by
  intro ps
  induction ps with
  | nil=>grind
  | cons q ps ih =>
   intro h;show (if fN q=.inr x then some _ else BP _ _ _)=_
   by_cases e:q=x
   ·grind
   ·rw [if_neg (λz=>e (f8 z))]
    exact ih ((ZB.mp h).resolve_left λz=>e z.symm)
 simp_all
theorem WW(l:List (Str×Int)):Dz ((l.map λx=>(.inr x.1:Key)).map Zw) (l.map λx=>.int x.2)=l.map cF:=by
 induction l with
 | nil=>rfl
 | cons p l ih =>
  show D.tup _::Dz _ _=cF p::l.map _;rw [← ih];rfl
theorem MB(h:HF ss n Pd):Ho (EF Pd) n (ss++Tk 7 .no):=by
 obtain⟨N,s,rfl,⟨ok,lp,lt⟩,hs,p⟩:=h;have szl:=PySem.sizeLine_eq;unfold Ho;refine⟨N,rfl,ok,by omega,by omega,?_⟩;refine⟨(by decide:2<=sizeLine),_,A_ s,(by decide:1<=sizeLine),?_⟩;refine IT (λm n' ρ=>n'=n/\∃(Wt:List Str) (ks:List Key) (ds:List D) (F:NO) (s5 s6 s7 s8:Slot),ρ=[.sh (enc N),.sh (.str s),.sh (FP N),.ow (.dic ks ds),.ow (.lst (Wt.map .str)),s5,s6,s7,s8]/\Dmap ks ds I_ F/\Dj N s F Wt/\m+ks.length=N.ps.length+Wt.length) (N.ps.length) ⟨rfl,[s],[.inr s],[I_ (0,none)],_,_,_,_,_,rfl,Dmap.one,Dj.init hs,rfl⟩ ?_ ?_
 ·rintro m n' ρ N' ⟨rfl,Wt,ks,ds,F,s5,s6,s7,s8,rfl,M,J,hm⟩ hN
  cases Wt with
  | nil =>
   exact⟨false,rfl,_,rfl,p ks ds F M J.told⟩
  | cons w0 Wr =>
   refine⟨true,rfl,?_⟩;have insW:∀x∈w0::Wr,x∈N.ps:=λx hx=>J.ins x (J.wfound x hx);have wl:=QN J.nd insW;refine⟨w0::Wr,ks,ds,F,rfl,M,J.wfound,fk _ _,by omega,λv hv hmin=>?_⟩
   obtain⟨dv,pv,ev⟩:∃d q,F v=some (d,q):=by
    cases e:F v with
    | none=>exact absurd e (J.wfound v hv)
    | some a=>exact⟨a.1,a.2,rfl⟩
   have D0:=J.take hv ev λy hy dy q ey=>hmin y hy dv pv dy q ev ey;have hvp:=insW v hv;have hidx:(w0::Wr).idxOf v<(w0::Wr).length:=List.idxOf_lt_length_of_mem hv;have hget:(w0::Wr)[(w0::Wr).idxOf v]?=some v:=by rw [No hidx,List.getElem_idxOf]
   have ee:((w0::Wr).map D.str).eraseIdx ((w0::Wr).idxOf v)=((w0::Wr).erase v).map D.str:=by
    rw [List.erase_eq_eraseIdx_of_idxOf (rfl:(w0::Wr).idxOf v=_),GI]
   refine⟨_,rfl,rfl,_,_,(w0::Wr).idxOf v,rfl,rfl,Tf ok insW,Bo (ok.names v hvp),⟨.str v,by rw [dX,hget]; rfl,by show (v==v)=true; exact beq_self_eq_true v⟩,λk x hk hx=>?_,?_⟩
   ·rw [dX] at hx
    obtain⟨t,ht,rfl⟩:=eT.mp hx;have hkl:k<(w0::Wr).length:=(Uf.mp ht).1;have hh:=List.not_of_lt_findIdx (p:=λy=>y==v) (xs:=w0::Wr) hk;have e2:(w0::Wr)[k]=t:=(Uf.mp ht).2;have h3:((w0::Wr)[k]==v)=false:=hh;rw [e2] at h3;exact h3
   rw [ee];refine⟨_,_,_,WV N.ts v,rfl,A_ v,S2 hvp,_,_,rfl,λk hk=>?_,?_⟩
   ·obtain⟨q,hq,rfl⟩:=Rs.mp hk
    have:=(ok.names _ (OA ok hq).1).2.1
    show q.1.length<=sizeLine;omega
   rw [WW];have el:=List.length_erase_of_mem hv
   have inner:∀(rest seen:List (Str×Int)) (Wt:List Str) (ks:List Key) (ds:List D) (F:NO) (s6 s7 s8:Slot),seen++rest=EN N.ts v->Dmap ks ds I_ F->Dm N s F Wt v dv seen->m+ks.length=N.ps.length+Wt.length+1 ->
     BF (Bi 2 (AX (AR 6) (AX (AR 7) BB))) (Af (A0 8 (Aa B0 (Aa Ar (Aa CC (A7 3) (AB 5)) (wC (D.int 0))) (AB 7)))
 (A2 (AS (Aa (Jw true) (AB 6) (A7 3))) (Af (WU 4 "list" RC (AE (AB 6) AY))
 (JH 3 (AB 6) (BE (AE (AB 8) (AE (AB 5) AY))))) (A2 (AS (Aa E3 (AB 8) (Aa Ar (Aa CC (A7 3) (AB 6)) (wC (D.int 0))))) (JH 3 (AB 6) (BE (AE (AB 8) (AE (AB 5) AY)))) Ap))) { EF Pd with nx:=N',ct:=N',bk:=Oh 3 (EF Pd) } (rest.map cF) n' [.sh (enc N),.sh (.str s),.sh (FP N),.ow (.dic ks ds),.ow (.lst (Wt.map .str)),.sh (.str v),s6,s7,s8]:=by
    intro rest
    induction rest with
    | nil =>
     intro seen Wt ks ds F s6 s7 s8 e M D0 hm;rw [eO] at e;exact hN (m - 1) n' _ (by have:=M.le D0.ins; omega) ⟨rfl,Wt,ks,ds,F,_,_,_,_,rfl,M,D0.finish λy l hy=>by rw [e]; exact hy,by have:=M.le D0.ins; omega⟩
    | cons q rest ih =>
     intro seen Wt ks ds F s6 s7 s8 e M D0 hm;obtain⟨y,l⟩:=q;have he:Ed N v y l:=by show (y,l)∈EN N.ts v; rw [← e]; exact df _ Re
     have e':(seen++[(y,l)])++rest=EN N.ts v:=by rw [eg]; exact e
     obtain⟨pv,ev⟩:=D0.here;have kl:=M.le D0.ins;have hyp:=he.ins ok;have insW:∀x∈Wt,x∈N.ps:=λx hx=>D0.ins x (D0.wfound x hx);have wl:=QN D0.nd insW;refine⟨rfl,rfl,?_⟩;refine⟨ks,ds,_,I_ (dv,pv),rfl,A_ v,by rw [M.at_,ev]; rfl,_,AJ (j:=0) rfl,?_⟩;refine⟨ks,ds,_,rfl,A_ y,?_⟩;show if (!(BP ks ds (.inr y)).isSome)=true then _ else _
     cases ey:F y with
     | none =>
      have hno:=(M.has (x:=y)).1 ey;rw [M.at_,ey];refine EC ⟨_,rfl,rfl,_,_,rfl,rfl,by rw [Go]; omega,?_⟩;refine⟨ks,ds,rfl,(by decide:2<=sizeLine),_,A_ y,by omega,?_⟩
      have:=ih (seen++[(y,l)]) (Wt++[y]) (C9 ks (.inr y)) (DV ks ds (.inr y) (I_ (dv+l,some v))) _ (.sh (.str y)) (.sh (.int l)) (.sh (.int (dv+l))) e' (M.put y (dv+l,some v)) (D0.find ok he ey) (by rw [K3,if_neg (by rw [hno]; decide),dZ,eC]; omega)
      rw [fR] at this;exact this
     | some a =>
      obtain⟨dy,qy⟩:=a;have hyes:=(M.has (x:=y)).2 (by rw [ey]; intro z; cases z);rw [M.at_,ey];refine Bp ⟨ks,ds,_,I_ (dy,qy),rfl,A_ y,by rw [M.at_,ey]; rfl,_,AJ (j:=0) rfl,?_⟩;show if decide (dv+l<dy)=true then _ else _
      by_cases c:dv+l<dy
      ·rw [decide_eq_true c]
       refine EC ⟨ks,ds,rfl,(by decide:2<=sizeLine),_,A_ y,by omega,?_⟩;exact ih (seen++[(y,l)]) Wt (C9 ks (.inr y)) (DV ks ds (.inr y) (I_ (dv+l,some v))) _ (.sh (.str y)) (.sh (.int l)) (.sh (.int (dv+l))) e' (M.put y (dv+l,some v)) (D0.nearer ok he ey c) (by rw [K3,if_pos hyes]; omega)
      ·rw [decide_eq_false c]
       exact Bp (ih (seen++[(y,l)]) Wt ks ds F (.sh (.str y)) (.sh (.int l)) (.sh (.int (dv+l))) e' M (D0.skip ey (by omega)) hm)
   exact inner (EN N.ts v) [] ((w0::Wr).erase v) ks ds F _ _ _ rfl M D0 (by have:=List.length_pos_of_mem hv; omega)
 ·rintro n' ρ P Q hPQ h
  unfold YS A7 at h ⊢
  split at h
  all_goals first
   | exact h.elim
   | (obtain⟨c,hc,h⟩:=h; exact⟨c,hc,hPQ _ _ h⟩)
theorem Ym(h:Od ss n Pd):YG (EE Pd) n (ss++Tk 1 .no):=by
 obtain⟨N,a,b,rfl,okn,ha,hb,p⟩:=h;unfold YG;refine⟨N,a,rfl,okn,ha,λks ds F M T=>?_⟩;refine⟨ks,ds,_,rfl,A_ b,?_⟩;show if ((BP ks ds (.inr b)).isSome)=true then _ else _
 have hp:=p _ (T.far b);cases e:F b with
 | none =>
  rw [M.at_,e];rw [e] at hp;exact Bp hp
 | some x =>
  rw [M.at_,e];rw [e] at hp;exact EC ⟨ks,ds,_,I_ x,rfl,A_ b,by rw [M.at_,e]; rfl,_,AJ (j:=0) rfl,hp⟩
end
structure WInv (N:Net) (F:NO) (b:Str) (db:Int) (acc:List Str) (pl:Option Str):Prop where
 st:(acc=[]/\pl=some b)\/∃z r dz,acc.reverse=z::r/\F z=some (dz,pl)/\walk N acc.reverse (db - dz)/\acc.reverse.getLast?=some b
 nd:acc.Nodup
 ins:∀x∈acc,x∈N.ps
 less:∀y dy q,pl=some y->F y=some (dy,q)->∀x∈acc,∃dx qx,F x=some (dx,qx)/\dy<dx
 fnd:∀y,pl=some y->F y≠none
noncomputable def wm(F:NO):Option Str->Nat
 | none=>0
 | some y=>((F y).getD (0,none)).1.toNat+1
theorem WInv.step{N:Net}(ok:N.Ok){a:Str}{F:NO}(T:Told N a F){b:Str}{db:Int}{qb:Option Str}(eb:F b=some (db,qb)){acc:List Str}{y:Str}{dy:Int}{qy:Option Str}(h:WInv N F b db acc (some y))(ey:F y=some (dy,qy)):WInv N F b db (acc++[y]) qy/\wm F qy<wm F (some y):=by
 have hy0:=(T.least y dy qy ey).1.pos ok
 have nx:∀w dw q,qy=some w->F w=some (dw,q)->dw<dy:=λw dw q e ew=>by
  rcases T.prev y dy qy ey with ⟨z,_⟩ | ⟨w',dw',q',l,e1,e2,e3,e4⟩
  ·rw [e] at z; cases z
  ·rw [e] at e1
   cases e1;rw [ew] at e2;cases e2
   have:=(e3.pos ok).1
   omega
 have hf:∀w,qy=some w->F w≠none:=λw e=>by
  rcases T.prev y dy qy ey with ⟨z,_⟩ | ⟨w',dw',q',l,e1,e2,_⟩
  ·rw [e] at z; cases z
  ·rw [e] at e1
   cases e1;rw [e2];intro z; cases z
 refine⟨⟨.inr ?_,?_,λx hx=>?_,λw dw q e ew x hx=>?_,hf⟩,?_⟩
 ·rw [List.reverse_append,List.reverse_singleton,ie]
  rcases h.st with ⟨rfl,e⟩ | ⟨z,r,dz,e1,e2,e3,e4⟩
  ·cases e
   rw [eb] at ey;cases ey;exact⟨_,_,_,rfl,eb,(by show db - db=0; omega),rfl⟩
  ·refine⟨y,acc.reverse,dy,rfl,ey,?_,?_⟩
   ·rw [e1] at e3 ⊢
    rcases T.prev z dz (some y) e2 with ⟨w,_⟩ | ⟨w',dw',q',l,k1,k2,k3,k4⟩
    ·cases w
    ·cases k1
     rw [ey] at k2;cases k2
     have:=Sw k3 e3
     rw [show l+(db - dz)=db - dy by omega] at this;exact this
   ·rw [e1] at e4 ⊢
    exact e4
 ·rw [fz]
  refine⟨h.nd,eF.mpr ⟨d9,fJ⟩,λx hx z hz e=>?_⟩;rw [TM.mp hz] at e;obtain⟨dx,qx,ex,hlt⟩:=h.less y dy qy rfl ey x hx;rw [e,ey] at ex;cases ex;omega
 ·rcases d7.mp hx with hx | hx
  ·exact h.ins x hx
  ·rw [TM.mp hx]
   exact T.ins y (by rw [ey]; intro z; cases z)
 ·have h1:=nx w dw q e ew
  rcases d7.mp hx with hx | hx
  ·obtain⟨dx,qx,ex,hlt⟩:=h.less y dy qy rfl ey x hx
   exact⟨dx,qx,ex,by omega⟩
  ·rw [TM.mp hx]
   exact⟨dy,qy,ey,h1⟩
 ·cases qy with
  | none=>exact Nat.succ_pos _
  | some w =>
   cases ew:F w with
   | none=>exact absurd ew (hf w rfl)
   | some p =>
    have h1:=nx w p.1 p.2 rfl ew;have h2:=(T.least w p.1 p.2 ew).1.pos ok;show ((F w).getD (0,none)).1.toNat+1<((F y).getD (0,none)).1.toNat+1;rw [ew,ey];show p.1.toNat+1<dy.toNat+1;omega
section
variable {ss:List Slot}{n:Nat}{Pd:D->Nat->Prop}
theorem S9(h:WM ss n Pd):P8 (EE Pd) n (ss++Tk 3 .no):=by
 obtain⟨N,a,b,rfl,okn,ha,hb,p⟩:=h;have szl:=PySem.sizeLine_eq;have ok:=okn.1;unfold P8;refine⟨N,a,rfl,okn,ha,λks ds F M T=>?_⟩;refine⟨ks,ds,_,rfl,A_ b,?_⟩;show if (!(BP ks ds (.inr b)).isSome)=true then _ else _
 have hfar:=T.far b;cases eb:F b with
 | none =>
  rw [M.at_,eb];rw [eb] at hfar;exact EC (p none hfar)
 | some x =>
  obtain⟨db,qb⟩:=x;rw [M.at_,eb];refine Bp ⟨z0,?_⟩;refine IT (λm n' ρ=>n'=n/\∃(acc:List Str) (pl:Option Str),ρ=[.sh (enc N),.sh (.str a),.sh (.str b),.sh (.dic ks ds),.ow (.lst (acc.map .str)),.sh (aa pl)]/\WInv N F b db acc pl/\m=wm F pl) (wm F (some b)) ⟨rfl,[],some b,rfl,⟨.inl ⟨rfl,rfl⟩,fJ,(λx hx=>by cases hx),(λ_ _ _ _ _ x hx=>by cases hx),λy e=>by cases e; rw [eb]; intro z; cases z⟩,rfl⟩ ?_ ?_
  ·rintro m n' ρ N' ⟨rfl,acc,pl,rfl,J,rfl⟩ hN
   have wl:=QN J.nd J.ins;have l25:=okn.2.1;cases pl with
   | none =>
    refine⟨rfl,_,rfl,?_⟩
    rcases J.st with ⟨_,e⟩ | ⟨z,r,dz,e1,e2,e3,e4⟩
    ·cases e
    ·have hz:z=a:=by
      rcases T.prev z dz none e2 with ⟨_,w⟩ | ⟨w',dw',q',l,k1,_⟩
      ·exact w
      ·cases k1
     subst hz;rw [T.start] at e2;cases e2;rw [← jn];refine p (some acc.reverse) ⟨db - 0,r,e1,e4,e3,?_,by rw [fP]; omega,λx hx=>J.ins x (ia.mp hx)⟩;rw [show db - 0=db by omega];exact T.least b db qb eb
   | some y =>
    cases ey:F y with
    | none=>exact absurd ey (J.fnd y rfl)
    | some q =>
     obtain⟨dy,qy⟩:=q;obtain⟨J2,lt2⟩:=J.step ok T eb ey;refine⟨rfl,?_⟩;refine⟨_,rfl,rfl,_,_,rfl,rfl,by rw [Go]; omega,?_⟩;refine⟨ks,ds,_,I_ (dy,qy),rfl,A_ y,by rw [M.at_,ey]; rfl,_,AJ (j:=1) rfl,?_⟩;refine hN (wm F qy) _ _ lt2 ⟨rfl,acc++[y],qy,?_,J2,rfl⟩;rw [fR];rfl
  ·rintro n' ρ P Q hPQ h
   unfold AS Aa AB wC C4 at h ⊢
   split at h
   ·exact⟨h.1,hPQ _ _ h.2⟩
   ·exact h.elim
end
theorem SA{w:List Str}{b:Str}(h:w.getLast?=some b):atI (w.map D.str) (-1)=some (.str b):=by
 obtain⟨ys,rfl⟩:=List.getLast?_eq_some_iff.mp h;rw [fR];exact WD _ _
noncomputable def ends(t:BL):Str×Str:=(t.a,t.b)
noncomputable def eL(p q:Str×Str):Prop:=cs p.1<cs q.1\/(p.1=q.1/\cs p.2<cs q.2)
theorem O2(lo:Int)(k:Nat):Dl lo (k+1)=.int lo::Dl (lo+1) k:=by
 unfold Dl;rw [iS,eR,fQ];refine jX.mpr ⟨by grind,i_ λi _=>?_⟩
 grind
theorem SG{ks:List Key}{ds:List D}{K:Kn}(M:Dmap ks ds D.int K)(x:Str):(BP ks ds (.inr x)).getD .non=HP (K x):=by
 rw [M.at_];cases K x <;> rfl
theorem Uc{N:Net}(okn:okN N):G9 1000001 (enc N)/\QM (enc N)<=48000/\RE (enc N)<=3:=YY (XD okn.1) (LL okn.1) (by rw [Go]; have:=okn.2.1; omega) (by rw [Go]; have:=okn.2.2; omega)
end Nt
namespace Dp
open L2
noncomputable def Xu(i:Nat)(b:BW)(body:Ai):Ai:=λD2 n ρ=>∃d ds,ρ[i]?=some (.br d)/\Ef d=some ds/\BF b body D2 ds n ρ
section
variable {X:Cx}{κ:Kd}{tg:Expr}{body:List Stmt}{b:BW}{wb:Ai}{pos p:Pos}{x:Str}{i:Nat}
theorem Rel.lessKp{K:Frag}{C:Fm}{q:Ch×HO}{M:Ch->Prop}{H:Hp}{n:Nat}{ρ:List Slot}{Z:L2.St}(R:Rel K { C with kp:=q::C.kp } M H n ρ Z):Rel K C M H n ρ Z :=
 ⟨R.len,R.sub,R.dom,R.ext,R.fU,R.uV,R.vM,R.feed,R.sl,R.pin,R.br0,R.new,R.two,λp hp=>R.kept p (Sc _ hp)⟩
theorem XX(hp:jr (model X.prog X.w) X.A X.env X.xe)(hc:X.calm=true)(h:PE X (.Name x p) (B3 i))(hg:DG X tg b)(hb:UJ X κ body wb)
  (hs:autoParam (∀y,foldedSetIterable (.Name x p) X.env y=pure y) zau2._auto_1):DS X κ (.For tg (.Name x p) body [] pos) (Xu i b wb):=by
 obtain⟨g,g1,g2⟩:=hg;obtain⟨tb,b1,b2⟩:=hb;refine⟨_,Nu hp hc (Qs h) g1 b1 hs,λC M H n ρ Z D2 E R L w=>?_⟩;obtain⟨d,ds,hi,hd,w⟩:=w;obtain⟨v,e1,hAt⟩:=R.sl i _ hi;cases d with
 | tup ds' =>
  cases hd;obtain⟨a,vs,rfl,hn,hat⟩:=hAt;refine⟨.ref a,getD_some e1,.inr (.inl ⟨a,rfl,⟨vs,hn.sq⟩,?_⟩)⟩;obtain⟨kp',ek⟩:∃kp',kp'=C.kp:=⟨_,rfl⟩;have R1:Rel X.K { C with kp:=kp' } M H n ρ Z:=by rw [ek]; exact R
  have less:∀{M H n ρ Z},Rel X.K { C with kp:=kp' } M H n ρ Z->Rel X.K C M H n ρ Z:=λR=>by rw [ek] at R; exact R
  have st:∀M' H' n' zY zZ,Rel X.K { C with kp:=kp',zG:=(M,H)::C.zG } M' H' n' zY zZ->SqT X.K H' a vs:=λM' H' n' zY zZ R'=>(hn.pres (R'.pin (M,H) Re)).sq;refine⟨λi m zZ H'=>m=ds.length - i/\i<=ds.length/\∃M' n' zY,Rel X.K { C with kp:=kp',zG:=(M,H)::C.zG } M' H' n' zY zZ/\BF b wb D2 (ds.drop i) n' zY,⟨ds.length,by simp,dY _,M,n,ρ,R1.pinned,w⟩,?_⟩;rintro i m zZ H' ⟨rfl,hil,M',n',zY,R',w'⟩;have pr:Pres M H M' H':=R'.pin (M,H) Re;have hq:=st M' H' n' zY zZ R'
  by_cases hlt:i<ds.length
  ·have ed:ds.drop i=ds[i]::ds.drop (i+1):=gB hlt
   rw [ed] at w';obtain⟨v,ev,hv⟩:=(hat.pres pr).get (No hlt);refine .inr ⟨⟨vs,v,hq,ev⟩,λzN H2=>∃M2 n2 zL,Rel X.K { C with kp:=kp',zG:=(M,H)::C.zG } M2 H2 n2 zL zN/\BF b wb D2 (ds.drop (i+1)) n2 zL,λzN H2 ⟨M2,n2,zL,R2',w2⟩=>⟨ds.length - (i+1),by omega,rfl,hlt,M2,n2,zL,R2',w2⟩,λy H2 hy=>?_⟩;obtain⟨e2,hy⟩:=hy;subst e2
   have:some v=some y:=ev.symm.trans (hy vs hq)
   cases this;refine g2 _ M' H2 n' zY zZ ds[i] v _ _ R' hv w' λzO zV R3 w3=>?_;refine b2 _ M' H2 n' zO zV { D2 with nx:=BF b wb D2 (ds.drop (i+1)),ct:=BF b wb D2 (ds.drop (i+1)),bk:=D2.nx } _ R3 ⟨λM4 H4 n4 zS zQ R4 w4=>⟨M4,n4,zS,R4,w4⟩,L.rt,λM4 H4 n4 zS zQ R4 w4=>L.nx M4 H4 n4 zS zQ (less R4.unpin) w4,λM4 H4 n4 zS zQ R4 w4=>⟨M4,n4,zS,R4,w4⟩⟩ w3
  ·have e:i=ds.length:=by omega
   subst e;rw [hV] at w';exact .inl ⟨⟨vs,hq,by rw [hat.length]; exact Op _⟩,L.nx M' H' n' zY zZ (less R'.unpin) w'⟩
 | lst ds' =>
  cases hd;obtain⟨a,vs,rfl,nV,hH,hat⟩:=hAt
  obtain⟨o,ho,hro⟩:∃o,H a=some o/\∀H':Hp,H' a=some o->SqL X.K H' a vs:=by
   rcases hH with z | ⟨u,z⟩
   ·exact⟨_,z,λH' e=>.inl (.inl e)⟩
   ·exact⟨_,z,λH' e=>.inl (.inr ⟨u,e⟩)⟩
  refine⟨.ref a,getD_some e1,.inl ⟨a,rfl,⟨vs,hro H ho⟩,?_⟩⟩
  obtain⟨kp',R1,less,st⟩:∃kp',Rel X.K { C with kp:=kp' } M H n ρ Z/\(∀{M H n ρ Z},Rel X.K { C with kp:=kp' } M H n ρ Z->Rel X.K C M H n ρ Z)/\(∀M' H' n' zY zZ,Rel X.K { C with kp:=kp',zG:=(M,H)::C.zG } M' H' n' zY zZ->SqL X.K H' a vs):=by
   by_cases hM:M a
   ·refine⟨(a,o)::C.kp,⟨R.len,R.sub,R.dom,R.ext,R.fU,R.uV,R.vM,R.feed,R.sl,R.pin,R.br0,R.new,R.two,λq hq=>?_⟩,λR=>R.lessKp,λM' H' n' zY zZ R'=>hro H' (R'.kept (a,o) Re).1⟩
    rcases ZB.mp hq with rfl | hq
    ·refine⟨ho,hM,nV,λj e q z=>?_⟩
     obtain⟨u,hu⟩:=R.br0 i _ a hi e1
     have:=(R.new j _ a q rfl z).2
     rw [hu] at this;cases this
    ·exact R.kept q hq
   ·exact⟨C.kp,R,λR=>R,λM' H' n' zY zZ R'=>hro H' ((R'.pin (M,H) Re).1 a o ho hM)⟩
  refine⟨λi m zZ H'=>m=ds.length - i/\i<=ds.length/\∃M' n' zY,Rel X.K { C with kp:=kp',zG:=(M,H)::C.zG } M' H' n' zY zZ/\BF b wb D2 (ds.drop i) n' zY,⟨ds.length,by simp,dY _,M,n,ρ,R1.pinned,w⟩,?_⟩;rintro i m zZ H' ⟨rfl,hil,M',n',zY,R',w'⟩;have pr:Pres M H M' H':=R'.pin (M,H) Re;have hq:=st M' H' n' zY zZ R'
  by_cases hlt:i<ds.length
  ·have ed:ds.drop i=ds[i]::ds.drop (i+1):=gB hlt
   rw [ed] at w';obtain⟨v,ev,hv⟩:=(hat.pres pr).get (No hlt);refine .inr ⟨⟨vs,v,hq,ev⟩,λzN H2=>∃M2 n2 zL,Rel X.K { C with kp:=kp',zG:=(M,H)::C.zG } M2 H2 n2 zL zN/\BF b wb D2 (ds.drop (i+1)) n2 zL,λzN H2 ⟨M2,n2,zL,R2',w2⟩=>⟨ds.length - (i+1),by omega,rfl,hlt,M2,n2,zL,R2',w2⟩,λy H2 hy=>?_⟩;obtain⟨e2,hy⟩:=hy;subst e2
   have:some v=some y:=ev.symm.trans (hy vs hq)
   cases this;refine g2 _ M' H2 n' zY zZ ds[i] v _ _ R' hv w' λzO zV R3 w3=>?_;refine b2 _ M' H2 n' zO zV { D2 with nx:=BF b wb D2 (ds.drop (i+1)),ct:=BF b wb D2 (ds.drop (i+1)),bk:=D2.nx } _ R3 ⟨λM4 H4 n4 zS zQ R4 w4=>⟨M4,n4,zS,R4,w4⟩,L.rt,λM4 H4 n4 zS zQ R4 w4=>L.nx M4 H4 n4 zS zQ (less R4.unpin) w4,λM4 H4 n4 zS zQ R4 w4=>⟨M4,n4,zS,R4,w4⟩⟩ w3
  ·have e:i=ds.length:=by omega
   subst e;rw [hV] at w';exact .inl ⟨⟨vs,hq,by rw [hat.length]; exact Op _⟩,L.nx M' H' n' zY zZ (less R'.unpin) w'⟩
 | _=>cases hd
end
end Dp
namespace Nt
open L2 Dp
noncomputable def sub(N:Net)(kept:List BL):Net:=⟨N.ps,N.ts.filter λu=>decide (u∈kept)⟩
noncomputable def Lv:W2:=λss n P=>∃(N:Net) (z:D) (ts:List BL),ss=[.sh (enc N),.br z]/\Ef z=some (ts.map Ao)/\ts.length<64/\∀ts':List BL,ts'.Perm ts->JV ts'->P (enc ⟨N.ps,ts'⟩) n
noncomputable def Dh:W2:=λss n P=>∃(N:Net) (s:Str) (z:D) (us:List BL),ss=[.br z,.sh (.str s)]/\Ef z=some (us.map Ao)/\(∀u,u∈us↔u∈N.ts)/\okN N/\s∈N.ps/\∀(ks:List Key) (ds:List D) (K:Kn),Dmap ks ds D.int K->LTold N s K->P (.dic ks ds) n
noncomputable def P9:Ai:=(Am (BE (AE (Aa Ar (AB 0) (wC (D.int 0))) (AE (Bs Bm (AE (Bs CZ (AE (A7 1) AY)) AY)) AY))))
theorem Wk.mono{N N':Net}(h:∀t∈N.ts,t∈N'.ts){s x:Str}{d:Int}(hw:Wk N s x d):Wk N' s x d:=by
 induction hw with
 | nil=>exact .nil
 | snoc _ he ih =>
  refine .snoc ih ?_;obtain⟨t,ht,z⟩:=f9.mp he;exact f9.mpr ⟨t,h t ht,z⟩
theorem LF{α β:Type}:∀{l:List (α×β)},(l.map (·.1)).Nodup->∀{p q:α×β},p∈l->q∈l->p.1=q.1->p=q
 | a::l,nd,p,q,hp,hq,e=>by
  rw [eR,eF] at nd
  rcases ZB.mp hp with hp2 | hp2 <;> rcases ZB.mp hq with hq2 | hq2
  ·rw [hp2,hq2]
  ·grind
  ·exact absurd (Rs.mpr ⟨p,hp2,by rw [e,hq2]⟩) nd.1
  ·exact LF nd.2 hp2 hq2 e
theorem XA{N:Net}(ok:N.Ok){x y:Str}{l:Int}(h:Ed N x y l):look N.ts x y=some l:=by
 unfold look;cases e:(EN _ x).find? _ with
 | none=>exact absurd (List.find?_eq_none.mp e _ h) (by simp)
 | some q =>
  have e1:=of_decide_eq_true (List.find?_some (p:=λz=>decide _) e);rw [LF (Te ok x) (jd e) h e1];rfl
theorem Of{N:Net}(ok:N.Ok):∀{r:List Str} {x:Str} {s d:Int},walk N (x::r) d->OC N.ts x r s=some (s+d)
 | [],x,s,d,h=>by
  have:=h
  subst this;show some s=some _
  grind
 | y::r,x,s,d,h=>by
  obtain⟨l,e,he,hw,rfl⟩:=h;show (match look _ x y with | some l=>OC _ y r _ | none=>none)=_;rw [XA ok he];show OC _ y r _=_;rw [Of ok hw,Int.add_assoc]
theorem XB{N:Net}(ok:N.Ok){x:Str}{r:List Str}{d:Int}(hx:x∈N.ps)(hw:walk N (x::r) d):ZF N (.tup ((x::r).map .str))=.int d:=by
 show (if ((x::r).map _).all _ then ZE N _ else .non)=_;rw [if_pos (all_strs _),Ka];show (if x∈N.ps then Yl _ else .non)=_;rw [if_pos hx,Of ok hw,Int.zero_add];rfl
theorem MY{N:Net}{B:Nat}(ok:N.Ok):∀{w:List Str},(∀x∈w,x∈N.ps)->GZ B (w.map .str)/\L0 (w.map .str)<=9*w.length/\M8 (w.map .str)<=0
 | [],_=>⟨trivial,Op _,Op _⟩
 | x::r,h=>by
  obtain⟨a,b,c⟩:=MY ok λy hy=>h y (Sc _ hy);have hx:=ok.names x (h x Re);refine⟨⟨λch hc=>by have:=hx.2.2 ch hc; omega,a⟩,?_,?_⟩
  ·show x.length+1+L0 _<=9*(r.length+1)
   have:=hx.2.1
   omega
  assumption
section
variable {ss:List Slot}{n:Nat}{Pd:D->Nat->Prop}
theorem TB(h:Lv ss n Pd):P9 (EE Pd) n (ss++Tk 0 .no):=by
 obtain⟨N,z,ts,rfl,hz,h64,p⟩:=h;unfold P9;refine⟨_,AJ (j:=0) rfl,z,_,rfl,hz,by simp_all,⟨λx hx=>?_,λx hx y hy ka kb ea eb=>?_⟩,λxs' hp ho=>?_⟩
 ·obtain⟨t,_,rfl⟩:=Rs.mp hx
  exact⟨CH t,rfl,fk _ _⟩
 ·obtain⟨t,_,rfl⟩:=Rs.mp hx
  obtain⟨u,_,rfl⟩:=Rs.mp hy;cases (show some (CH t)=some ka from ea);cases (show some (CH u)=some kb from eb);rfl
 ·obtain⟨ts',h1,rfl⟩:=Ol (g:=ZX) (λ_=>rfl) hp
  exact⟨z2,p ts' h1 (R6 ho)⟩
end
end Nt
namespace L2
open AutoSeq1 (wpAny_loadPart')
theorem boot_enumerate:bootBuiltins "enumerate"=some (.type "enumerate"):=by decide +kernel
section
variable {prog:Program}{w:World}{A:Around}{E:Value->Shared->Prop}{s:Shared}
theorem T5{κ:Bool}(hh:A.handled=none)(it l:Ch)(hne:l≠it)(items:Array Db):Draws prog w A it [it,l] items.size (λi v=>items[i]?=some v) (λi h=>ItAt κ h it l i/\SqAt κ h l items) where
 live:=λ_ _ st=>let ⟨o,ho,_⟩:=st.1.lies; ⟨o,ho⟩
 frame:=λ_ _ _ st k=>⟨st.1.mv λo e=>k it (by simp) o e,st.2.mv λo e=>k l (by simp) o e⟩
 item:=λi s Q E hi st hQ=>GJ st.1 st.2 (x:=items[i]) (by simp [hi]) λh' a b=>hQ _ h' s.toks (by simp [hi]) ⟨a,st.2.eb b.extBut hne⟩ b
 done:=λs Q E st hE=>Hf hh st.1 st.2 (by simp) hE
theorem RD{κ:Bool}(hh:A.handled=none)(it l:Ch)(items:Array Db)(k:Nat)(hk:items[k]?=none):Draws prog w A it [it,l] k (λ_ _=>True) (λi h=>ItAt κ h it l i/\SqAt κ h l items/\i=k) where
 live:=λ_ _ st=>let ⟨o,ho,_⟩:=st.1.lies; ⟨o,ho⟩
 frame:=λ_ _ _ st k=>⟨st.1.mv λo e=>k it (by simp) o e,st.2.1.mv λo e=>k l (by simp) o e,st.2.2⟩
 item:=λi s Q E hi st hQ=>absurd st.2.2 (da hi)
 done:=λs Q E st hE=>Hf hh st.1 st.2.1 hk hE
theorem VQ(κ:Bool)(l:Ch)(items:Array Db):Meets (gg.«enumerate.__new__» ⟨[.type "enumerate",.ref l],[]⟩) (λ_ R s=>SqAt κ s.heap l items /\
   R (.ok (.ret (.ref (s.heap.push (JO κ l)).objs.size))) { s with heap:=(s.heap.push (JO κ l)).push { cls:=.type "enumerate",data:=.fields #[.none,.bool false,.ref s.heap.objs.size,rawInt 0,.none,.none] } }) :=
 .of_wp λprog w A R s h=>by
  obtain⟨hp,g,d,tk,os⟩:=s; obtain⟨hl,h⟩:=h
  have hsub:=sub_enumerate;cases κ with
  | true =>
   have hL:jz (gv ⟨hp,g,d,tk,os⟩) l items:=hl;obtain⟨⟨c,dct,dt,sl⟩,ho,hc,n,hd⟩:=id hL;replace hc:c=.type "list":=hc;replace hd:dt=.seq items n:=hd;subst hc hd
   wp_walk using fD ho
   refine wpAny_stack_any λst=>T0 ?_
   split
   ·rename_i c _ _ _ _ _
    cases (c==gn "enumerate") <;> (wp_walk using fD ho,fb hL; exact⟨_,rfl,h⟩)
   ·(wp_walk using fD ho,fb hL; exact⟨_,rfl,h⟩)
  | false =>
   have hL:jk (gv ⟨hp,g,d,tk,os⟩) l items:=hl;obtain⟨⟨c,dct,dt,sl⟩,ho,hc,n,hd⟩:=id hL;replace hc:c=.type "tuple":=hc;replace hd:dt=.seq items n:=hd;subst hc hd
   wp_walk using fD ho
   refine wpAny_stack_any λst=>T0 ?_
   split
   ·rename_i c _ _ _ _ _
    cases (c==gn "enumerate") <;> (wp_walk using fD ho,fS hL; exact⟨_,rfl,h⟩)
   ·(wp_walk using fD ho,fS hL; exact⟨_,rfl,h⟩)
theorem MV{κ:Bool}{l:Ch}{items:Array Db}{Q:Db->On->Prop}(hl:SqAt κ s.heap l items)
  (h:∀h',IsEnum h' (s.heap.objs.size+1) s.heap.objs.size 0 .none->ItAt κ h' s.heap.objs.size l 0->(∀b o,s.heap.get? b=some o->h'.get? b=some o)->Q (.ref (s.heap.objs.size+1)) { s with heap:=h' }) :
  wpAny (model prog w) A (call (.type "enumerate") [.ref l]) Q E s:=by
 refine callType_new F.called_enumerate (by decide) (F.typeCall_enumerate_1 _) (F.newCall_enumerate_1 _) (λobj=>F.args_object_init_2 obj _) F.entry_enumerate_new (VQ κ l items) ⟨hl,?_⟩;have hz:(s.heap.push (JO κ l)).objs.size=s.heap.objs.size+1:=ft ..;have g1:((s.heap.push (JO κ l)).push { cls:=.type "enumerate",data:=.fields #[.none,.bool false,.ref s.heap.objs.size,rawInt 0,.none,.none] }).get? (s.heap.push (JO κ l)).objs.size=some _:=UF _ rfl;rw [hz] at g1;refine⟨⟨_,by rw [hz]; exact g1,rfl⟩,?_⟩;rw [hz];exact h _ g1 ((LM κ s.heap l).mv λo e=>FM _ e) λb o e=>FM _ (FM _ e)
end
noncomputable def Zz(K:Frag)(κ:Bool)(a:Ch)(xs:List V):It :=
 ⟨λi H=>SqK κ K H a xs/\i<xs.length,λi H x H'=>∃T p,x=.ref T/\H T=none/\H'=BD H T (.tup [.int i,p])/\xs[i]?=some p,λi H=>SqK κ K H a xs/\xs.length<=i⟩
structure Zs (κ:Bool) (e it a:Ch) (k:Nat) (h:dg):Prop where
 e:∃old,IsEnum h e it (k:Int) old
 i:ItAt κ h it a k
theorem Sy{P:eB}{w:eG}{K:Frag}{es:List d6}{j:Nat}{pos:Pos}(κ:Bool)(e it a:Ch)(xs:List V)(ei:e≠it)(ae:a≠e)(ai:a≠it) :
  Turn P w K (.Tuple es j pos) (Zz K κ a xs) [e,it] e (Zs κ e it a) where
 mem:=by simp
 obj:=λi h st c hc=>by
  simp only [ZB,d9,or_false] at hc
  rcases hc with rfl | rfl
  ·obtain⟨o,q⟩:=st.e
   exact⟨_,q,λv q=>by cases q⟩
  ·exact st.i.lies
 keep:=λi h h' st k=>by
  obtain⟨o,q⟩:=st.e;exact⟨⟨o,k e (by simp) _ q⟩,st.i.mv λo e=>k it (by simp) o e⟩
 item:=by
  intro X hP hw hK hc i zG s Z H E I hf st hg;subst hP hw hK;obtain⟨ha,hi⟩:=hg;obtain⟨us,r1,q1⟩:=ha.at I;obtain⟨u,hu,ru⟩:=r1.get (No hi);obtain⟨old,ee⟩:=st.e;have l1:=r1.length;refine wpAny_pyNext_enum_itemD (T5 (κ:=κ) (A:=X.A.in1) (I.ok.hd hc) it a ai us.toArray) ee ⟨st.i,q1⟩ (by simp; omega) ei (by simp [ei,ae.symm]) λx h' tk hp a1 a2 a3 a4 a5=>⟨_,rfl,?_⟩
  have hxu:x=u:=by
   have e2:us[i]?=some x:=by simpa using hp
   rw [hu] at e2;exact(dh e2).symm
  subst hxu;refine wpAny_letOwnedTupleGo_enum a1 λh2 b1 b2=>?_;have hT:H s.heap.objs.size=none:=I.hok.fresh (Op _)
  have kk:∀c o,c∉[e,it]->s.heap.get? c=some o->h2.get? c=some o:=λc o hc z=>by
   simp only [ZB,d9,or_false,not_or] at hc;exact b2.extBut _ _ hc.1 (a5 c o hc.1 hc.2 z)
  have I2:Inv X zG Z (BD H s.heap.objs.size (.tup [.int i,xs[i]])) { s with heap:=h2,toks:=tk+1 }:=by
   refine I.turnLaid (t':=tk+1) (ch:=[e,it]) hf kk (Op _) ?_;have nT:s.heap.objs.size≠e:=gz (XV ee);exact⟨by show 2<=sizeLine; decide,[.int i tk,x],.cons ⟨_,rfl⟩ (.cons ru .nil),⟨_,b2.extBut _ _ nT a3,rfl,_,rfl,rfl,rfl⟩⟩
  refine⟨.ref s.heap.objs.size,_,I2,rfl,⟨_,_,rfl,hT,rfl,No hi⟩,⟨⟨_,b1⟩,a2.1.eb b2.extBut ei.symm⟩,λc hc=>?_⟩;have hcn:H c=none:=(hf c hc).1
  have hlt:c≠s.heap.objs.size:=λz=>by
   obtain⟨o,ho⟩:∃o,s.heap.get? c=some o:=by
    simp only [ZB,d9,or_false] at hc
    rcases hc with rfl | rfl
    ·exact⟨_,ee⟩
    ·obtain⟨o,q,_⟩:=st.i.lies; exact⟨o,q⟩
   rw [z] at ho;exact fH _ (XV ho)
  rw [Ag hlt]; exact hcn
 done:=by
  intro X hP hw hK hc i zG s Z H E I hf st hg;subst hP hw hK;obtain⟨ha,hi⟩:=hg;obtain⟨us,r1,q1⟩:=ha.at I;obtain⟨old,ee⟩:=st.e;have l1:=r1.length;refine wpAny_pyNext_enum_endD (RD (κ:=κ) (A:=X.A.in1) (I.ok.hd hc) it a us.toArray i (by simp; omega)) ee ⟨st.i,q1,rfl⟩ λh' kk=>⟨rfl,?_⟩;refine I.turnedL (t':=s.toks) (ch:=[e,it]) hf λc o hc e=>?_;simp only [ZB,d9,or_false,not_or] at hc;exact kk c o hc.2 e
 self:=λA i s Q E st h=>by
  obtain⟨old,ee⟩:=st.e;exact wpAny_pyIter_enum ee h
section
variable {X:Cx}{e1:Expr}{es:List Expr}{j:Nat}{tpos p pos:Pos}{te:TE}
noncomputable def ak(K:Frag)(te:TE):TI:=λZ H R=>te Z H λv H1=>∃κ a xs,v=.ref a/\SqK κ K H1 a xs/\R (Zz K κ a xs) H1
theorem Wx(hg:Gl X "enumerate")(hm:X.mg "enumerate"=none)(he:PE X e1 te)(hs:autoParam (starEach [e1] X.env=[(false,eval e1 X.env)]) zau3._auto_1) :
  PI X (.Tuple es j tpos) (.Call (.Name "enumerate" p) [e1] [] pos) (ak X.K te):=by
 intro zG s Z H R I h;refine fL (C7 I hg hm boot_enumerate ?_);refine ej ?_ hs rfl;rw [hs];refine fK (thn (he zG s Z H _ I h) λu s1 ⟨x,H1,I1,r1,κ,a,xs,ex,hq,q⟩=>fZ ?_);subst ex;cases r1;obtain⟨us,r1',q1⟩:=hq.at I1;have la:a<s1.heap.objs.size:=by obtain⟨o,e⟩:=q1.lies; exact XV e
 refine MV q1 λh' hz hi hk=>?_;refine wpAny_pyIter_enum hz ?_;refine⟨s1.heap.objs.size+1,[s1.heap.objs.size+1,s1.heap.objs.size],_,Zz X.K κ a xs,H1,rfl,I1.kept (t':=s1.toks) hk,Sy κ _ _ a xs (by show (_:Nat)≠(_:Nat); omega) (da (fG la)) (da la),⟨⟨_,hz⟩,hi⟩,λc hc=>?_,q⟩
 have hge:s1.heap.objs.size<=c:=by
  simp only [ZB,d9,or_false] at hc
  rcases hc with rfl | rfl
  ·exact fm _
  ·exact Op _
 exact I1.fpOk hge (I1.hok.fresh hge)
end
end L2
namespace Dp
open L2
noncomputable def ER:Nat->List D->List D
 | _,[]=>[]
 | k,x::r=>.tup [.int (k:Int),x]::ER (k+1) r
theorem M6:∀(k:Nat) (ds:List D),(ER k ds).length=ds.length
 | _,[]=>rfl
 | k,x::r=>by show (ER (k+1) r).length+1=r.length+1; rw [M6 (k+1) r]
theorem M7:∀(k:Nat) (ds:List D) (i:Nat),(ER k ds)[i]?=(ds[i]?).map λx=>.tup [.int ((k+i:Nat):Int),x]
 | _,[],i=>by simp [ER]
 | k,x::r,0=>rfl
 | k,x::r,i+1=>by
  show (ER (k+1) r)[i]?=(r[i]?).map _;rw [M7 (k+1) r i,show k+1+i=k+(i+1) by omega]
section
variable {K:Frag}
theorem Pw{M:Ch->Prop}{H:Hp}{κ:Bool}{a:Ch}{vs:List V}{ds:List D}(hs:Ats K M H ds vs){i:Nat}{M':Ch->Prop}{H':Hp}(pr:Pres M H M' H')(h1:SqK κ K H' a vs)(dom:∀a,M' a->∃o,H' a=some o) :
  (∀d,(ER 0 ds)[i]?=some d->(Zz K κ a vs).go i H'/\∀x H2,(Zz K κ a vs).yld i H' x H2->Grow H' H2/\At K M' H2 d x)/\((ER 0 ds).length<=i->(Zz K κ a vs).stop i H'):=by
 have l1:=hs.length;refine⟨λd hd=>?_,λhl=>⟨h1,by rw [M6] at hl; omega⟩⟩;rw [M7,jo] at hd;cases q1:ds[i]? with
 | none=>rw [q1] at hd; cases hd
 | some d1 =>
  rw [q1] at hd;have hd':D.tup [.int (i:Int),d1]=d:=dh hd;have i1:i<ds.length:=(Uf.mp q1).1;refine⟨⟨h1,by omega⟩,λx H2 y=>?_⟩;obtain⟨T,p,rfl,hT,rfl,e1⟩:=y;obtain⟨v1,f1,a1⟩:=(hs.pres pr).get q1;rw [e1] at f1;cases f1;subst hd';exact⟨Av hT,C3 dom hT ⟨.int (i:Int),[p],rfl,rfl,p,[],rfl,a1,rfl⟩⟩
end
section
variable {X:Cx}{e1:Expr}{es:List Expr}{j:Nat}{tpos p pos:Pos}{κ:Kd}{wa:DW}
noncomputable def Rb(wa:DW):GQ:=λn ρ P=>wa n ρ λd n1=>∃xs,Ef d=some xs/\P (ER 0 xs) n1
theorem OO(hg:Gl X "enumerate")(hm:X.mg "enumerate"=none)(h:DE X e1 κ wa)(hk:autoParam (κ≠.tp) zau6._auto_1)(hs:autoParam (starEach [e1] X.env=[(false,eval e1 X.env)]) zau3._auto_1) :
  DI X (.Tuple es j tpos) (.Call (.Name "enumerate" p) [e1] [] pos) (Rb wa):=by
 obtain⟨t,a1,a2⟩:=h;refine⟨_,Wx hg hm a1 hs,λC M H n ρ Z P Rr R w q=>?_⟩;refine a2 C M H n ρ Z _ _ R w λv H1 d n1 ee f1 r1 p=>?_;obtain⟨xs,hd,p⟩:=p;obtain⟨zX,a,us,rfl,h1,s1⟩:=QY (r1.shOf R.dom hk) hd;exact⟨zX,a,us,rfl,s1 M H1 (Pres.refl _ _),q _ H1 _ n1 ee f1 (λi M' H' pr dom=>Pw h1 pr (s1 M' H' pr) dom) p⟩
end
noncomputable def YU(i:Nat)(we:DW)(b:BW):Ai:=λD2 n ρ=>∃xs,ρ[i]?=some (.ow (.lst xs))/\we n ρ λd n1=>∃(k:Nat) (x:D),d=.int (k:Int)/\xs[k]?=some x/\k<2 ^ 60/\b x (ρ.set i (.ow (.lst (xs.eraseIdx k)))) λzT=>D2.nx n1 zT
section
variable {X:Cx}{κ zR:Kd}{tg e:Expr}{b:BW}{we:DW}{pos p apos cpos:Pos}{x:Str}{i:Nat}
theorem Mg{k n:Nat}(h:k<n):seqIndex? (k:Int) n=some k:=by
 refine(OD ?_).1;unfold Vc
 grind
theorem XW(h:PE X (.Name x p) (B3 i))(ha:DE X e zR we)(hg:DG X tg b)
  (hs:autoParam (swapsWithSole [tg] (.Call (.Attribute (.Name x p) "pop" apos) [e] [] cpos) pos.line X.env=pure false) zau3._auto_1) (hw:autoParam (swappedStores [tg] (.Call (.Attribute (.Name x p) "pop" apos) [e] [] cpos) X.env=pure none) zau3._auto_1)
  (h1:autoParam ((assignEach [tg] X.env).map (·.2)=[assign tg X.env]) zau3._auto_1)
  (hbase:autoParam (attributeBase (.Name x p) "pop" X.env (eval (.Name x p) X.env)=eval (.Name x p) X.env) zau3._auto_1)
  (hfew:autoParam (((backTo cpos (starEach [e] X.env)).all (λx=>!x.1)&&(backToKw cpos (keywordEach [] X.env)).all (λx=>x.1.isSome)
   && decide ([e].length+([]:List gG).length+(if ([]:List gG).isEmpty then 0 else 1)<30))=true) zau3._auto_1)
  (hline:autoParam ((apos.endLine==cpos.line)=true) zau3._auto_1) (hst:autoParam (starEach [e] X.env=(false,eval e X.env)::starEach [] X.env) zau3._auto_1) (hplain:autoParam ((backTo cpos (starEach [] X.env)).any (·.1)=false) zau3._auto_1) :
  DS X κ (.Assign [tg] (.Call (.Attribute (.Name x p) "pop" apos) [e] [] cpos) pos) (YU i we b):=by
 obtain⟨t,a1,a2⟩:=ha;obtain⟨g,g1,g2⟩:=hg;refine⟨_,K4 (R0 PySem.F.plainAttrs_list PySem.F.slot_list_pop PySem.F.type_list_pop PV h (Bl a1 CW hst) hbase hfew hline hst hplain) g1 hs hw h1,λC M H n ρ Z D2 E R L w=>?_⟩;obtain⟨xs,hi,w⟩:=w;obtain⟨a,e1,m,nv,tt⟩:=R.sl i _ hi;refine⟨.ref a,getD_some e1,OE (show ah "list" (.lst xs) from rfl) (tt.att nv),?_⟩;refine a2 C M H n ρ Z _ _ R w λv H1 d n1 ee f1 r1 p=>?_;obtain⟨k,y,rfl,hx,hk,p⟩:=p;have R1:=R.step ee f1;obtain⟨a',e1',m',nv',vs,hH,hat⟩:=R1.sl i _ hi;rw [e1] at e1';cases e1';obtain⟨v',ev,hv⟩:=hat.get hx;have hkl:k<vs.length:=(Uf.mp ev).1;refine⟨a,vs,(k:Int),k,v',rfl,by rw [Iz r1],hH,by omega,by omega,Mg hkl,ev,?_⟩;have R2:=R1.mut (e:=.lst (xs.eraseIdx k)) hi e1 (o:=.lst (vs.eraseIdx k)) ⟨vs.eraseIdx k,Al,(hat.eraseIdx k).pres (CJ m' hH)⟩;exact g2 C M _ n1 _ Z y v' _ _ R2 (hv.pres (CJ m' hH)) p λzY zZ R' w'=>L.nx M _ n1 zY zZ R' w'
end
noncomputable def IU:Ai:=λ_ _ _=>False
section
variable {X:Cx}{κ:Kd}{st:Stmt}
theorem La:DS X κ st IU:=⟨_,λ_ _ _ _ _ _ h=>h.elim,λ_ _ _ _ _ _ _ _ _ _ w=>w⟩
end
end Dp
namespace Nt
open L2 Dp
noncomputable def thn(N:Net)(ts:List BL):Prop:=(∀t∈ts,t∈N.ts)/\ts.Pairwise Bt
noncomputable abbrev L3(w:List Str):D:=.tup (w.map .str)
noncomputable def c6(t b:Int):Prop:=1<=b/\b<=1000000/\1<=t/\t<=1000000
noncomputable def walkedK(k:Nat)(M:Net)(a b:Str)(w:List Str)(d:Int):Prop:=(∃r,w=a::r)/\w.getLast?=some b/\walk M w d/\w.length<=k/\∀x∈w,x∈M.ps
noncomputable abbrev walked:=walkedK 1000
noncomputable def QK:W2:=λss n P=>∃(M:Net) (a b:Str) (w:List Str) (d:Int),ss=[.sh (enc M),.sh (.str a),.sh (.str b),.sh (L3 w)]/\okN M/\walked M a b w d/\P (.int d) n
noncomputable def Dd:Ai:=(Af (A0 4 (AU Xp (AC (AD (AB 0)) (AC (AD (AB 3)) AV))))
 (Af (A2 (Bh (AS (Aa (C4 false) (AB 4) (wC D.non))) (Bh (AS (Aa (LV true) (Aa Ar (AB 3) (wC (D.int 0))) (AB 1))) (AS (Aa (LV true) (Aa Ar (AB 3) (Wa (wC (D.int 1)))) (AB 2))))) (Am (wC D.non)) Ap)
 (Am (AB 4))))
theorem Sv{N:Net}(ok:N.Ok){w:List Str}(hl:w.length<=1000)(h:∀x∈w,x∈N.ps):au (.tup (w.map .str)):=by
 obtain⟨a,b,c⟩:=MY ok h;exact⟨a,by show L0 _<=160000; omega,by show M8 _+1<=50; omega⟩
theorem thn.okN{N:Net}(okn:okN N){ts:List BL}(h:thn N ts):okN ⟨N.ps,ts⟩:=⟨Ug okn.1 h.1 h.2,okn.2.1,by
 have:=sub_len (LX h.2) (LX okn.1.trise) h.1
 have:=okn.2.2
 grind⟩
theorem thn.thinB{N:Net}{ts:List BL}(h:thn N ts):thinB N (enc ⟨N.ps,ts⟩)=true:=thinB_iff.mpr ⟨ts,rfl,h.1,h.2⟩
theorem Pe{N:Net}(ok:N.Ok){s x:Str}:∀(k:Nat) (d:Int),d.toNat<=k->Wk N s x d->∃e,Least N s x e/\e<=d
 | k,d,hk,h=>by
  by_cases c:∃d',Wk N s x d'/\d'<d
  ·obtain⟨d',h',lt⟩:=c
   have p':=h'.pos ok
   match k with
   | 0=>omega
   | k+1 =>
    obtain⟨e,he,hle⟩:=Pe ok k d' (by omega) h'
    grind
  ·exact⟨d,⟨h,λd' h'=>iD λz=>c ⟨d',h',by omega⟩⟩,h_ _⟩
theorem Q7{M:Net}(okm:okN M){a b:Str}{w:List Str}{d:Int}(h:walked M a b w d):ZF M (L3 w)=.int d:=by
 obtain⟨⟨r,rfl⟩,_,hw,_,hin⟩:=h;exact XB okm.1 (hin _ Re) hw
section
variable {ss:List Slot}{n:Nat}{Pd:D->Nat->Prop}
theorem GR(h:QK ss n Pd):Dd (EE Pd) n (ss++Tk 1 .no):=by
 obtain⟨M,a,b,w,d,rfl,okm,hw,p⟩:=h;have e:=Q7 okm hw;obtain⟨⟨r,rfl⟩,hl,hwk,h30,hin⟩:=hw;unfold Dd;refine⟨M,L3 (a::r),rfl,okm.1,by have:=okm.2.1; omega,okm.2.2,Sv okm.1 h30 hin,?_⟩;rw [e];refine⟨rfl,.str a,AJ (j:=0) rfl,?_⟩;refine DY (λc=>absurd c (by simp)) λ_=>?_;refine⟨1,rfl,.str b,SA hl,?_⟩;refine DY (λc=>absurd c (by simp)) λ_=>?_;exact p
end
end Nt
namespace L2
open PySem.AutoSeq1 (wpAny_loadPart')
theorem We{prog:eB}{w:eG}{A:eX}{R:Result->On->Prop}{s:On}(t:Ch)(items:Array Db)(n:Nat)(x:Db)(e:Db->Bool)(j:Nat)(hj:j<items.size)(hit:e items[j]=true)(hno:∀m (hm:m<items.size),m<j->e items[m]=false)
  (hl:s.heap.get? t=some { cls:=.type "tuple",dict:=none,data:=.seq items n,slots:=#[] }) (he:∀y,y∈items->PySem.SeqAt.EqAt A.in1 s y x (e y))
  (h:R (.ok (.ret (.int (j:Int) s.toks))) { s with toks:=s.toks+1 }) :
  wpAny (model prog w) A.in1 (gg.«tuple.index» ⟨[.ref t,x],[]⟩) (λfin s'=>match fin with | .done f=>R (.ok f) s' | .again c'=>c'.quiet=true/\codeAny (model prog w) A c' R s') (λe s'=>R (.error e) s') s:=by
 obtain⟨hp,g,d,tk,os⟩:=s
 wp_walk using fD hl
 have go:∀(Q:Option _×Unit->On->Prop) (E:Db->On->Prop),(∀r,Q (some r,()) ⟨hp,g,d,tk+1,os⟩\/True)->∀(k i:Nat),i<=j->i+k=items.size ->
   (∀r:Fin,r=.done (.ret (.int (j:Int) tk))->Q (some r,()) ⟨hp,g,d,tk+1,os⟩) ->
   wpAny (model prog w) A.in1 (forIn (List.range' i k 1) ((none:Option Fin),()) (fun(i:Nat) __s=>match items[i]? with
      | some y=>do
       let __do_lift ← eqBool y x
       if __do_lift=true then do
         let __do_lift ← retInt (i:Int)
         pure (ForInStep.done (some __do_lift,()))
        else pure (gC (none,()))
      | x=>pure (gC (none,())))) Q E ⟨hp,g,d,tk,os⟩:=by
  intro Q E _ k
  induction k with
  | zero=>intro i h1 h2; omega
  | succ k ih =>
   intro i h1 h2 hQ;have hlt:i<items.size:=by omega
   rw [List.range'_succ,iB];have hi:items[i]?=some items[i]:=iE hlt;simp only [hi];refine Ev (Ev (he _ (jW hlt) prog w _ _ ?_))
   by_cases c:i=j
   ·subst c
    rw [hit]
    wp_walk
    exact hQ _ rfl
   ·rw [hno i hlt (by omega)]
    wp_walk
    exact ih (i+1) (by omega) (by omega) hQ
 show wpAny (model prog w) A.in1 (forIn [:min items.size items.size] ((none:Option Fin),()) _) _ _ _;rw [Std.Legacy.Range.forIn_eq_forIn_range']
 have er:List.range' (Std.Legacy.Range.start [:min items.size items.size]) (kB [:min items.size items.size]) (Std.Legacy.Range.step [:min items.size items.size])=List.range' 0 items.size 1:=by
  simp [kB]
 rw [er];refine go _ _ (λ_=>.inr trivial) items.size 0 (dY _) (jo _) λr er=>?_;subst er;exact T0 h
section
variable {X:Cx}
noncomputable def aF:V->List V->Hp->VK->Prop:=λx vs H Q=>∃(a:Ch) (xs:List V) (y:V) (ds:List iH) (d:iH) (j:Nat),x=.ref a/\vs=[y]/\H a=some (.tup xs)/\RVs H ds xs/\RV H d y/\gD ds=true/\d.canLay0=true/\d.depth<=100 /\
 (∃dj,ds[j]?=some dj/\e9 dj d=true)/\(∀m dm,m<j->ds[m]?=some dm->e9 dm d=false)/\Q (.int (j:Int)) H
theorem Y_{k:Nat}(hr:Room k X.A):bP X "tuple.index" aF:=by
 intro zG s Z H x vs v us Q I rx rv h;obtain⟨l,xs,y,ds,d,j,rfl,rfl,hH,hds,hd,c1,c2,dd,⟨dj,hj,hit⟩,hno,q⟩:=h;cases rx;obtain⟨u,rfl,ru⟩:=rv.one;obtain⟨z,its,r,⟨⟨cls,dt,data,sl⟩,e,e2,n,e3,e4,e5⟩⟩:=(show ObjOk X.prog X.w H s.heap l (.tup xs) from I.hok l _ hH);simp only at e2 e3 e4 e5;subst e2 e3 e4 e5;obtain⟨as,ra⟩:=RVs.reads I hds r;obtain⟨bs,rb⟩:=RV.reads I hd ru;have hm:=PySem.SeqAt.readsAll_map ds its as c1 ra;have hlen:ds.length=its.length:=by rw [← hm,Go]
 have hu:=hr.un;have hmin:min (fg ds) d.depth<=d.depth:=iX _ _
 have at_:∀m dm,ds[m]?=some dm->∀(h:m<its.toArray.size),PySem.SeqAt.readOf s.heap its.toArray[m]=dm:=λm dm e h=>by
  rw [← hm,dX] at e;have h':m<its.length:=by simpa using h
  rw [No h'] at e;have e:=dh e
  simpa using e
 have hjl:j<its.length:=by rw [← hlen]; exact(Uf.mp hj).1
 have key:=We (prog:=X.prog) (w:=X.w) (A:=X.A) (R:=wants (EP X zG Z Q) X.xe) l its.toArray n u (λy=>e9 (PySem.SeqAt.readOf s.heap y) d) j (by rw [dW]; exact hjl) (by rw [at_ j dj hj]; exact hit) (λm hm' hlt=>by
  have hml:m<ds.length:=by rw [hlen]; simpa using hm'
  rw [at_ m ds[m] (No hml) hm'];exact hno m ds[m] hlt (No hml)) e (PySem.SeqAt.items_eqAt (vs:=its.toArray) (by rw [i9]; exact ra) rb c1 c2 (by omega)) ⟨.int j,H,I.tok _,⟨_,rfl⟩,q⟩
 exact ja (iy PySem.F.slot_tuple_index.plain PySem.F.entry_tuple_index (PySem.F.slot_tuple_index.check _ _ _ _ _ _ _ _ ⟨_,e,rfl⟩ (PySem.F.args_tuple_index_2 _ _) key))
noncomputable def bu(r:V->List V->Hp->VK->Prop)(to:TE)(t:TA):TE:=λZ H Q=>to Z H λx H1=>(∃a xs,x=.ref a/\H1 a=some (.tup xs))/\t Z H1 λxs H2=>r x xs H2 Q
theorem Yy{o e:d6}{es:List d6}{to:TE}{t:TA}{name:Str}{apos cpos:Pos}{id:String}{r:V->List V->Hp->VK->Prop}(slot:Slot "tuple" name id)(hty:typeOf (.builtin id)=pure (.type "method_descriptor"))(hm:bP X id r)(ho:PE X o to)(ha:PA X (e::es) t)
  (hbase:autoParam (attributeBase o name X.env (eval o X.env)=eval o X.env) zau3._auto_1)
  (hfew:autoParam (((backTo cpos (starEach (e::es) X.env)).all (λx=>!x.1)&&(backToKw cpos (keywordEach [] X.env)).all (λx=>x.1.isSome)
   && decide ((e::es).length+([]:List gG).length+(if ([]:List gG).isEmpty then 0 else 1)<30))=true) zau3._auto_1)
  (hline:autoParam ((apos.endLine==cpos.line)=true) zau3._auto_1) (hs:autoParam (starEach (e::es) X.env=(false,eval e X.env)::starEach es X.env) zau3._auto_1) (hplain:autoParam ((backTo cpos (starEach es X.env)).any (·.1)=false) zau3._auto_1) :
  PE X (.Call (.Attribute o name apos) (e::es) [] cpos) (bu r to t):=by
 intro zG s Z H Q I h;refine wpAny_Call_method_late hbase hfew hline rfl (thn (ho zG s Z H _ I h) λv s1 ⟨x,H1,I1,r1,⟨a,xs,ex,hx⟩,q1⟩=>?_);subst ex;have ev:v=eh a:=r1;subst ev;obtain⟨z,its,_,o,e1,e2,n,e3,e4,e5⟩:=(show ObjOk X.prog X.w H1 s1.heap a (.tup xs) from I1.hok a _ hx);refine⟨"tuple",id,PySem.F.plainAttrs_tuple,slot,hty,⟨o,e1,e2⟩,λb eb=>by cases eb; exact⟨o,e1,e4⟩,?_⟩;have hA:=ha cpos zG s1 Z H1 _ I1 q1;rw [hs] at hA ⊢;refine gJ (by show (false||(backTo cpos (starEach es X.env)).any (·.1))=false; rw [hplain] <;> rfl) (hU ?_);exact thn hA λus s2 ⟨vs,H2,I2,r2,q2⟩=>hm zG s2 Z H2 (.ref a) vs (.ref a) us Q I2 r1 r2 q2
end
end L2
namespace Dp
open L2
section
variable {X:Cx}{zU:Kd}{a e:Expr}{es:List Expr}{wa:DW}{ws:GQ}
noncomputable def av(d:D)(ds:List D)(P:D->Prop):Prop:=∃(xs:List D) (y:D) (j:Nat),d=.tup xs/\ds=[y]/\CY (.tup xs)/\CY y/\(∃x,xs[j]?=some x/\Cw x y=true)/\(∀m x,m<j->xs[m]?=some x->Cw x y=false)/\P (.int (j:Int))
noncomputable def NR(wo:DW)(ws:GQ):DW:=λn ρ P=>wo n ρ λd n1=>(∃xs,d=.tup xs)/\ws n1 ρ λds n2=>av d ds λz=>P z n2
theorem bC{K:Frag}:dM K .sh "tuple" aF av:=by
 intro U M H d ds x vs P Q dom vM hx hp w q;obtain⟨xs,y,j,rfl,rfl,⟨n1,l1,_⟩,⟨n2,l2,d2⟩,⟨x0,hx0,hit⟩,hno,w⟩:=w;obtain⟨v,rfl,hy⟩:=FF hp;obtain⟨a,us,rfl,hn,hs⟩:=hx.tup
 have get:∀(m:Nat) (p:iH),(Be xs)[m]?=some p->∃x,xs[m]?=some x/\p=toPy x:=λm p e=>by
  rw [DH,dX] at e;obtain⟨x,e1,rfl⟩:=eT.mp e;exact⟨x,e1,rfl⟩
 refine⟨a,us,v,Be xs,toPy y,j,rfl,rfl,hn,hs.rv n1,hy.rv n2,l1,l2,d2,⟨toPy x0,by rw [DH,dX,hx0]; rfl,hit⟩,λm p hm e=>?_,q _ H (.int (j:Int)) .refl rfl w⟩;obtain⟨x',e1,rfl⟩:=get m p e;exact hno m x' hm e1
theorem JB{k:Nat}{apos cpos:Pos}(hr:Room k X.A)(ho:DE X a zU wa)(ha:YL X (e::es) ws)
  (hbase:autoParam (attributeBase a "index" X.env (eval a X.env)=eval a X.env) zau3._auto_1)
  (hfew:autoParam (((backTo cpos (starEach (e::es) X.env)).all (λx=>!x.1)&&(backToKw cpos (keywordEach [] X.env)).all (λx=>x.1.isSome)
   && decide ((e::es).length+([]:List gG).length+(if ([]:List gG).isEmpty then 0 else 1)<30))=true) zau3._auto_1)
  (hline:autoParam ((apos.endLine==cpos.line)=true) zau3._auto_1) (hs:autoParam (starEach (e::es) X.env=(false,eval e X.env)::starEach es X.env) zau3._auto_1) (hplain:autoParam ((backTo cpos (starEach es X.env)).any (·.1)=false) zau3._auto_1) :
  DE X (.Call (.Attribute a "index" apos) (e::es) [] cpos) .sh (NR wa ws):=by
 obtain⟨t,h1,h2⟩:=ho;obtain⟨u,g1,g2⟩:=ha;refine⟨_,Yy PySem.F.slot_tuple_index PySem.F.type_tuple_index (Y_ hr) h1 g1 hbase hfew hline hs hplain,λC M H n ρ Z P Q R w q=>?_⟩;refine h2 C M H n ρ Z _ _ R w λx H1 d n1 e1 f1 r1 p=>?_;have R1:=R.step e1 f1;have tx:=r1.tpOf R.dom R.vM;obtain⟨⟨xs,rfl⟩,p⟩:=p;refine⟨by obtain⟨a,us,rfl,hn,hs⟩:=tx.tup; exact⟨a,us,rfl,hn⟩,?_⟩;refine g2 C M H1 n1 ρ Z _ _ R1 p λvs H2 ds n2 e2 f2 r2 p2=>?_;have R2':=R1.step e2 f2;refine bC C.V M H2 (.tup xs) ds x vs _ _ R2'.dom R2'.vM (tx.pres (R1.pres e2) e2 R.uV) r2 p2 λv H3 z g vr pz=>?_;exact q v H3 z n2 ((e1.trans e2).trans g.ext) (f2.grow g) (VR.back (e1.trans e2) vr) pz
end
end Dp
namespace L2
open PySem.W
end L2
namespace Dp
open L2
end Dp
namespace Nt
open L2 Dp
noncomputable def RB:D->Bool
 | .int i=>decide (0<=i)
 | _=>false
noncomputable def Zv(N:Net):D->Bool
 | .tup xs=>((xs.length:Int)==(N.ps.length:Int))&&xs.all RB
 | _=>false
noncomputable def cA:D->Int
 | .int i=>i
 | _=>0
noncomputable def Im(N:Net)(xs:List D)(a:Str):Int:=cA ((BP (N.ps.map .inr) xs (.inr a)).getD .non)
noncomputable def GU(i:Int):Int:=if i<0 then -i else i
noncomputable def Mw(N:Net):D->Bool
 | .tup xs=>Zv N (.tup xs)&&N.ts.all λt=>decide (GU (Im N xs t.a - Im N xs t.b)<=t.len)
 | _=>false
noncomputable def JC(m:Int):Option Int->Int
 | some d=>if d<m then d else m
 | none=>m
noncomputable def KI:W2:=λss n P=>∃(N:Net) (d:D),ss=[.sh (enc N),.sh d]/\okN N/\P (.bl (Zv N d)) n
noncomputable def UG:W2:=λss n P=>∃(N:Net) (xs:List D) (a b:Str),ss=[.sh (enc N),.sh (.tup xs),.sh (.str a),.sh (.str b)]/\okN N/\xs.length=N.ps.length/\(∀x∈xs,RB x=true)/\a∈N.ps/\b∈N.ps/\P (.int (GU (Im N xs a - Im N xs b))) n
noncomputable def QL:W2:=λss n P=>∃(N:Net) (d:D),ss=[.sh (enc N),.sh d]/\okN N/\P (.bl (Mw N d)) n
noncomputable def Lu:W2:=λss n P=>∃(N:Net) (s:Str) (m:Int),ss=[.sh (enc N),.sh (.str s),.sh (.int m)]/\okN N/\s∈N.ps/\∀F:NO,Told N s F->P (.tup (N.ps.map λx=>.int (JC m ((F x).map (·.1))))) n
noncomputable def Ge:Ai:=(Am (EI (AU B8 (AC (AD (Bs CF (AE (Aa Ar (AB 0) (wC (D.int 0))) AY))) (AC (AD (AB 1)) AV))) (Bs Fk (AE (BS [none] (A1 (AB 1)) (AR 0) Cf (EI (AU C8 (AC (AD (AB 0)) AV)) (Aa (f2 λi j=>D.bl (decide (j<=i))) (AB 0) (wC (D.int 0))))) AY))))
noncomputable def Hl:Ai:=(Am (Bs T1 (AE (Aa Fi (Aa Ar (AB 1) (NR (Aa Ar (AB 0) (wC (D.int 0))) (AE (AB 2) AY))) (Aa Ar (AB 1) (NR (Aa Ar (AB 0) (wC (D.int 0))) (AE (AB 3) AY)))) AY)))
noncomputable def Lj:Ai:=(Af (A2 (A5 (AS (AU KI (AC (AD (AB 0)) (AC (AD (AB 1)) AV))))) (Am (wC (D.bl false))) Ap)
 (Am (Bs Fk (AE (BS [some 0,some 1,none,none,none] (A1 (Aa Ar (AB 0) (wC (D.int 1)))) (Bi 3 (AX (AR 2) (AX (AR 3) (AX (AR 4) BB)))) Cf (Aa Pu (AU UG (AC (AD (AB 0)) (AC (AD (AB 1)) (AC (AD (AB 2)) (AC (AD (AB 3)) AV))))) (AB 4))) AY))))
noncomputable def Fp:Ai:=(Af (A0 3 (AU HF (AC (AD (AB 0)) (AC (AD (AB 1)) AV))))
 (Am (Bs Bm (AE (BS [some 2,some 3,none] (A1 (Aa Ar (AB 0) (wC (D.int 0)))) (AR 2) Cf (bh (AS (Aa (Jw false) (AB 2) (AB 1))) (Bs Mz (AE (AB 0) (AE (Aa Ar (Aa CC (AB 1) (AB 2)) (wC (D.int 0))) AY))) (AB 0))) AY))))
theorem Rg:∀{ks:List Key} {ds:List D} {k:Key} {z:D},BP ks ds k=some z->z∈ds
 | [],_,k,z,h=>by cases h
 | _::_,[],k,z,h=>by cases h
 | k0::ks,d::ds,k,z,h=>by
  have h':(if k0=k then some d else BP ks ds k)=some z:=h
  split at h'
  ·cases h'; exact Re
  ·exact Sc _ (Rg h')
theorem UT:∀{ps:List Str} {xs:List D} {j:Nat} {a:Str},ps.Nodup->ps[j]?=some a->BP (ps.map .inr) xs (.inr a)=xs[j]?
 | [],xs,j,a,_,h=>by simp at h
 | p::ps,[],j,a,_,h=>by simp; rfl
 | p::ps,x::xs,j,a,nd,h=>by
  rw [eF] at nd;show (if (fN p:Key)=.inr a then some x else BP (ps.map .inr) xs (.inr a))=_;cases j with
  | zero =>
   cases (show p=a by simpa using h);rw [if_pos rfl];rfl
  | succ j =>
   have h:ps[j]?=some a:=by simpa using h
   rw [if_neg λz=>nd.1 (by rw [f8 z]; exact eQ h),UT nd.2 h];simp
theorem ge_int{d:D}(h:RB d=true):∃i,d=.int i/\0<=i:=by
 cases d with
 | int i=>exact⟨i,rfl,of_decide_eq_true h⟩
 | _=>cases h
theorem Nh{ps:List Str}(h:rising ps):ps.Nodup:=List.Pairwise.imp (λ{a b} z e=>by rw [e] at z; exact CP _ z) h
theorem bi{N:Net}{xs:List D}(hl:xs.length=N.ps.length)(hg:∀x∈xs,RB x=true){a:Str}(ha:a∈N.ps):BP (N.ps.map .inr) xs (.inr a)=some (.int (Im N xs a)):=by
 obtain⟨z,hz⟩:=IW (ks:=N.ps.map .inr) (ds:=xs) (k:=.inr a) (by rw [Go]; exact hl.symm) (Rs.mpr ⟨a,ha,rfl⟩);obtain⟨i,rfl,_⟩:=ge_int (hg z (Rg hz));unfold Im;rw [hz];rfl
section
variable {ss:List Slot}{n:Nat}{Pd:D->Nat->Prop}
theorem Kz(h:KI ss n Pd):Ge (EE Pd) n (ss++Tk 0 .no):=by
 obtain⟨N,d,rfl,okn,p⟩:=h;have l25:=okn.2.1;unfold Ge;refine⟨_,AJ (j:=0) rfl,_,_,rfl,rfl,_,d,rfl,?_⟩;cases d with
 | tup xs =>
  have p':Pd (.bl (((xs.length:Int)==(N.ps.length:Int))&&xs.all RB)) n:=p;rw [Go];refine RO (b1:=((xs.length:Int)==(N.ps.length:Int))) (λhb p2=>?_) p';have hl:xs.length=N.ps.length:=by have:=beq_iff_eq.mp hb; omega
  refine⟨by show xs.length<=10000000; omega,?_⟩;refine BC (λd=>.bl (RB d)) (λρ=>∃s,ρ=[s]) _ _ _ _ ?_ ⟨_,rfl⟩ ?_
  ·rintro d hd ρ m nx ⟨s,rfl⟩ hnx
   refine⟨[d],rfl,rfl,?_⟩;cases d with
   | int i=>exact hnx _ ⟨_,rfl⟩
   | _=>exact hnx _ ⟨_,rfl⟩
  ·rw [d8]
   exact Fj (p:=RB) (P:=λz=>Pd z n) p2
 | _=>exact p
theorem Mu{N:Net}(okn:okN N){xs:List D}(hl:xs.length=N.ps.length)(hg:∀x∈xs,RB x=true){a:Str}(ha:a∈N.ps):∃j:Nat,xs[j]?=some (.int (Im N xs a))/\CY (.tup (N.ps.map .str))/\CY (.str a)/\(∃x,(N.ps.map D.str)[j]?=some x/\Cw x (.str a)=true)/\∀(m:Nat) (x:D),m<j->(N.ps.map D.str)[m]?=some x->Cw x (.str a)=false:=by
 have nd:=Nh okn.1.rise;obtain⟨j,hj⟩:=gR.mp ha;refine⟨j,by rw [← UT nd hj,bi hl hg ha],B9 okn.1.names,?_,⟨.str a,by rw [dX,hj]; rfl,by rw [J7,beq_self_eq_true]⟩,λm x hm hx=>?_⟩
 ·exact Ez (B:=0) (by decide) (λc hc=>by have:=(okn.1.names a ha).2.2 c hc; omega) (dY _)
 ·rw [dX] at hx
  obtain⟨y,hy,rfl⟩:=eT.mp hx;rw [J7,beq_eq_false_iff_ne];intro e;subst e;obtain⟨h1,e1⟩:=Uf.mp hy;obtain⟨h2,e2⟩:=Uf.mp hj
  have:=(List.getElem_inj nd).mp (e1.trans e2.symm)
  omega
theorem L_(h:UG ss n Pd):Hl (EE Pd) n (ss++Tk 0 .no):=by
 obtain⟨N,xs,a,b,rfl,okn,hl,hg,ha,hb,p⟩:=h;obtain⟨i,i2,hlay,i3,i4,i5⟩:=Mu okn hl hg ha;obtain⟨j,j2,_,j3,j4,j5⟩:=Mu okn hl hg hb;unfold Hl;exact⟨_,AJ (j:=0) rfl,⟨_,rfl⟩,_,_,i,rfl,rfl,hlay,i3,i4,i5,_,AJ i2,_,AJ (j:=0) rfl,⟨_,rfl⟩,_,_,j,rfl,rfl,hlay,j3,j4,j5,_,AJ j2,p⟩
theorem O7(h:QL ss n Pd):Lj (EE Pd) n (ss++Tk 0 .no):=by
 obtain⟨N,d,rfl,okn,p⟩:=h;have ok:=okn.1;have l60:=okn.2.2;unfold Lj;refine⟨N,d,rfl,okn,?_⟩;show if (!(Zv N d))=true then _ else _
 cases hp:Zv N d with
 | false =>
  have:Mw N d=false:=by
   cases d with
   | tup xs=>show (Zv N (.tup xs)&&_)=false; rw [hp]; rfl
   | _=>rfl
  rw [this] at p;exact EC p
 | true =>
  cases d with
  | tup xs =>
   have hp':(((xs.length:Int)==(N.ps.length:Int))&&xs.all RB)=true:=hp;rw [de] at hp';have hl:xs.length=N.ps.length:=by have:=beq_iff_eq.mp hp'.1; omega
   have hg:∀x∈xs,RB x=true:=fB.mp hp'.2;have p':Pd (.bl (Zv N (.tup xs)&&N.ts.all λt=>decide (GU (Im N xs t.a - Im N xs t.b)<=t.len))) n:=p;rw [hp,iV] at p';refine Bp ⟨_,AJ (j:=1) rfl,by show (N.ts.map Ao).length<=10000000; rw [Go]; omega,?_⟩;refine BC (λd=>match d with | .tup [.str a,.str b,.int l]=>.bl (decide (GU (Im N xs a - Im N xs b)<=l)) | _=>.non) (λρ=>∃s2 s3 s4,ρ=[.sh (enc N),.sh (.tup xs),s2,s3,s4]) _ _ _ _ ?_ ⟨_,_,_,rfl⟩ ?_
   ·rintro d hd ρ m nx ⟨s2,s3,s4,rfl⟩ hnx
    obtain⟨t,ht,rfl⟩:=Rs.mp hd;obtain⟨m1,m2,_⟩:=ok.tin t ht;exact⟨rfl,rfl,N,xs,t.a,t.b,rfl,okn,hl,hg,m1,m2,hnx _ ⟨_,_,_,rfl⟩⟩
   ·rw [d8,fQ]
    exact Fj (p:=λt:BL=>decide (GU (Im N xs t.a - Im N xs t.b)<=t.len)) (P:=λz=>Pd z n) p'
  | _=>cases hp
theorem Jk(h:Lu ss n Pd):Fp (EE Pd) n (ss++Tk 1 .no):=by
 obtain⟨N,s,m,rfl,okn,hs,p⟩:=h;have l25:=okn.2.1;unfold Fp;refine⟨N,s,rfl,okn,hs,λks ds F M T=>?_⟩;refine⟨_,AJ (j:=0) rfl,by show (N.ps.map D.str).length<=10000000; rw [Go]; omega,?_⟩;refine BC (λd=>match d with | .str x=>.int (JC m ((F x).map (·.1))) | _=>.non) (λρ=>∃s2,ρ=[.sh (.int m),.sh (.dic ks ds),s2]) _ _ _ _ ?_ ⟨_,rfl⟩ ?_
 ·rintro d hd ρ m' nx ⟨s2,rfl⟩ hnx
  obtain⟨x,hx,rfl⟩:=Rs.mp hd;refine⟨ks,ds,_,rfl,A_ x,?_⟩;show if ((BP ks ds (.inr x)).isSome)=true then _ else _
  have hnx:nx (.int (JC m ((F x).map (·.1)))) m' [.sh (.int m),.sh (.dic ks ds),.sh (.str x)]:=hnx _ ⟨.sh (.str x),rfl⟩;rw [M.at_];cases ex:F x with
  | none =>
   rw [ex] at hnx;exact Bp hnx
  | some q =>
   rw [ex] at hnx;exact EC ⟨ks,ds,_,I_ q,rfl,A_ x,by rw [M.at_,ex]; rfl,_,AJ (j:=0) rfl,hnx⟩
 ·rw [d8,fQ]
  exact p F T
end
theorem Zc{m:Int}(hm:0<=m){o:Option Int}(ho:∀d,o=some d->0<=d):0<=JC m o/\JC m o<=m:=by
 cases o with
 | none=>exact⟨hm,h_ _⟩
 | some d =>
  have:=ho d rfl
  show 0<=(if d<m then d else m)/\(if d<m then d else m)<=m
  split <;> omega
end Nt
namespace Dp
open L2
mutual
noncomputable def flat:D->Bool
 | .tup ds=>Vm ds
 | .lst _=>false
 | .dic _ _=>false
 | .fdi _ _=>false
 | .dit _ _=>false
 | _=>true
noncomputable def Vm:List D->Bool
 | []=>true
 | d::ds=>flat d&&Vm ds
end
section
variable {K:Frag}{M M':Addr->Prop}{H:Hp}
mutual
theorem XI:∀(d:D) {v:V},flat d=true->At K M H d v->At K M' H d v
 | .non,_,_,h=>h
 | .bl _,_,_,h=>h
 | .int _,_,_,h=>h
 | .str _,_,_,h=>h
 | .tup ds,_,f,⟨a,vs,e,n,h⟩=>⟨a,vs,e,n,Ps ds f h⟩
 | .lst _,_,f,_=>by cases f
 | .dic _ _,_,f,_=>by cases f
 | .fdi _ _,_,f,_=>by cases f
 | .dit _ _,_,f,_=>by cases f
theorem Ps:∀(ds:List D) {vs:List V},Vm ds=true->Ats K M H ds vs->Ats K M' H ds vs
 | [],_,_,h=>h
 | d::ds,_,f,⟨v,r,e,h,hs⟩=>⟨v,r,e,XI d (de _ _▸f:_/\_).1 h,Ps ds (de _ _▸f:_/\_).2 hs⟩
end
end
end Dp
set_option maxHeartbeats 400000
namespace Dp
open L2
end Dp
namespace Nt
open L2 Dp
noncomputable abbrev c5(t b:Int):D:=.tup [.int t,.int b]
noncomputable def GP:W2:=λss n P=>∃t b l:Int,ss=[.sh (c5 t b),.sh (.int l)]/\c6 t b/\P (.int (l*t / b+1)) n
noncomputable def ET:Ai:=(Am (Aa B0 (Aa (YB UK λi j=>D.int (i / j)) (Aa LU (AB 1) (Aa Ar (AB 0) (wC (D.int 0)))) (Aa Ar (AB 0) (wC (D.int 1)))) (wC (D.int 1))))
theorem walkedK.up{k:Nat}(hk:k<=1000){M:Net}{a b:Str}{w:List Str}{d:Int}(h:walkedK k M a b w d):walked M a b w d:=⟨h.1,h.2.1,h.2.2.1,dn h.2.2.2.1 hk,h.2.2.2.2⟩
section
variable {ss:List Slot}{n:Nat}{Pd:D->Nat->Prop}
theorem O8(h:GP ss n Pd):ET (EE Pd) n (ss++Tk 0 .no):=by
 obtain⟨t,b,l,rfl,⟨b1,b2,t1,t2⟩,p⟩:=h;unfold ET;exact⟨_,AJ (j:=0) rfl,.inr (by constructor <;> omega),_,AJ (j:=1) rfl,⟨by omega,by omega⟩,p⟩
end
theorem J1{N:Net}(g:Str->Int){a:Str}(ha:a∈N.ps):Im N ((N.ps.map g).map .int) a=g a:=by
 unfold Im;rw [fQ,Jy,if_pos ha];rfl
theorem Tz{M:Net}(ok:M.Ok)(g:Str->Int)(h0:∀x∈M.ps,0<=g x)(h:∀t∈M.ts,GU (g t.a - g t.b)<=t.len):Mw M (.tup ((M.ps.map g).map .int))=true:=by
 show (((((((M.ps.map g).map D.int).length:Nat):Int)==(M.ps.length:Int))&&((M.ps.map g).map D.int).all RB)&&M.ts.all λt=>decide (GU (Im M ((M.ps.map g).map .int) t.a - Im M ((M.ps.map g).map .int) t.b)<=t.len))=true;rw [Go,Go,beq_self_eq_true,iV,de];refine⟨fB.mpr λd hd=>?_,fB.mpr λt ht=>?_⟩
 ·obtain⟨i,hi,rfl⟩:=Rs.mp hd
  obtain⟨x,hx,rfl⟩:=Rs.mp hi;exact decide_eq_true (h0 x hx)
 ·obtain⟨m1,m2,_⟩:=ok.tin t ht
  rw [J1 g m1,J1 g m2];exact decide_eq_true (h t ht)
theorem XJ{M:Net}(ok:M.Ok){s x:Str}{o:Option Int}(h:Far M s x o):∀d,o=some d->0<=d:=λd e=>by
 rw [e] at h;exact(show Least M s x d from h).1.pos ok
theorem RG{M:Net}(ok:M.Ok){s:Str}{G:Kn}(hG:∀x,Far M s x (G x)){m:Int}{t:BL}(ht:t∈M.ts):GU (JC m (G t.a) - JC m (G t.b))<=t.len:=by
 obtain⟨_,_,_,l1,_⟩:=ok.tin t ht;obtain⟨d1,d2⟩:=OK ht
 have up:∀{y z:Str} {l:Int},Ed M y z l->∀d,G y=some d->∃d',G z=some d'/\d'<=d+l:=λ{y z l} he d e=>by
  have hy:=hG y;rw [e] at hy;have hw:Wk M s z (d+l):=Wk.snoc (show Least M s y d from hy).1 he;have hz:=hG z;cases ez:G z with
  | none=>rw [ez] at hz; exact absurd hw (hz _)
  | some d'=>rw [ez] at hz; exact⟨d',rfl,(show Least M s z d' from hz).2 _ hw⟩
 have u1:=up d1;have u2:=up d2;cases ea:G t.a with
 | none =>
  cases eb:G t.b with
  | none=>unfold GU JC; split <;> omega
  | some b=>obtain⟨d',z,_⟩:=u2 b eb; rw [ea] at z; cases z
 | some a =>
  cases eb:G t.b with
  | none=>obtain⟨d',z,_⟩:=u1 a ea; rw [eb] at z; cases z
  | some b =>
   obtain⟨b',z1,h1⟩:=u1 a ea;rw [eb] at z1; cases z1
   obtain⟨a',z2,h2⟩:=u2 b eb;rw [ea] at z2; cases z2
   show (if (if a<m then a else m) - (if b<m then b else m)<0 then -((if a<m then a else m) - (if b<m then b else m)) else (if a<m then a else m) - (if b<m then b else m))<=t.len
   split <;> split <;> split <;> omega
end Nt
set_option maxHeartbeats 4000000
namespace Dp
open L2
noncomputable def Rc(j i:Nat)(we:DW):Ai:=λD2 n ρ=>∃ys xs,i≠j/\ρ[j]?=some (.ow (.lst ys))/\ρ[i]?=some (.ow (.lst xs))/\we n ρ λd n1=>∃(k:Nat) (x:D),d=.int (k:Int)/\xs[k]?=some x/\k<2 ^ 60/\ys.length<sizeLine/\D2.nx n1 ((ρ.set i (.ow (.lst (xs.eraseIdx k)))).set j (.ow (.lst (ys++[x]))))
section
variable {X:Cx}{κ zR:Kd}{e:Expr}{we:DW}{pos p apos cpos p2 apos2 cpos2:Pos}{x y:Str}{i j:Nat}
noncomputable abbrev ar(X:Cx)(cpos:Pos)(e:d6):Bool:=((backTo cpos (starEach [e] X.env)).all (λx=>!x.1)&&(backToKw cpos (keywordEach [] X.env)).all (λx=>x.1.isSome)
   && decide ([e].length+([]:List gG).length+(if ([]:List gG).isEmpty then 0 else 1)<30))
theorem T4(hy:PE X (.Name y p2) (B3 j))(h:PE X (.Name x p) (B3 i))(ha:DE X e zR we)
  (hbase:autoParam (attributeBase (.Name x p) "pop" X.env (eval (.Name x p) X.env)=eval (.Name x p) X.env) zau3._auto_1) (hfew:autoParam (ar X cpos e=true) zau3._auto_1)
  (hline:autoParam ((apos.endLine==cpos.line)=true) zau3._auto_1) (hst:autoParam (starEach [e] X.env=(false,eval e X.env)::starEach [] X.env) zau3._auto_1) (hplain:autoParam ((backTo cpos (starEach [] X.env)).any (·.1)=false) zau3._auto_1)
  (hbase2:autoParam (attributeBase (.Name y p2) "append" X.env (eval (.Name y p2) X.env)=eval (.Name y p2) X.env) zau3._auto_1) (hfew2:autoParam (ar X cpos2 (.Call (.Attribute (.Name x p) "pop" apos) [e] [] cpos)=true) zau3._auto_1)
  (hline2:autoParam ((apos2.endLine==cpos2.line)=true) zau3._auto_1) (hst2:autoParam (starEach [.Call (.Attribute (.Name x p) "pop" apos) [e] [] cpos] X.env=(false,eval (.Call (.Attribute (.Name x p) "pop" apos) [e] [] cpos) X.env)::starEach [] X.env) zau3._auto_1) (hplain2:autoParam ((backTo cpos2 (starEach [] X.env)).any (·.1)=false) zau3._auto_1)
  (hsw:autoParam (swapsWith (.Call (.Attribute (.Name y p2) "append" apos2) [.Call (.Attribute (.Name x p) "pop" apos) [e] [] cpos] [] cpos2) none pos.line X.env=pure false) zau3._auto_1) :
  DS X κ (.Expr (.Call (.Attribute (.Name y p2) "append" apos2) [.Call (.Attribute (.Name x p) "pop" apos) [e] [] cpos] [] cpos2) pos) (Rc j i we):=by
 obtain⟨t,a1,a2⟩:=ha;refine⟨_,Ru (R0 PySem.F.plainAttrs_list PySem.F.slot_list_append PySem.F.type_list_append DJ hy (Bl (R0 PySem.F.plainAttrs_list PySem.F.slot_list_pop PySem.F.type_list_pop PV h (Bl a1 CW hst) hbase hfew hline hst hplain) CW hst2) hbase2 hfew2 hline2 hst2 hplain2) hsw,λC M H n ρ Z D2 E R L w=>?_⟩;obtain⟨ys,xs,hij,hj,hi,w⟩:=w;obtain⟨b,e2,m2,nv2,tt2⟩:=R.sl j _ hj;refine⟨.ref b,getD_some e2,OE (show ah "list" (.lst ys) from rfl) (tt2.att nv2),?_⟩;obtain⟨a,e1,m,nv,tt⟩:=R.sl i _ hi;refine⟨.ref a,getD_some e1,OE (show ah "list" (.lst xs) from rfl) (tt.att nv),?_⟩;refine a2 C M H n ρ Z _ _ R w λv H1 d n1 ee f1 r1 p=>?_;obtain⟨k,z,rfl,hx,hk,hl,p⟩:=p;have R1:=R.step ee f1;obtain⟨a',e1',m',nv',vs,hH,hat⟩:=R1.sl i _ hi;rw [e1] at e1';cases e1';obtain⟨v',ev,hv⟩:=hat.get hx;have hkl:k<vs.length:=(Uf.mp ev).1;refine⟨a,vs,(k:Int),k,v',rfl,by rw [Iz r1],hH,by omega,by omega,Mg hkl,ev,?_⟩;have R2:=R1.mut (e:=.lst (xs.eraseIdx k)) hi e1 (o:=.lst (vs.eraseIdx k)) ⟨vs.eraseIdx k,Al,(hat.eraseIdx k).pres (CJ m' hH)⟩;have hj2:(ρ.set i (.ow (.lst (xs.eraseIdx k))))[j]?=some (.ow (.lst ys)):=by rw [ii hij]; exact hj
 obtain⟨b',e2',m2',nv2',us,hH2,hat2⟩:=R2.sl j _ hj2;rw [e2] at e2';cases e2';exact QJ M _ b (.lst ys) [z] [v'] _ _ m2' ⟨us,hH2,hat2⟩ (Ats.one (hv.pres (CJ m' hH))) ⟨ys,z,rfl,rfl,hl,p⟩ λo d' zz vv t2 hz pp=>L.nx M _ n1 _ Z (R2.mut hj2 e2 t2) pp
end
end Dp
namespace Nt
open L2 Dp
noncomputable def IM:W2:=λss n P=>∃m:Nat,ss=[.fd,.sh (.int m)]/\m<=24/\1<=n/\∀xs:List Str,xs.length=m->(∀x∈xs,Po x)->rising xs->P (.tup (xs.map .str)) (n - 1)
noncomputable def Lx:W2:=λss n P=>∃s:Int,ss=[.fd,.sh (.int s)]/\0<=s/\1<=n/\∀r:Int,1<=r->r<=1000000->P (.int r) (n - 1)
noncomputable def Oc:W2:=λss n P=>∃most ties:Nat,ss=[.fd,.sh (.int most),.sh (.int ties)]/\2<=most/\most<=24/\3<=ties/\ties<=60/\130<=n/\∀(N:Net) (n':Nat),N.Ok->2<=N.ps.length->N.ps.length<=most->N.ts.length<=ties->n - 130<=n'->P (enc N) n'
noncomputable def Fy:Ai:=(Af (A0 2 (DL (AE (wC (D.str "a")) (AE (wC (D.str "ab")) (AE (wC (D.str "aba")) (AE (wC (D.str "b")) (AE (wC (D.str "in")) (AE (wC (D.str "out")) (AE (wC (D.str "place")) (AE (wC (D.str "tie")) (AE (wC (D.str "c")) (AE (wC (D.str "ca")) (AE (wC (D.str "near")) (AE (wC (D.str "z")) AY))))))))))))))
 (Af (A0 2 (Aa B0 (AB 2) (DL (AE (wC (D.str "za")) (AE (wC (D.str "zb")) (AE (wC (D.str "x")) (AE (wC (D.str "xy")) (AE (wC (D.str "y")) (AE (wC (D.str "q")) (AE (wC (D.str "qq")) (AE (wC (D.str "d")) (AE (wC (D.str "e")) (AE (wC (D.str "f")) (AE (wC (D.str "g")) (AE (wC (D.str "h")) AY)))))))))))))))
 (Af (A0 3 (AU DB (AC (CA 0) (AC (AD (wC (D.int 24))) AV))))
 (Am (Bs Bm (AE (Bs Vq (AE (BS [some 2,some 3,none] (GV (AE (AB 1) AY)) (AR 2) Cf (Aa Ar (AB 0) (Aa (YB (λ_ j=>0<j) λi j=>D.int (i % j)) (Aa B0 (AB 1) (AB 2)) (wC (D.int 24))))) AY)) AY))))))
noncomputable def FJ:Ai:=(Af (A2 (AS (Aa E3 (AB 1) (wC (D.int 3)))) (Am (Aa B0 (wC (D.int 1)) (AU DB (AC (CA 0) (AC (AD (Aa Ar (DL (AE (wC (D.int 2)) (AE (wC (D.int 4)) (AE (wC (D.int 9)) AY)))) (AB 1))) AV))))) Ap)
 (Af (A2 (AS (Aa (LV false) (AB 1) (wC (D.int 3)))) (Am (Aa B0 (wC (D.int 1)) (AU DB (AC (CA 0) (AC (AD (wC (D.int 60))) AV))))) Ap)
 (Am (Aa Fi (Aa (YB RX λi j=>D.int (i ^ j.toNat)) (wC (D.int 10)) (wC (D.int 6))) (AU DB (AC (CA 0) (AC (AD (wC (D.int 3))) AV)))))))
noncomputable def Hr:Ai:=(Af (A0 3 (AU IM (AC (CA 0) (AC (AD (Aa B0 (wC (D.int 2)) (AU DB (AC (CA 0) (AC (AD (Aa Fi (AB 1) (wC (D.int 1)))) AV))))) AV))))
 (Af (FD 4 (DL AY))
 (Af (Cj (A1 (AB 3)) (AR 5) (WU 4 "list" ZT (AE (BS [some 5,none] (A1 (AB 3)) (AR 1) (AS (Aa E3 (AB 0) (AB 1))) (BE (AE (AB 0) (AE (AB 1) AY)))) AY)))
 (Af (A0 6 (AU DB (AC (CA 0) (AC (AD (wC (D.int 5))) AV))))
 (Af (A0 7 (Aa Fi (AB 2) (AU DB (AC (CA 0) (AC (AD (Aa B0 (Aa (YB UK λi j=>D.int (i / j)) (AB 2) (wC (D.int 2))) (wC (D.int 1)))) AV)))))
 (Af (A2 (AS (Aa (LV false) (AU DB (AC (CA 0) (AC (AD (wC (D.int 6))) AV))) (wC (D.int 0)))) (A0 7 (AU DB (AC (CA 0) (AC (AD (wC (D.int 4))) AV)))) Ap)
 (Af (FD 8 (DL AY))
 (Af (Cj (GV (AE (Bs Mz (AE (AB 7) (AE (Bs CF (AE (A7 4) AY)) AY))) AY)) (AR 9) (Af (YU 4 (AU DB (AC (CA 0) (AC (AD (Bs CF (AE (A7 4) AY))) AV))) (Bi 2 (AX (AR 5) (AX (AR 10) BB))))
 (WU 8 "list" RC (AE (BE (AE (AB 5) (AE (AB 10) (AE (AU Lx (AC (CA 0) (AC (AD (AB 6)) AV))) AY)))) AY))))
 (Am (BE (AE (AB 3) (AE (Bs Bm (AE (Bs CZ (AE (A7 8) AY)) AY)) AY))))))))))))
noncomputable def words24:List Str:=["a","ab","aba","b","in","out","place","tie","c","ca","near","z","za","zb","x","xy","y","q","qq","d","e","f","g","h"]
noncomputable def Dn(i:Nat):Str:=words24.getD i "a"
theorem QO:∀i,i<24->Po (Dn i):=by
 have h:∀i∈eP 24,1<=(Dn i).length/\(Dn i).length<=8/\∀c∈cs (Dn i),97<=c/\c<=122:=by decide +kernel
 exact λi hi=>h i (f_.mpr hi)
theorem Su:∀i j,i<24->j<24->Dn i=Dn j->i=j:=by
 have h:∀i∈eP 24,∀j∈eP 24,cs (Dn i)=cs (Dn j)->i=j:=by decide +kernel
 exact λi j hi hj e=>h i (f_.mpr hi) j (f_.mpr hj) (congrArg cs e)
theorem UN(i:Nat)(h:i<24):(words24.map D.str)[i]?=some (.str (Dn i)):=by
 have hl:i<words24.length:=h;unfold Dn
 simp_all
section
variable {ss:List Slot}{n:Nat}{Pd:D->Nat->Prop}
theorem Kw(h:IM ss n Pd):Fy (EE Pd) n (ss++Tk 2 .no):=by
 obtain⟨m,rfl,hm,hn,p⟩:=h;unfold Fy;refine⟨(by decide:12<=sizeLine),(by decide:12<=sizeLine),(by decide:24<=sizeLine),?_⟩;refine⟨24,rfl,by decide,by decide,hn,λfirst f0 f1=>?_⟩;obtain⟨f,rfl⟩:∃f:Nat,first=(f:Int):=⟨first.toNat,(by first | exact u0 | exact u1 | exact u2 | exact w0 | exact w1 | omega)⟩
 refine⟨(m:Int),rfl,⟨(by first | exact u0 | exact u1 | exact u2 | exact w0 | exact w1 | omega),(by first | exact u0 | exact u1 | exact u2 | exact w0 | exact w1 | omega)⟩,by rw [DU]; omega,?_⟩;refine BC (λd=>match d with | .int k=>.str (Dn ((f+k.toNat) % 24)) | _=>.non) (λρ=>∃s,ρ=[.sh (.lst (words24.map .str)),.sh (.int f),s]) _ _ _ _ ?_ ⟨_,rfl⟩ ?_
 ·rintro d hd ρ n' nx ⟨s,rfl⟩ hnx
  obtain⟨k,hk,rfl⟩:=Kr hd;have hlt:(f+k) % 24<24:=kF _ (by decide);refine⟨by show (0:Int)<24; decide,.str (Dn ((f+k) % 24)),?_,?_⟩
  ·rw [show ((f:Int)+(0+(k:Int))) % 24=(((f+k) % 24:Nat):Int) by omega]
   exact AJ (UN _ hlt)
  ·have:=hnx [.sh (.lst (words24.map .str)),.sh (.int f),.sh (.int (0+(k:Int)))] ⟨_,rfl⟩
   rw [show (0+(k:Int))=k by omega] at this ⊢;exact this
 ·have e:[]++(Dl 0 ((m:Int)).toNat).map (λd=>match d with | .int k=>D.str (Dn ((f+k.toNat) % 24)) | _=>.non)=((eP m).map λk:Nat=>Dn ((f+k) % 24)).map .str:=by
   unfold Dl;rw [d8,fQ,fQ,gx];refine i_ λk _=>?_
   have:(0+(k:Int)).toNat=k:=by omega
   simp only [Function.comp,this]
  rw [e];refine⟨_,_,rfl,QF _,by rw [Go,jV]; omega,λss' hp hs=>p ss' ?_ ?_ ?_⟩
  ·rw [hp.length_eq,Go,jV]
  ·intro y hy
   obtain⟨k,_,rfl⟩:=Rs.mp (hp.mem_iff.mp hy);exact QO _ (kF _ (by decide))
  ·refine D1 hs (hp.nodup_iff.mpr (Ml List.nodup_range λj hj k hk e=>?_))
   exact W_ hm (f_.mp hj) (f_.mp hk) (Su _ _ (kF _ (by decide)) (kF _ (by decide)) e)
theorem Jn(h:Lx ss n Pd):FJ (EE Pd) n (ss++Tk 0 .no):=by
 obtain⟨s,rfl,hs,hn,p⟩:=h;have e6:((10:Int) ^ (6:Int).toNat)=1000000:=by decide
 unfold FJ;refine DY (λc=>?_) λ_=>?_
 ·have c:s<3:=of_decide_eq_true c
  obtain⟨z,hz,w,rfl,hw⟩:=QD (p:=λd=>∃w:Int,d=.int w/\1<=w/\w<=9) (xs:=[D.int 2,D.int 4,D.int 9]) (λd hd=>by
   grind) hs (by omega)
  exact⟨(by decide:3<=sizeLine),_,hz,w,rfl,(by grind),(by grind),hn,λr r0 r1=>p _ ((by omega)) ((by omega))⟩
 refine DY (λ_=>⟨60,rfl,by decide,by decide,hn,λr r0 r1=>p _ ((by omega)) ((by grind))⟩) λ_=>?_;exact⟨⟨by decide,by decide,by decide⟩,3,rfl,by decide,by decide,hn,λr r0 r1=>p _ (by omega) (by omega)⟩
end
noncomputable def pairD(p:Str×Str):D:=.tup [.str p.1,.str p.2]
noncomputable def B_(a:Str)(xs:List Str):List (Str×Str):=(xs.filter λb=>decide (cs a<cs b)).map λb=>(a,b)
noncomputable def pairsOf(pre xs:List Str):List (Str×Str):=pre.flatMap λa=>B_ a xs
noncomputable def RQ(a:Str):D->Bool
 | .str b=>decide (cs a<cs b)
 | _=>false
theorem QG(a:Str)(xs:List Str):[]++((xs.map D.str).filter (RQ a)).map (λd=>D.tup [.str a,d])=(B_ a xs).map pairD:=by
 rw [i6,fQ];unfold B_;rw [fQ];rfl
theorem JL{pre xs:List Str}{p:Str×Str}(h:p∈pairsOf pre xs):p.1∈pre/\p.2∈xs/\cs p.1<cs p.2:=by
 obtain⟨a,ha,h⟩:=f9.mp h;obtain⟨b,hb,rfl⟩:=Rs.mp h
 simp_all
theorem Nx{pre xs:List Str}(hp:rising pre)(hx:rising xs):(pairsOf pre xs).Pairwise eL:=by
 unfold pairsOf;rw [List.pairwise_flatMap];refine⟨λa _=>?_,hp.imp λ{a b} h x hx y hy=>?_⟩
 ·unfold B_
  rw [gW];exact(hx.filter _).imp λ{b c} h=>.inr ⟨rfl,h⟩
 ·obtain⟨_,_,rfl⟩:=Rs.mp hx
  obtain⟨_,_,rfl⟩:=Rs.mp hy;exact .inl h
theorem Zd(x:Str):¬cs x<cs x:=g8 _
theorem Vv{l:List (Str×Str)}(h:l.Pairwise eL):l.Nodup:=h.imp λ{p q} h e=>by
 subst e
 rcases h with h | ⟨_,h⟩ <;> exact Zd _ h
theorem Ds{xs:List Str}:∀{pre:List Str},(pairsOf pre xs).length<=pre.length*xs.length
 | []=>dY _
 | a::pre=>by
  have ih:=@Ds xs pre;show (B_ a xs++pairsOf _ xs).length<=_;rw [dZ,dq,Nat.add_mul,Nat.one_mul]
  have:(B_ a xs).length<=xs.length:=by unfold B_; rw [Go]; grind
  omega
theorem LW{α:Type}:∀{l:List α} {k:Nat} {x:α},l[k]?=some x->(x::l.eraseIdx k).Perm l
 | [],k,x,e=>by simp at e
 | a::l,0,x,e=>by simp_all
 | a::l,k+1,x,e=>(List.Perm.swap a x _).trans ((LW (l:=l) e).cons a)
theorem WB{ts:List BL}(h:JV ts)(nd:(ts.map ends).Nodup):ts.Pairwise Bt:=by
 refine(h.and (gW.mp nd)).imp λ{s t} ⟨a,b⟩=>iD λc=>?_
 by_cases d:Bt t s
 ·have:=NU d
  grind
 ·refine b ?_
  injection Cr _ _ (by rw [eV]; exact λz=>c (ekey_iff.mp z)) (by rw [eV]; exact λz=>d (ekey_iff.mp z)) with e1 e2
  injection e2 with e3 _
  injection e1 with e1
  injection e3 with e3
  unfold ends;rw [e1,e3]
theorem u0{n k j:Nat}(h:autoParam (k<=n) zau10._auto_1)(e:autoParam (kC j k=true) zau3._auto_1):j<=n:=dn (Nat.le_of_ble_eq_true e) h
theorem u1{n k j a:Nat}(h:autoParam (k<=n) zau10._auto_1)(e:autoParam (kC (j+a) k=true) zau3._auto_1):j<=n - a:=gc (dn (Nat.le_of_ble_eq_true e) h)
theorem u2{n k j a b:Nat}(h:autoParam (k<=n) zau10._auto_1)(e:autoParam (kC (j+b+a) k=true) zau3._auto_1):j<=n - a - b:=gc (u1 h e)
theorem u3{n k j a b c:Nat}(h:autoParam (k<=n) zau10._auto_1)(e:autoParam (kC (j+c+b+a) k=true) zau3._auto_1):j<=n - a - b - c:=gc (u2 h e)
theorem u4{n k j a b c d:Nat}(h:autoParam (k<=n) zau10._auto_1)(e:autoParam (kC (j+d+c+b+a) k=true) zau3._auto_1):j<=n - a - b - c - d:=gc (u3 h e)
theorem u5{n k j a b c d f:Nat}(h:autoParam (k<=n) zau10._auto_1)(e:autoParam (kC (j+f+d+c+b+a) k=true) zau3._auto_1):j<=n - a - b - c - d - f:=gc (u4 h e)
theorem v1{a n m j:Nat}(h:a<=n)(e:n - j<=m):a - j<=m:=dn (Nat.sub_le_sub_right h j) e
theorem cM{n m j c:Nat}(h1:124<=n)(h2:n - 2*j<=m)(h3:j<c)(h4:c<=60):3<=m/\n - 2*(j+1)<=m - 1 - 1:=by omega
theorem cN{n n' m c:Nat}(h:n - 6<=n')(h2:n' - 2*c<=m)(h4:c<=60):n - 130<=m:=by omega
theorem cn(n:Nat):n - 6<=n - 1 - 1 - 1 - 1 - 1/\n - 6<=n - 1 - 1 - 1 - 1 - 1 - 1:=by omega
theorem Kf{ts:List BL}{z:D}{P:D->Prop}(hz:Ef z=some (ts.map Ao))(h64:ts.length<64)(p:∀ts':List BL,ts'.Perm ts->JV ts'->P (.lst (ts'.map Ao))):CZ [z] P:=by
 refine⟨z,_,rfl,hz,by simp_all,⟨λx hx=>?_,λx hx y hy ka kb ea eb=>?_⟩,λxs' hp ho=>?_⟩
 ·obtain⟨t,_,rfl⟩:=Rs.mp hx
  exact⟨_,rfl,fk _ _⟩
 ·obtain⟨t,_,rfl⟩:=Rs.mp hx
  obtain⟨u,_,rfl⟩:=Rs.mp hy;cases (ea);cases (eb);rfl
 ·obtain⟨ts',h1,rfl⟩:=Ol (g:=ZX) (λ_=>rfl) hp
  exact p _ h1 (R6 ho)
theorem LG{α:Type}{a:List α}{x:α}{l:List α}{k:Nat}(e:l[k]?=some x):((a++[x])++l.eraseIdx k).Perm (a++l):=by
 rw [eg];exact(LW e).append_left a
section
variable {ss:List Slot}{n:Nat}{Pd:D->Nat->Prop}
theorem I0{D2:E2}{m:Nat}{xs:List Str}(hl:xs.length<=24){tg:BW}{mk:List D->Slot->List Slot}(body:Ai)
  (hstep:∀(fr:List D) (s:Slot) (a:Str) (nx:Nat->List Slot->Prop),fr.length+24<=1000->(∀s',nx m (mk (fr++(B_ a xs).map pairD) s'))->tg (.str a) (mk fr s) λzT=>body { D2 with nx:=nx,ct:=nx,bk:=D2.nx } m zT)
  (hend:∀s,D2.nx m (mk ((pairsOf xs xs).map pairD) s)):∀(rest pre:List Str) (s:Slot),pre++rest=xs->BF tg body D2 (rest.map .str) m (mk ((pairsOf pre xs).map pairD) s)
 | [],pre,s,e=>by
  rw [eO] at e;subst e;exact hend s
 | a::rest,pre,s,e=>by
  have hp:=@Ds xs pre;have l1:pre.length<=24:=by grind
  have l2:pre.length*xs.length<=24*24:=kE l1 hl;refine hstep _ s a _ (by grind) λs'=>?_;have ih:=I0 hl body hstep hend rest (pre++[a]) s' (by grind);have e2:pairsOf (pre++[a]) xs=pairsOf pre xs++B_ a xs:=by unfold pairsOf; grind
  grind
theorem Nk(h:Oc ss n Pd):Hr (EE Pd) n (ss++Tk 8 .no):=by
 obtain⟨most,ties,rfl,hm1,hm2,ht1,ht2,hn,p⟩:=h;have szl:=PySem.sizeLine_eq;unfold Hr;refine⟨_,rfl,by omega,by omega,u0,λr r0 r1=>?_⟩;refine⟨(2+r).toNat,by rw [show (((2+r).toNat:Nat):Int)=2+r by omega],by omega,by omega,λxs hl hx hr=>⟨(by decide:0<=sizeLine),?_⟩⟩;have hxs:xs.length<=24:=by omega
 have hx2:2<=xs.length:=by omega
 have hxm:xs.length<=most:=by omega
 clear hl r0 r1;refine I0 (m:=n - 1 - 1) hxs (mk:=λfr s=>[.fd,.sh (.int most),.sh (.int ties),.sh (.tup (xs.map .str)),.ow (.lst fr),s,.no,.no,.no,.no,.no]) _ (λfr s a nx hfl hnx=>?_) (λs5=>?_) xs [] .no rfl
 ·refine⟨_,rfl,rfl,by rw [Go]; omega,?_⟩
  refine C1 (RQ a) (λd=>.tup [.str a,d]) (λρ=>∃s,ρ=[.sh (.str a),s]) _ _ _ _ ?_ ⟨_,rfl⟩ ?_
  ·rintro d hd ρ m nx2 sk ⟨s2,rfl⟩ h1 h2
   obtain⟨b,hb,rfl⟩:=Rs.mp hd;refine DY (λc=>⟨z2,h1 _ ⟨_,rfl⟩ c⟩) λc=>h2 _ ⟨_,rfl⟩ (eV.mpr c)
  ·rw [QG]
   have hal:(B_ a xs).length<=24:=by unfold B_; rw [Go]; exact dn (g9 _ _) hxs
   exact⟨fr,_,rfl,rfl,by rw [Go]; omega,hnx _⟩
 refine⟨5,rfl,by decide,by decide,(by first | exact u0 | exact u1 | exact u2 | exact u3 | exact u4 | exact u5 | exact u6),λway w0 w1=>?_⟩;refine⟨⟨by decide,by decide⟩,_,rfl,by omega,by omega,(by first | exact u0 | exact u1 | exact u2 | exact u3 | exact u4 | exact u5 | exact u6),λq q0 q1=>?_⟩;refine⟨6,rfl,by decide,by decide,(by first | exact u0 | exact u1 | exact u2 | exact u3 | exact u4 | exact u5 | exact u6),λr6 _ _=>?_⟩;have rest:∀(many:Int) (n':Nat),0<=many->many<=ties->n - 6<=n'->(Af (FD 8 (DL AY))
 (Af (Cj (GV (AE (Bs Mz (AE (AB 7) (AE (Bs CF (AE (A7 4) AY)) AY))) AY)) (AR 9) (Af (YU 4 (AU DB (AC (CA 0) (AC (AD (Bs CF (AE (A7 4) AY))) AV))) (Bi 2 (AX (AR 5) (AX (AR 10) BB))))
 (WU 8 "list" RC (AE (BE (AE (AB 5) (AE (AB 10) (AE (AU Lx (AC (CA 0) (AC (AD (AB 6)) AV))) AY)))) AY))))
 (Am (BE (AE (AB 3) (AE (Bs Bm (AE (Bs CZ (AE (A7 8) AY)) AY)) AY)))))) (EE Pd) n' [.fd,.sh (.int most),.sh (.int ties),.sh (.tup (xs.map .str)),.ow (.lst ((pairsOf xs xs).map pairD)),s5,.sh (.int way),.sh (.int many),.no,.no,.no]:=by
  intro many n' hmany0 hmany hn';clear q0 q1 hm1 hm2 ht1;have pl:=@Ds xs xs;have pl2:xs.length*xs.length<=24*24:=kE hxs hxs;refine⟨(by decide:0<=sizeLine),_,_,rfl,rfl,?_⟩;obtain⟨cnt,hcnt⟩:∃cnt:Int,cnt=(if (((pairsOf xs xs).map pairD).length:Int)<many then (((pairsOf xs xs).map pairD).length:Int) else many):=⟨_,rfl⟩;have hc1:cnt<=many:=by rw [hcnt]; split <;> omega
  have hc2:cnt<=(pairsOf xs xs).length:=by rw [hcnt,Go]; split <;> omega
  have hc0:0<=cnt:=by rw [hcnt]; split <;> omega
  refine⟨cnt,by rw [hcnt],⟨by omega,by omega⟩,?_⟩;clear hcnt;obtain⟨c,rfl⟩:∃c:Nat,cnt=(c:Int):=⟨cnt.toNat,by omega⟩;have hc60:c<=60:=by omega
  have hct:c<=ties:=by omega
  have hcp:c<=(pairsOf xs xs).length:=by omega
  have p576:(pairsOf xs xs).length<=576:=dn pl pl2;have hn124:124<=n':=v1 hn hn';clear hc1 hc2 hc0 hmany hmany0 pl pl2;rw [gx]
  refine Ip (all:=Dl 0 c) (λpre m ρ=>n' - 2*pre.length<=m/\∃(found:List BL) (free:List (Str×Str)) (s5 s9 s10:Slot),found.length=pre.length/\(found.map ends++free).Perm (pairsOf xs xs)/\(∀t∈found,1<=t.len/\t.len<=1000000) /\
   ρ=[.fd,.sh (.int most),.sh (.int ties),.sh (.tup (xs.map .str)),.ow (.lst (free.map pairD)),s5,.sh (.int way),.sh (.int many),.ow (.lst (found.map Ao)),s9,s10]) ?_ ?_ _ [] _ _ rfl ⟨by simp,[],pairsOf xs xs,_,_,_,rfl,.refl _,(λ_ h=>by cases h),rfl⟩
  ·rintro m ρ ⟨hm,found,free,s5,s9,s10,h1,h2,h3,rfl⟩
   rw [DU] at h1 hm;show CZ [D.lst (found.map Ao)] λz=>Bm [z] λy=>2<=sizeLine/\Pd (.tup [.tup (xs.map .str),y]) m;refine Kf (ts:=found) rfl (by rw [h1]; exact gq hc60 (by decide)) λts' p1 p2=>?_
   have hmem:∀t∈ts',(t.a∈xs/\t.b∈xs/\cs t.a<cs t.b)/\1<=t.len/\t.len<=1000000:=λt ht=>by
    have hf:=p1.mem_iff.mp ht
    have:ends t∈pairsOf xs xs:=h2.mem_iff.mp (fV _ (List.mem_map_of_mem hf))
    exact⟨JL this,h3 t hf⟩
   have nd:(ts'.map ends).Nodup:=by
    have a:=h2.nodup_iff.mpr (Vv (Nx hr hr));exact((p1.map ends).nodup_iff).mpr (fz.mp a).1
   refine⟨z2,p ⟨xs,ts'⟩ m ⟨hx,hr,λt ht=>?_,WB p2 nd⟩ hx2 hxm (by show ts'.length<=ties; rw [p1.length_eq,h1]; exact hct) (cN hn' hm hc60)⟩;obtain⟨⟨a,b,c⟩,d⟩:=hmem t ht;exact⟨a,b,c,d⟩
  ·rintro pre d post m ρ nx hall ⟨hm,found,free,s5,s9,s10,h1,h2,h3,rfl⟩ hnx
   obtain⟨rfl,hk⟩:=Rl hall;have hlen:=h2.length_eq;rw [dZ,Go] at hlen;rw [dZ,eC] at hnx;have hfl:(free.map pairD).length=free.length:=Go ..;obtain⟨f3,f4⟩:=cM hn124 hm hk hc60;have ff:1<=free.length/\free.length<=576/\found.length<=576:=by clear hm hn' hn f3 f4; omega
   clear hm;refine⟨_,rfl,_,_,rfl,rfl,_,rfl,by rw [hfl]; exact Int.ofNat_le.mpr ff.1,by rw [hfl]; exact Int.ofNat_lt.mpr (gq ff.2.1 (by decide)),u0,λr r0 r1=>?_⟩;obtain⟨k,rfl⟩:∃k:Nat,r=(k:Int):=⟨r.toNat,by omega⟩;have hkf:k<free.length:=by omega
   have e1:free[k]?=some free[k]:=No hkf;refine⟨k,pairD free[k],rfl,by rw [dX,e1]; rfl,by omega,rfl,rfl,?_⟩;refine⟨_,rfl,rfl,way,rfl,w0,u1,λl l0 l1=>⟨z3,_,_,rfl,rfl,by rw [Go,szl]; exact gq ff.2.2 (by decide),?_⟩⟩;rw [GI];refine hnx _ _ ⟨f4,found++[⟨free[k].1,free[k].2,l⟩],free.eraseIdx k,_,_,_,by rw [dZ,eC,h1],?_,λt ht=>?_,by rw [fR]; rfl⟩
   ·rw [fR]
    exact(LG (a:=found.map ends) e1).trans h2
   ·rcases d7.mp ht with ht | ht
    ·exact h3 t ht
    ·rw [TM.mp ht]
     exact⟨l0,l1⟩
 refine DY (λ_=>⟨4,rfl,by decide,by decide,(by first | exact u0 | exact u1 | exact u2 | exact u3 | exact u4 | exact u5 | exact u6),λr4 _ _=>rest _ _ (by omega) (by omega) (cn n).2⟩) λ_=>rest _ _ (by omega) (by omega) (cn n).1
end
noncomputable def IH:W2:=λss n P=>ss=[.fd]/\1<=n/\∀t b:Int,1<=b->b<=t->t<=1000000->P (.tup [.int t,.int b]) (n - 1)
noncomputable def Ob:W2:=λss n P=>∃(xs:List Str) (most:Nat),ss=[.fd,.sh (.tup (xs.map .str)),.sh (.int most)]/\rising xs/\xs.length<=24/\most<=30/\40<=n/\∀(ps:List (Str×Str)) (n':Nat),(∀p∈ps,p.1∈xs/\p.2∈xs)->ps.length<=most->n - 40<=n'->P (.tup (ps.map pairD)) n'
noncomputable def EU:Ai:=(Af (FD 2 (QQ (AB 1) (wC (D.int 0))))
 (Af (A0 3 (wC (D.bl true)))
 (Af (KQ (AS (AB 3)) (Af (A0 3 (wC (D.bl false)))
 (Xu 0 (Bi 3 (AX (AR 4) (AX (AR 5) (AX (AR 6) BB)))) (Cj (A1 (DL (AE (BE (AE (AB 4) (AE (AB 5) AY))) (AE (BE (AE (AB 5) (AE (AB 4) AY))) AY)))) (Bi 2 (AX (AR 7) (AX (AR 8) BB))) (A2 (Rf (AS (Aa (Jw false) (AB 7) (A7 2))) (AS (Aa E3 (Aa B0 (Aa CC (A7 2) (AB 7)) (AB 6)) (UP (A7 2) (AB 8) (Aa (YB RX λi j=>D.int (i ^ j.toNat)) (wC (D.int 10)) (wC (D.int 20))))))) (Af (JH 2 (AB 8) (Aa B0 (Aa CC (A7 2) (AB 7)) (AB 6)))
 (A0 3 (wC (D.bl true)))) Ap)))))
 (Oh 2))))
noncomputable def Fx:Ai:=(Af (A0 1 (Bs CZ (AE (BS [none] (A1 (AB 0)) (AR 0) Cf (BE (AE (Aa Ar (AB 0) (wC (D.int 2))) (AE (Aa Ar (AB 0) (wC (D.int 0))) (AE (Aa Ar (AB 0) (wC (D.int 1))) AY))))) AY)))
 (Am (BS [none,none,none] (A1 (AB 1)) (Bi 3 (AX (AR 0) (AX (AR 1) (AX (AR 2) BB)))) Cf (BE (AE (AB 1) (AE (AB 2) (AE (AB 0) AY)))))))
noncomputable def Fv:Ai:=(Af (A0 1 (DL (AE (BE (AE (wC (D.int 1)) (AE (wC (D.int 1)) AY))) (AE (BE (AE (wC (D.int 3)) (AE (wC (D.int 2)) AY))) (AE (BE (AE (wC (D.int 2)) (AE (wC (D.int 1)) AY))) (AE (BE (AE (wC (D.int 3)) (AE (wC (D.int 1)) AY))) (AE (BE (AE (wC (D.int 5)) (AE (wC (D.int 2)) AY))) (AE (BE (AE (wC (D.int 1000)) (AE (wC (D.int 999)) AY))) (AE (BE (AE (Aa (YB RX λi j=>D.int (i ^ j.toNat)) (wC (D.int 10)) (wC (D.int 6))) (AE (wC (D.int 1)) AY))) (AE (BE (AE (wC (D.int 6)) (AE (wC (D.int 4)) AY))) (AE (BE (AE (wC (D.int 7)) (AE (wC (D.int 3)) AY))) AY)))))))))))
 (Am (Aa Ar (AB 1) (AU DB (AC (CA 0) (AC (AD (wC (D.int 9))) AV))))))
noncomputable def Fw:Ai:=(Af (FD 3 (DL AY))
 (Af (Cj (A1 (AB 1)) (AR 4) (WU 3 "list" ZT (AE (BS [some 4,none] (A1 (AB 1)) (AR 1) (AS (Aa E3 (AB 0) (AB 1))) (BE (AE (AB 0) (AE (AB 1) AY)))) AY)))
 (Af (FD 5 (DL AY))
 (Af (Cj (GV (AE (Bs Mz (AE (AU DB (AC (CA 0) (AC (AD (Aa B0 (AB 2) (wC (D.int 1)))) AV))) (AE (Bs CF (AE (A7 3) AY)) AY))) AY)) (AR 6) (Rc 5 3 (AU DB (AC (CA 0) (AC (AD (Bs CF (AE (A7 3) AY))) AV)))))
 (Am (Bs Bm (AE (Bs CZ (AE (A7 5) AY)) AY)))))))
noncomputable abbrev WC:Ai:=(A2 (Rf (AS (Aa (Jw false) (AB 7) (A7 2))) (AS (Aa E3 (Aa B0 (Aa CC (A7 2) (AB 7)) (AB 6)) (UP (A7 2) (AB 8) (Aa (YB RX λi j=>D.int (i ^ j.toNat)) (wC (D.int 10)) (wC (D.int 20))))))) (Af (JH 2 (AB 8) (Aa B0 (Aa CC (A7 2) (AB 7)) (AB 6)))
 (A0 3 (wC (D.bl true)))) Ap)
theorem dB:((10:Int) ^ (20:Int).toNat)=100000000000000000000:=by decide +kernel
section
variable {ss:List Slot}{n:Nat}{Pd:D->Nat->Prop}
theorem Ii(h:Dh ss n Pd):EU (EF Pd) n (ss++Tk 7 .no):=by
 obtain⟨N,s,zz,us,rfl,hzz,hus,okn,hs,p⟩:=h;have szl:=PySem.sizeLine_eq;have ok:=okn.1;have l25:=okn.2.1;unfold EU;refine⟨_,A_ s,?_⟩
 have step:∀(D3:E2) (x y:Str) (l:Int),Ed N x y l->∀(ks:List Key) (ds:List D) (K:Kn) (g:Bool) (s4 s5 s7 s8:Slot),Dmap ks ds D.int K->Bf N s ks.length K ->
   (∀(ks':List Key) (ds':List D) (K':Kn) (g':Bool) (t7 t8:Slot),Dmap ks' ds' D.int K'->Bf N s ks'.length K'->((g'=g/\K'=K/\KY K (x,y,l))\/(g'=true/\UL N.ps K'<UL N.ps K)) ->
    D3.nx n [.br zz,.sh (.str s),.ow (.dic ks' ds'),.sh (.bl g'),s4,s5,.sh (.int l),t7,t8]) ->
   WC D3 n [.br zz,.sh (.str s),.ow (.dic ks ds),.sh (.bl g),s4,s5,.sh (.int l),.sh (.str x),.sh (.str y)]:=by
  intro D3 x y l he ks ds K g s4 s5 s7 s8 M B hD;have kl:=M.le B.ins;refine⟨ks,ds,_,rfl,A_ x,?_⟩;show if ((BP ks ds (.inr x)).isSome)=true then _ else _
  cases ex:K x with
  | none =>
   rw [M.at_,ex];exact Bp (hD ks ds K g _ _ M B (.inl ⟨rfl,rfl,λd e=>by rw [show K x=some d from e] at ex; cases ex⟩))
  | some d =>
   have top:=B.top x d ex;have lp:=(he.pos ok).2;rw [M.at_,ex];refine EC ⟨ks,ds,_,_,rfl,A_ x,by rw [M.at_,ex]; rfl,?_⟩;refine⟨ks,ds,rfl,⟨by decide,by decide,by decide⟩,_,A_ y,?_⟩
   have put:(K y=none\/∃d',K y=some d'/\d+l<d')->(Af (JH 2 (AB 8) (Aa B0 (Aa CC (A7 2) (AB 7)) (AB 6))) (A0 3 (wC (D.bl true)))) D3 n [.br zz,.sh (.str s),.ow (.dic ks ds),.sh (.bl g),s4,s5,.sh (.int l),.sh (.str x),.sh (.str y)]:=λhy=>by
    refine⟨ks,ds,rfl,ks,ds,_,.int d,rfl,A_ x,by rw [M.at_,ex]; rfl,_,A_ y,by omega,?_⟩;have hlen:=K3 ks (.inr y)
    have key:=B.put ok (c':=(C9 ks (.inr y)).length) (by rw [hlen]; split <;> omega) (by rw [hlen]; split <;> omega) ex he (λe=>by rw [hlen,if_neg (by rw [(M.has (x:=y)).1 e]; decide)]) (λd' e=>by
     rcases hy with hy | ⟨d2,hy,hlt⟩
     ·rw [e] at hy; cases hy
     ·rw [e] at hy; cases hy; exact hlt)
    exact hD _ _ _ true _ _ (M.put y (d+l)) key.1 (.inr ⟨rfl,key.2⟩)
   rw [M.at_];cases ey:K y with
   | none =>
    show if decide (d+l<(10:Int) ^ (20:Int).toNat)=true then _ else _
    rw [decide_eq_true (by rw [dB]; omega)];exact EC (put (.inl ey))
   | some d' =>
    show if decide (d+l<d')=true then _ else _
    by_cases c:d+l<d'
    ·rw [decide_eq_true c]
     exact EC (put (.inr ⟨d',ey,c⟩))
    ·rw [decide_eq_false c]
     refine Bp (hD ks ds K g _ _ M B (.inl ⟨rfl,rfl,λd2 e=>?_⟩));rw [show K x=some d2 from e] at ex;cases ex;exact⟨d',ey,by show d'<=d+l; omega⟩
 refine IT (λm n' ρ=>n'=n/\∃(ks:List Key) (ds:List D) (K:Kn) (g:Bool) (s4 s5 s6 s7 s8:Slot),ρ=[.br zz,.sh (.str s),.ow (.dic ks ds),.sh (.bl g),s4,s5,s6,s7,s8]/\Dmap ks ds D.int K/\Bf N s ks.length K/\((g=true/\m=UL N.ps K+1)\/(g=false/\m=0/\∀t∈N.ts,KY K (t.a,t.b,t.len)/\KY K (t.b,t.a,t.len)))) _ ⟨rfl,_,_,_,true,_,_,_,_,_,rfl,Dmap.one (enc:=D.int) (a:=(0:Int)),Bf.init hs,.inl ⟨rfl,rfl⟩⟩ ?_ ?_
 ·rintro m n' ρ N' ⟨rfl,ks,ds,K,g,s4,s5,s6,s7,s8,rfl,M,B,hg⟩ hN
  rcases hg with ⟨rfl,hm⟩ | ⟨rfl,_,ht⟩
  ·have outer:∀(rest done:List BL) (ks:List Key) (ds:List D) (K':Kn) (g:Bool) (s4 s5 s6 s7 s8:Slot),done++rest=us->Dmap ks ds D.int K'->Bf N s ks.length K'->((g=true/\UL N.ps K'<UL N.ps K)\/(g=false/\UL N.ps K'<=UL N.ps K/\∀t∈done,KY K' (t.a,t.b,t.len)/\KY K' (t.b,t.a,t.len))) ->
     BF (Bi 3 (AX (AR 4) (AX (AR 5) (AX (AR 6) BB)))) (Cj (A1 (DL (AE (BE (AE (AB 4) (AE (AB 5) AY))) (AE (BE (AE (AB 5) (AE (AB 4) AY))) AY)))) (Bi 2 (AX (AR 7) (AX (AR 8) BB))) WC) { EF Pd with nx:=N',ct:=N',bk:=Oh 2 (EF Pd) } (rest.map Ao) n' [.br zz,.sh (.str s),.ow (.dic ks ds),.sh (.bl g),s4,s5,s6,s7,s8]:=by
    intro rest
    induction rest with
    | nil =>
     intro done ks ds K' g s4 s5 s6 s7 s8 e M B hg;rw [eO] at e;subst e
     rcases hg with ⟨rfl,hlt⟩ | ⟨rfl,_,ht⟩
     ·exact hN (UL N.ps K'+1) _ _ (by omega) ⟨rfl,ks,ds,K',true,_,_,_,_,_,rfl,M,B,.inl ⟨rfl,rfl⟩⟩
     ·exact hN 0 _ _ (by omega) ⟨rfl,ks,ds,K',false,_,_,_,_,_,rfl,M,B,.inr ⟨rfl,rfl,λt h=>ht t ((hus t).mpr h)⟩⟩
    | cons t rest ih =>
     intro done ks ds K' g s4 s5 s6 s7 s8 e M B hg;have hmem:t∈N.ts:=(hus t).mp (by rw [← e]; exact df _ Re);have e':(done++[t])++rest=us:=by rw [eg]; exact e
     have ed:=OK hmem;refine⟨rfl,rfl,z2,z2,z2,?_⟩;refine⟨rfl,rfl,?_⟩;refine step _ t.a t.b t.len ed.1 ks ds K' g _ _ s7 s8 M B λks1 ds1 K1 g1 t7 t8 M1 B1 h1=>?_;refine⟨rfl,rfl,?_⟩;refine step _ t.b t.a t.len ed.2 ks1 ds1 K1 g1 _ _ t7 t8 M1 B1 λks2 ds2 K2 g2 u7 u8 M2 B2 h2=>?_;refine ih (done++[t]) ks2 ds2 K2 g2 _ _ _ _ _ e' M2 B2 ?_
     rcases h1 with ⟨rfl,rfl,t1⟩ | ⟨rfl,lt1⟩
     ·rcases h2 with ⟨rfl,rfl,t2⟩ | ⟨rfl,lt2⟩
      ·rcases hg with z | ⟨z1,z2,z3⟩
       ·exact .inl z
       ·refine .inr ⟨z1,z2,λu hu=>?_⟩
        rcases d7.mp hu with hu | hu
        ·exact z3 u hu
        ·rw [TM.mp hu]; exact⟨t1,t2⟩
      ·refine .inl ⟨rfl,?_⟩
       rcases hg with ⟨_,z⟩ | ⟨_,z,_⟩ <;> omega
     ·have base:UL N.ps K1<UL N.ps K:=by rcases hg with ⟨_,z⟩ | ⟨_,z,_⟩ <;> omega
      rcases h2 with ⟨rfl,rfl,t2⟩ | ⟨rfl,lt2⟩
      ·exact .inl ⟨rfl,base⟩
      ·exact .inl ⟨rfl,by omega⟩
   exact⟨zz,_,rfl,hzz,outer us [] ks ds K false _ _ _ _ _ rfl M B (.inr ⟨rfl,Op _,λt h=>by cases h⟩)⟩
  ·exact⟨_,rfl,p ks ds K M (B.told ok (by have:=M.le B.ins; omega) ht)⟩
 ·rintro n' ρ P Q hPQ h
  unfold AS AB at h ⊢
  split at h
  ·rename_i d hd
   cases d with
   | bl b=>exact hPQ _ _ h
   | _=>exact h.elim
  ·exact h.elim
theorem Kv(h:Dg ss n Pd):Fx (EF Pd) n (ss++Tk 1 .no):=by
 obtain⟨d,ts,rfl,hd,h64,p⟩:=h;have szl:=PySem.sizeLine_eq;unfold Fx
 have go:(ts.map Ao).length<=10000000/\EO (AR 0) Cf (BE (AE (Aa Ar (AB 0) (wC (D.int 2))) (AE (Aa Ar (AB 0) (wC (D.int 0))) (AE (Aa Ar (AB 0) (wC (D.int 1))) AY)))) (λacc n2=>CZ [.lst acc] λz=>A1 (wC z) n2 [] λds n1=>ds.length<=10000000/\EO (Bi 3 (AX (AR 0) (AX (AR 1) (AX (AR 2) BB)))) Cf (BE (AE (AB 1) (AE (AB 2) (AE (AB 0) AY)))) (λacc n2=>Pd (.lst acc) n2) ds [] n1 [.no,.no,.no]) (ts.map Ao) [] n [.no]:=by
  refine⟨by rw [Go]; omega,?_⟩;refine BC O9 (λρ=>∃s,ρ=[s]) _ _ _ _ ?_ ⟨_,rfl⟩ ?_
  ·rintro d hd ρ m nx ⟨s,rfl⟩ hnx
   obtain⟨t,ht,rfl⟩:=Rs.mp hd;exact⟨_,AJ (j:=2) rfl,_,AJ (j:=0) rfl,_,AJ (j:=1) rfl,z3,hnx _ ⟨_,rfl⟩⟩
  rw [d8,fQ];refine⟨_,_,rfl,rfl,by rw [Go]; exact h64,⟨λx hx=>?_,λx hx y hy ka kb ea eb=>?_⟩,λxs' hp ho=>?_⟩
  ·obtain⟨t,_,rfl⟩:=Rs.mp hx
   exact⟨Ks t,rfl,fk _ _⟩
  ·obtain⟨t,_,rfl⟩:=Rs.mp hx
   obtain⟨u,_,rfl⟩:=Rs.mp hy;cases (show some (Ks t)=some ka from ea);cases (show some (Ks u)=some kb from eb);rfl
  ·obtain⟨ts',h1,rfl⟩:=Ol (f:=O9∘Ao) (g:=λd=>match d with | .tup [.int l,.str a,.str b]=>⟨a,b,l⟩ | _=>⟨"","",0⟩) (λ_=>rfl) hp
   have ho:E5 ts':=by
    unfold IQ at ho;rw [gW] at ho;exact ho.imp λ{s t} z=>z _ _ rfl rfl
   refine⟨by show (ts'.map (O9∘Ao)).length<=10000000; rw [Go,h1.length_eq]; omega,?_⟩;refine BC (λd=>match d with | .tup [l,a,b]=>.tup [a,b,l] | d=>d) (λρ=>∃a b c,ρ=[a,b,c]) _ _ _ _ ?_ ⟨_,_,_,rfl⟩ ?_
   ·rintro d hd ρ m nx ⟨a,b,c,rfl⟩ hnx
    obtain⟨t,ht,rfl⟩:=Rs.mp hd;exact⟨rfl,rfl,z3,hnx _ ⟨_,_,_,rfl⟩⟩
   ·rw [d8,fQ]
    exact p ts' h1 ho
 cases d with
 | lst ys=>cases hd; exact go
 | tup ys=>cases hd; exact go
 | _=>cases hd
theorem Kt(h:IH ss n Pd):Fv (EE Pd) n (ss++Tk 1 .no):=by
 obtain⟨rfl,hn,p⟩:=h;unfold Fv;refine⟨z2,z2,z2,z2,z2,z2,dE,z2,z2,z2,(by decide:9<=sizeLine),?_⟩;refine⟨9,rfl,by decide,by decide,hn,λr r0 r1=>?_⟩
 obtain⟨z,hz,t,b,rfl,b0,bt,t1⟩:=QD (p:=λd=>∃t b:Int,d=.tup [.int t,.int b]/\1<=b/\b<=t/\t<=1000000) (xs:=[.tup [.int 1,.int 1],.tup [.int 3,.int 2],.tup [.int 2,.int 1],.tup [.int 3,.int 1],.tup [.int 5,.int 2],.tup [.int 1000,.int 999],.tup [.int ((10:Int) ^ (6:Int).toNat),.int 1],.tup [.int 6,.int 4],.tup [.int 7,.int 3]]) (λd hd=>by
  simp only [ZB,d9,or_false] at hd
  rcases hd with rfl | rfl | rfl | rfl | rfl | rfl | rfl | rfl | rfl <;> exact⟨_,_,rfl,by decide,by decide,by decide⟩) r0 (by show r<9; exact r1)
 exact⟨_,hz,p t b b0 bt t1⟩
noncomputable def Yv(p:Str×Str):List Key:=[.inr p.1,.inr p.2]
theorem Ox{ps:List (Str×Str)}{z:D}{P:D->Prop}(hz:Ef z=some (ps.map pairD))(h64:ps.length<64)(p:∀ps':List (Str×Str),ps'.Perm ps->P (.lst (ps'.map pairD))):CZ [z] P:=by
 refine⟨z,_,rfl,hz,by rw [Go]; exact h64,⟨λx hx=>?_,λx hx y hy ka kb ea eb=>?_⟩,λxs' hp ho=>?_⟩
 ·obtain⟨t,_,rfl⟩:=Rs.mp hx
  exact⟨Yv t,rfl,fk _ _⟩
 ·obtain⟨t,_,rfl⟩:=Rs.mp hx
  obtain⟨u,_,rfl⟩:=Rs.mp hy;cases (show some (Yv t)=some ka from ea);cases (show some (Yv u)=some kb from eb);rfl
 ·obtain⟨ps',h1,rfl⟩:=Ol (f:=pairD) (g:=λd=>match d with | .tup [.str a,.str b]=>(a,b) | _=>("","")) (λ_=>rfl) hp
  exact p ps' h1
theorem Ku(h:Ob ss n Pd):Fw (EE Pd) n (ss++Tk 4 .no):=by
 obtain⟨xs,most,rfl,hr,hxs,hm,hn,p⟩:=h;have szl:=PySem.sizeLine_eq;unfold Fw;refine⟨(by decide:0<=sizeLine),?_⟩;refine I0 (m:=n) hxs (mk:=λfr s=>[.fd,.sh (.tup (xs.map .str)),.sh (.int most),.ow (.lst fr),s,.no,.no]) _ (λfr s a nx hfl hnx=>?_) (λs5=>?_) xs [] .no rfl
 ·refine⟨_,rfl,rfl,by rw [Go]; omega,?_⟩
  refine C1 (RQ a) (λd=>.tup [.str a,d]) (λρ=>∃s,ρ=[.sh (.str a),s]) _ _ _ _ ?_ ⟨_,rfl⟩ ?_
  ·rintro d hd ρ m nx2 sk ⟨s2,rfl⟩ h1 h2
   obtain⟨b,hb,rfl⟩:=Rs.mp hd;exact DY (λc=>⟨z2,h1 _ ⟨_,rfl⟩ c⟩) λc=>h2 _ ⟨_,rfl⟩ (eV.mpr c)
  ·rw [QG]
   have hal:(B_ a xs).length<=24:=by unfold B_; rw [Go]; exact dn (g9 _ _) hxs
   exact⟨fr,_,rfl,rfl,by rw [Go]; omega,hnx _⟩
 have pl:=@Ds xs xs;have pl2:xs.length*xs.length<=24*24:=kE hxs hxs;refine⟨(by decide:0<=sizeLine),_,rfl,by omega,by omega,by omega,λq q0 q1=>⟨_,_,rfl,rfl,?_⟩⟩;obtain⟨cnt,hcnt⟩:∃cnt:Int,cnt=(if (((pairsOf xs xs).map pairD).length:Int)<q then (((pairsOf xs xs).map pairD).length:Int) else q):=⟨_,rfl⟩;have hc1:cnt<=q:=by rw [hcnt]; split <;> omega
 have hc2:cnt<=(pairsOf xs xs).length:=by rw [hcnt,Go]; split <;> omega
 have hc0:0<=cnt:=by rw [hcnt]; split <;> omega
 refine⟨cnt,by rw [hcnt],⟨by omega,by omega⟩,?_⟩
 refine Ip (all:=Dl 0 cnt.toNat) (λpre m ρ=>n - 1 - pre.length<=m/\∃(found free:List (Str×Str)) (s4 s6:Slot),found.length=pre.length/\(found++free).Perm (pairsOf xs xs) /\
  ρ=[.fd,.sh (.tup (xs.map .str)),.sh (.int most),.ow (.lst (free.map pairD)),s4,.ow (.lst (found.map pairD)),s6]) ?_ ?_ _ [] _ _ rfl ⟨by simp,[],pairsOf xs xs,_,_,rfl,.refl _,rfl⟩
 ·rintro m ρ ⟨hm,found,free,s4,s6,h1,h2,rfl⟩
  rw [DU] at h1 hm;show CZ [D.lst (found.map pairD)] λz=>Bm [z] λy=>Pd y m;refine Ox (ps:=found) rfl (by omega) λps' p1=>p ps' m (λx hx=>?_) (by rw [p1.length_eq]; omega) (by omega)
  have:=JL (h2.mem_iff.mp (fV _ (p1.mem_iff.mp hx)))
  exact⟨this.1,this.2.1⟩
 ·rintro pre d post m ρ nx hall ⟨hm,found,free,s4,s6,h1,h2,rfl⟩ hnx
  obtain⟨rfl,hk⟩:=Rl hall;have hlen:=h2.length_eq;rw [dZ] at hlen;rw [dZ,eC] at hnx;have hfl:(free.map pairD).length=free.length:=Go ..;refine⟨_,_,by decide,rfl,rfl,_,_,rfl,rfl,_,rfl,by omega,by omega,by omega,λr r0 r1=>?_⟩;obtain⟨k,rfl⟩:∃k:Nat,r=(k:Int):=⟨r.toNat,by omega⟩;have hkf:k<free.length:=by omega
  have e1:free[k]?=some free[k]:=No hkf;refine⟨k,pairD free[k],rfl,by rw [dX,e1]; rfl,by omega,by rw [Go]; omega,?_⟩;rw [GI];exact hnx _ _ ⟨by omega,found++[free[k]],free.eraseIdx k,_,_,by rw [dZ,eC]; omega,(LG (a:=found) e1).trans h2,by rw [fR]; rfl⟩
end
end Nt
namespace L2
noncomputable def Zr(K:Frag)(l:Ch)(xs:List V):It :=
 ⟨λi H=>SqL K H l xs/\i<xs.length,λi H x H'=>H'=H/\xs.reverse[i]?=some x,λi H=>SqL K H l xs/\xs.length<=i⟩
noncomputable def bH(n:Nat)(it l:Ch)(i:Nat)(h:dg):Prop:=i<=n/\h.IsRevIter it l ((n:Int) - 1 - (i:Int))
theorem UX{P:eB}{w:eG}{K:Frag}{tg:d6}(it l:Ch)(xs:List V)(hl:l≠it):Turn P w K tg (Zr K l xs) [it] it (bH xs.length it l) where
 mem:=by simp
 obj:=λi h st c hc=>by
  rw [TM.mp hc];obtain⟨_,o,ho,_,d⟩:=st;exact⟨o,ho,λv z=>by rw [d] at z; cases z⟩
 keep:=λi h h' st k=>⟨st.1,st.2.at λo e=>k it (by simp) o e⟩
 item:=by
  intro X hP hw hK hc i zG s Z H E I hf st hg;subst hP hw hK;obtain⟨hq,hi⟩:=hg;obtain⟨its,r,pl,hz⟩:=I.list hq;have l1:=r.length;have W:=kH (prog:=X.prog) (w:=X.w) (A:=X.A) (I.ok.hd hc) it l hl its.toArray;have sz:its.toArray.size=xs.length:=by rw [dW,l1]
  refine W.item i s _ _ (by rw [sz]; exact hi) ⟨by rw [sz]; exact st.1,by rw [sz]; exact st.2,pl.isList⟩ λv h' tk hp st2 kk=>⟨v,rfl,?_⟩;obtain⟨s1,s2,_⟩:=st2;rw [sz] at s1 s2;obtain⟨o,ho,oc,od⟩:=id s2;refine Pq ho oc od (by decide) ?_;have I2:Inv X zG Z H { s with heap:=h',toks:=tk }:=I.turnedL (t':=tk) (ch:=[it]) hf kk
  have hv:its.reverse[i]?=some v:=by
   have hp':its.toArray[its.toArray.size - 1 - i]?=some v:=hp;rw [kA (by omega)];rw [dW] at hp'
   simpa using hp'
  have hr:xs.reverse[i]?=some (xs.reverse[i]'(by rw [fP]; exact hi)):=No _;obtain⟨u,e1,e2⟩:=r.reverse.get hr;rw [hv] at e1;cases e1;exact⟨_,H,I2,e2,⟨rfl,hr⟩,⟨s1,s2⟩,λb hb=>(hf b hb).1⟩
 done:=by
  intro X hP hw hK hc i zG s Z H E I hf st hg;subst hP hw hK;obtain⟨hq,hi⟩:=hg;obtain⟨its,r,pl,hz⟩:=I.list hq;have l1:=r.length;have W:=kH (prog:=X.prog) (w:=X.w) (A:=X.A) (I.ok.hd hc) it l hl its.toArray;have sz:its.toArray.size=i:=by rw [dW,← l1]; have:=st.1; omega
  have si:xs.length=i:=by have:=st.1; omega
  refine W.done s _ _ ⟨Op _,by rw [sz]; have:=st.2; rw [si] at this; exact this,pl.isList⟩ λh' tk kk=>⟨rfl,I.turnedL (t':=tk) (ch:=[it]) hf kk⟩
 self:=λA i s Q E st h=>wpAny_pyIter_revIter st.2 h
section
variable {X:Cx}{e1 tg:Expr}{p pos:Pos}{te:TE}
noncomputable def cI(K:Frag)(te:TE):TI:=λZ H R=>te Z H λv H1=>∃a xs,v=.ref a/\SqL K H1 a xs/\R (Zr K a xs) H1
theorem Yw(hg:Gl X "reversed")(hm:X.mg "reversed"=none)(he:PE X e1 te)(hs:autoParam (starEach [e1] X.env=[(false,eval e1 X.env)]) zau3._auto_1):PI X tg (.Call (.Name "reversed" p) [e1] [] pos) (cI X.K te):=by
 intro zG s Z H R I h;refine fL (C7 I hg hm boot_reversed ?_);refine ej ?_ hs rfl;rw [hs];refine fK (thn (he zG s Z H _ I h) λu s1 ⟨x,H1,I1,r1,a,xs,ex,hq,q⟩=>fZ ?_);subst ex;cases r1;obtain⟨its,r',pl,hz⟩:=I1.list hq;have hl:s1.heap.IsList a its.toArray:=pl.isList;have hlt:a<s1.heap.objs.size:=by obtain⟨_,e,_⟩:=id hl; exact XV e
 have l1:=r'.length;refine call_reversed_list hl ?_;have it0:(s1.heap.push (revObj a ((its.toArray.size:Int) - 1))).IsRevIter s1.heap.objs.size a ((xs.length:Int) - 1 - ((0:Nat):Int)):=⟨_,UF _ rfl,rfl,by show Data.fields _=_; simp [revObj,l1]⟩;refine wpAny_pyIter_revIter it0 ?_;refine⟨s1.heap.objs.size,[s1.heap.objs.size],_,Zr X.K a xs,H1,rfl,I1.kept (t':=s1.toks) λb o e=>FM _ e,UX _ a xs (da hlt),⟨dY _,it0⟩,λc hc=>?_,q⟩;rw [TM.mp hc];exact I1.fpOk (Op _) (I1.hok.fresh (Op _))
end
end L2
namespace Dp
open L2
section
variable {X:Cx}{e1 tg:Expr}{p pos:Pos}{κ:Kd}{wa:DW}
noncomputable def Xt(wa:DW):GQ:=λn ρ P=>wa n ρ λd n1=>∃xs,d=.lst xs/\P xs.reverse n1
theorem ZW(hg:Gl X "reversed")(hm:X.mg "reversed"=none)(h:DE X e1 κ wa)(hk:autoParam (κ≠.tp) zau6._auto_1)(hs:autoParam (starEach [e1] X.env=[(false,eval e1 X.env)]) zau3._auto_1) :
  DI X tg (.Call (.Name "reversed" p) [e1] [] pos) (Xt wa):=by
 obtain⟨t,a1,a2⟩:=h;refine⟨_,Yw hg hm a1 hs,λC M H n ρ Z P Rr R w q=>?_⟩;refine a2 C M H n ρ Z _ _ R w λv H1 d n1 ee f1 r1 p=>?_;obtain⟨xs,rfl,p⟩:=p;obtain⟨a,vs,rfl,hn,hs⟩:=r1.shOf R.dom hk;refine⟨a,vs,rfl,hn.sq,q _ H1 _ n1 ee f1 (λi M' H' pr dom=>?_) p⟩;have hq:SqL X.K H' a vs:=(hn.pres pr).sq;have l1:=hs.length;refine⟨λd hd=>⟨⟨hq,?_⟩,λx H2 y=>?_⟩,λhl=>⟨hq,by rw [fP] at hl; omega⟩⟩
 ·have:=(Uf.mp hd).1
  rw [fP] at this;omega
 ·obtain⟨rfl,e1⟩:=y
  obtain⟨v1,f1,a1⟩:=(hs.pres pr).reverse.get hd;rw [e1] at f1;cases f1;exact⟨.refl,a1⟩
end
end Dp
namespace Nt
open L2 Dp
noncomputable def BO(M:Net)(u:BL):Net:=⟨M.ps,M.ts.filter λv=>decide (v≠u)⟩
noncomputable abbrev Eb:=List (Str×Str)
noncomputable def keepsP(N:Net)(t b:Int)(ps:Eb)(M:Net):Prop:=∀p∈ps,∀d,Least N p.1 p.2 d->∃d',Least M p.1 p.2 d'/\d'*b<=d*t
noncomputable def By(N:Net)(t b:Int)(ps:Eb)(M:Net):Bool:=@decide (keepsP N t b ps M) (gm _)
theorem keepsB_iff{N:Net}{t b:Int}{ps:Eb}{M:Net}:By N t b ps M=true↔keepsP N t b ps M:=by
 unfold By;exact @decide_eq_true_iff _ (gm _)
noncomputable def BJ(N:Net)(t b:Int)(ps:Eb):Net->List BL->Net
 | M,[]=>M
 | M,u::r=>if By N t b ps (BO M u)=true then BJ N t b ps (BO M u) r else BJ N t b ps M r
noncomputable def UI(N:Net):Eb->List (Option Int)->Prop
 | [],[]=>True
 | p::ps,o::os=>Far N p.1 p.2 o/\UI N ps os
 | _,_=>False
noncomputable def Il(N:Net)(ps:Eb):Prop:=ps.length<=30/\∀p∈ps,p.1∈N.ps/\p.2∈N.ps
noncomputable def Gm(t b:Int):Prop:=1<=b/\b<=1000000/\1<=t/\t<=1000000
noncomputable def Ce:W2:=λss n P=>∃(M:Net) (u:BL),ss=[.sh (enc M),.sh (.lst [Ao u])]/\okN M/\(Po u.a/\Po u.b/\1<=u.len/\u.len<=1000000)/\P (enc (BO M u)) n
noncomputable def GA:W2:=λss n P=>∃(N:Net) (ps:Eb),ss=[.sh (enc N),.sh (.tup (ps.map pairD))]/\okN N/\Il N ps/\∀os,UI N ps os->P (.lst (os.map HP)) n
noncomputable def ZD(N M:Net)(t b:Int)(ps:Eb)(os:List (Option Int))(i:Int):Prop:=∃(j:Nat) (q:Str×Str) (d:Int),i=(j:Int)/\ps[j]?=some q/\os[j]?=some (some d)/\Least N q.1 q.2 d/\∀d',Least M q.1 q.2 d'->¬d'*b<=d*t
noncomputable def NL:W2:=λss n P=>∃(N M:Net) (t b:Int) (ps:Eb) (os:List (Option Int)),ss=[.sh (.tup [.int t,.int b]),.sh (.tup (ps.map pairD)),.sh (.lst (os.map HP)),.sh (enc M)]/\okN M/\M.ps=N.ps/\Gm t b/\Il N ps/\UI N ps os /\
 ∀o:Option Int,(o=none->By N t b ps M=true)->(∀i,o=some i->By N t b ps M=false/\ZD N M t b ps os i)->P (HP o) n
noncomputable def Xo:W2:=λss n P=>∃(N:Net) (t b:Int) (ps:Eb),ss=[.sh (enc N),.sh (.tup [.int t,.int b]),.sh (.tup (ps.map pairD))]/\okN N/\Gm t b/\Il N ps/\∀ord:List BL,ord.Perm N.ts->E5 ord->P (enc (BJ N t b ps N ord.reverse)) n
noncomputable def Lz:W2:=λss n P=>∃(N M:Net) (t b:Int) (ps:Eb) (z:D),ss=[.sh (enc N),.sh (.tup [.int t,.int b]),.sh (.tup (ps.map pairD)),.sh z]/\Ef z=some (M.ts.map Ao)/\okN N/\okN M/\M.ps=N.ps/\Gm t b/\Il N ps/\P (.bl (By N t b ps M)) n
noncomputable def Sm:W2:=λss n P=>∃(N:Net) (t b:Int) (ps:Eb) (ord:List BL),ss=[.sh (enc N),.sh (.tup [.int t,.int b]),.sh (.tup (ps.map pairD)),.sh (.lst (ord.map Ao))]/\okN N/\Gm t b/\Il N ps/\(∀u∈ord,u∈N.ts)/\P (enc (BJ N t b ps N ord)) n
noncomputable def JW:Ai:=(Am (AU Lv (AC (AD (AB 0)) (AC (Ec (BS [some 1,none] (A1 (Aa Ar (AB 0) (wC (D.int 1)))) (AR 1) (AS (Aa (GS true) (AB 1) (AB 0))) (AB 1))) AV))))
noncomputable def Fs:Ai:=(Am (BS [some 0,none,none] (A1 (AB 1)) (Bi 2 (AX (AR 1) (AX (AR 2) BB))) Cf (AU Od (AC (AD (AB 0)) (AC (AD (AB 1)) (AC (AD (AB 2)) AV))))))
noncomputable def Ft:Ai:=(Af (Cj (Rb (AB 2)) (Bi 2 (AX (AR 4) (AX (AR 5) BB))) (A2 (AS (Aa (C4 true) (AB 5) (wC D.non))) (Af (A0 6 (AU Od (AC (AD (AB 3)) (AC (AD (Aa Ar (Aa Ar (AB 1) (AB 4)) (wC (D.int 0)))) (AC (AD (Aa Ar (Aa Ar (AB 1) (AB 4)) (wC (D.int 1)))) AV)))))
 (A2 (Bh (AS (Aa (C4 false) (AB 6) (wC D.non))) (A5 (AS (AU Bu (AC (AD (AB 6)) (AC (AD (AB 0)) (AC (AD (AB 5)) AV))))))) (Am (AB 4)) Ap)) Ap))
 (Am (wC D.non)))
noncomputable def Ci:Ai:=(Af (A0 3 (AU GA (AC (AD (AB 0)) (AC (AD (AB 2)) AV))))
 (Af (A0 4 (AU Lv (AC (AD (AB 0)) (AC (Ec (Aa Ar (AB 0) (wC (D.int 1)))) AV))))
 (Af (Cj (Xt (AU Dg (AC (AD (Aa Ar (AB 0) (wC (D.int 1)))) AV))) (AR 5) (Af (A0 6 (AU Ce (AC (AD (AB 4)) (AC (AD (DL (AE (AB 5) AY))) AV))))
 (A2 (AS (Aa (C4 false) (AU NL (AC (AD (AB 1)) (AC (AD (AB 2)) (AC (AD (AB 3)) (AC (AD (AB 6)) AV))))) (wC D.non))) (A0 4 (AB 6)) Ap)))
 (Am (AB 4)))))
noncomputable def FI:Ai:=(Am (Aa Pu (Aa LU (AB 0) (Aa Ar (AB 1) (wC (D.int 1)))) (Aa LU (AB 2) (Aa Ar (AB 1) (wC (D.int 0))))))
noncomputable def Fz:Ai:=(Af (Cj (A1 (AB 2)) (Bi 2 (AX (AR 4) (AX (AR 5) BB))) (Af (A0 6 (Oi (AU Dh (AC (Ec (Aa Ar (AB 0) (wC (D.int 1)))) (AC (AD (AB 4)) AV))) (AB 5)))
 (A2 (AS (Aa (C4 true) (AB 6) (wC D.non))) (Af (A0 7 (Oi (AU Dh (AC (Ec (AB 3)) (AC (AD (AB 4)) AV))) (AB 5)))
 (A2 (Bh (AS (Aa (C4 false) (AB 7) (wC D.non))) (A5 (AS (AU Bu (AC (AD (AB 7)) (AC (AD (AB 1)) (AC (AD (AB 6)) AV))))))) (Am (wC (D.bl false))) Ap)) Ap)))
 (Am (wC (D.bl true))))
noncomputable def Gg:Ai:=(Af (A0 4 (Bs OG (AE (Aa Ar (AB 0) (wC (D.int 1))) AY)))
 (Af (Cj (A1 (AB 3)) (AR 5) (Af (A0 6 (BS [some 5,none] (A1 (AB 4)) (AR 1) (AS (Aa Jv (AB 1) (AB 0))) (AB 1)))
 (A2 (AS (AU Lz (AC (AD (AB 0)) (AC (AD (AB 1)) (AC (AD (AB 2)) (AC (AD (AB 6)) AV)))))) (A0 4 (AB 6)) Ap)))
 (Am (BE (AE (Aa Ar (AB 0) (wC (D.int 0))) (AE (Bs Bm (AE (Bs CZ (AE (AB 4) AY)) AY)) AY))))))
theorem B5{M:Net}(okm:okN M)(u:BL):okN (BO M u):=⟨Ug okm.1 (λt h=>(gP.mp h).1) (okm.1.trise.filter _),okm.2.1,dn (g9 _ _) okm.2.2⟩
theorem GD{N:Net}{t b:Int}{ps:Eb}:∀{ord:List BL} {M:Net},okN M->okN (BJ N t b ps M ord)
 | [],M,h=>h
 | u::r,M,h=>by
  show okN (if By N t b ps (BO M u)=true then BJ N t b ps (BO M u) r else BJ N t b ps M r)
  split
  ·exact GD (B5 h u)
  ·exact GD h
theorem Gq{N:Net}(ok:N.Ok){ts ts':List BL}(h:ts.Pairwise Bt)(hp:ts'.Perm ts)(hb:JV ts'):ts'=ts:=QT hp hb (RL h)
section
variable {ss:List Slot}{n:Nat}{Pd:D->Nat->Prop}
theorem Gn{M:Net}(ok:M.Ok):∀t∈M.ts,Po t.a/\Po t.b/\1<=t.len/\t.len<=1000000:=λt ht=>by
 obtain⟨a,b,_,c⟩:=ok.tin t ht;exact⟨ok.names _ a,ok.names _ b,c⟩
theorem VY{t:BL}(h:Po t.a/\Po t.b/\1<=t.len/\t.len<=1000000):CY (Ao t)/\CY (.lst [Ao t]):=by
 have hi:item (Ao t):=Pm (DK h.1) (DK h.2.1) h.1.2.1 h.2.1.2.1 (by have:=h.2.2; omega);exact⟨Ez (B:=1000001) (by decide) hi.1 (by have:=hi.2.2; omega),Iu λd hd=>by rw [TM.mp hd]; exact hi⟩
theorem Ni(h:Ce ss n Pd):JW (EE Pd) n (ss++Tk 0 .no):=by
 obtain⟨M,u,rfl,okm,hu,p⟩:=h;have ok:=okm.1;have l60:=okm.2.2;unfold JW;refine⟨_,AJ (j:=1) rfl,by show (M.ts.map Ao).length<=10000000; rw [Go]; omega,?_⟩;refine C1 (λd=>!(([Ao u]).any λy=>Cw y d)) id (λρ=>∃s,ρ=[.sh (.lst [Ao u]),s]) _ _ _ _ ?_ ⟨_,rfl⟩ ?_
 ·rintro d hd ρ m nx sk ⟨s,rfl⟩ h1 h2
  obtain⟨t,ht,rfl⟩:=Rs.mp hd;refine⟨HY ok ht,(VY hu).2,_,rfl,?_⟩;exact DY (λc=>h1 _ ⟨_,rfl⟩ c) λc=>h2 _ ⟨_,rfl⟩ (eV.mpr c)
 ·rw [d8,jE]
  have e:(M.ts.map Ao).filter (λd=>!(([Ao u]).any λy=>Cw y d))=(BO M u).ts.map Ao:=by
   rw [i6]
   congr 1
   refine jY λt _=>?_;show (!((([u]:List BL).map Ao).any λy=>Cw y (Ao t)))=decide (t≠u);rw [Sb,decide_not]
   congr 1
   rw [eU,decide_eq_true_eq,decide_eq_true_eq,TM]
  rw [e];have okd:=B5 okm u;refine⟨M,_,(BO M u).ts,rfl,rfl,by have:=okd.2.2; omega,λts' p1 p2=>?_⟩;rw [Gq okd.1 okd.1.trise p1 p2];exact p
theorem Jl(h:GA ss n Pd):Fs (EE Pd) n (ss++Tk 0 .no):=by
 obtain⟨N,ps,rfl,okn,hp,p⟩:=h;unfold Fs;refine⟨by show (ps.map pairD).length<=10000000; rw [Go]; have:=hp.1; omega,?_⟩
 have go:∀(rest:Eb) (acc:List D) (s1 s2:Slot),(∀q∈rest,q.1∈N.ps/\q.2∈N.ps)->(∀os,UI N rest os->Pd (.lst (acc++os.map HP)) n) ->
   EO (Bi 2 (AX (AR 1) (AX (AR 2) BB))) Cf (AU Od (AC (AD (AB 0)) (AC (AD (AB 1)) (AC (AD (AB 2)) AV)))) (λacc n2=>Pd (.lst acc) n2) (rest.map pairD) acc n [.sh (enc N),s1,s2]:=by
  intro rest
  induction rest with
  | nil =>
   intro acc s1 s2 _ h
   have:=h [] trivial
   rw [kO,eO] at this;exact this
  | cons q rest ih =>
   intro acc s1 s2 hq h;obtain⟨q1,q2⟩:=hq q Re;refine⟨rfl,rfl,N,q.1,q.2,rfl,okn,q1,q2,λo ho=>?_⟩;refine ih (acc++[HP o]) _ _ (λr hr=>hq r (Sc _ hr)) λos hos=>?_
   have:=h (o::os) ⟨ho,hos⟩
   rw [eg];exact this
 exact go ps [] _ _ hp.2 λos hos=>by rw [d8]; exact p os hos
theorem Jo(h:NL ss n Pd):Ft (EE Pd) n (ss++Tk 3 .no):=by
 obtain⟨N,M,t,b,ps,os,rfl,okm,eM,⟨b1,b2,t1,t2⟩,hp,hf,p⟩:=h;unfold Ft;refine⟨_,rfl,?_⟩
 have go:∀(rest done:Eb) (ro dO:List (Option Int)) (s4 s5 s6:Slot),done++rest=ps->dO++ro=os->dO.length=done.length->UI N rest ro->keepsP N t b done M ->
   BF (Bi 2 (AX (AR 4) (AX (AR 5) BB))) (A2 (AS (Aa (C4 true) (AB 5) (wC D.non))) (Af (A0 6 (AU Od (AC (AD (AB 3)) (AC (AD (Aa Ar (Aa Ar (AB 1) (AB 4)) (wC (D.int 0)))) (AC (AD (Aa Ar (Aa Ar (AB 1) (AB 4)) (wC (D.int 1)))) AV)))))
 (A2 (Bh (AS (Aa (C4 false) (AB 6) (wC D.non))) (A5 (AS (AU Bu (AC (AD (AB 6)) (AC (AD (AB 0)) (AC (AD (AB 5)) AV))))))) (Am (AB 4)) Ap)) Ap) { EE Pd with nx:=Am (wC D.non) (EE Pd) } (ER done.length (ro.map HP)) n [.sh (.tup [.int t,.int b]),.sh (.tup (ps.map pairD)),.sh (.lst (os.map HP)),.sh (enc M),s4,s5,s6]:=by
  intro rest
  induction rest with
  | nil =>
   intro done ro dO s4 s5 s6 e eo lo hr hk;cases ro with
   | nil =>
    rw [eO] at e;subst e;exact p none (λ_=>keepsB_iff.mpr hk) (λi e=>by cases e)
   | cons _ _=>exact hr.elim
  | cons q rest ih =>
   intro done ro dO s4 s5 s6 e eo lo hr hk;cases ro with
   | nil=>exact hr.elim
   | cons o ro =>
    obtain⟨hq,hr⟩:=hr;have e':(done++[q])++rest=ps:=by rw [eg]; exact e
    have hat:(ps.map pairD)[done.length]?=some (pairD q):=by rw [← e,dX,fA (Op _),iJ]; rfl
    have hin:=hp.2 q (by rw [← e]; exact df _ Re);have skip:(∀d,Least N q.1 q.2 d->∃d',Least M q.1 q.2 d'/\d'*b<=d*t)->∀s4 s5 s6,BF (Bi 2 (AX (AR 4) (AX (AR 5) BB))) (A2 (AS (Aa (C4 true) (AB 5) (wC D.non))) (Af (A0 6 (AU Od (AC (AD (AB 3)) (AC (AD (Aa Ar (Aa Ar (AB 1) (AB 4)) (wC (D.int 0)))) (AC (AD (Aa Ar (Aa Ar (AB 1) (AB 4)) (wC (D.int 1)))) AV)))))
 (A2 (Bh (AS (Aa (C4 false) (AB 6) (wC D.non))) (A5 (AS (AU Bu (AC (AD (AB 6)) (AC (AD (AB 0)) (AC (AD (AB 5)) AV))))))) (Am (AB 4)) Ap)) Ap) { EE Pd with nx:=Am (wC D.non) (EE Pd) } (ER (done.length+1) (ro.map HP)) n [.sh (.tup [.int t,.int b]),.sh (.tup (ps.map pairD)),.sh (.lst (os.map HP)),.sh (enc M),s4,s5,s6]:=λhkq s4 s5 s6=>by
     have:=ih (done++[q]) ro (dO++[o]) s4 s5 s6 e' (by rw [eg]; exact eo) (by rw [dZ,dZ,lo]; rfl) hr (λx hx=>by
      rcases d7.mp hx with hx | hx
      ·exact hk x hx
      ·rw [TM.mp hx]; exact hkq)
     rw [dZ,eC] at this;exact this
    have lost:∀d,o=some d->(∀d',Least M q.1 q.2 d'->¬d'*b<=d*t)->Pd (.int (done.length:Int)) n:=λd od hn=>by
     subst od;refine p (some (done.length:Int)) (λe=>by cases e) λi ei=>⟨?_,done.length,q,d,by cases ei; rfl,by rw [← e,fA (Op _),iJ]; rfl,by rw [← eo,← lo,fA (Op _),iJ]; rfl,hq,hn⟩;rw [eV];exact λz=>by obtain⟨d',h1,h2⟩:=keepsB_iff.mp z q (by rw [← e]; exact df _ Re) d hq; exact hn d' h1 h2
    refine⟨rfl,rfl,rfl,?_⟩;cases o with
    | none=>exact skip (λd hd=>absurd hd.1 (hq d)) _ _ _
    | some d =>
     refine⟨_,AJ hat,_,AJ (j:=0) rfl,_,AJ hat,_,AJ (j:=1) rfl,M,q.1,q.2,rfl,okm,by rw [eM]; exact hin.1,by rw [eM]; exact hin.2,λo' ho'=>⟨rfl,?_⟩⟩;cases o' with
     | none=>exact lost d rfl λd' hd'=>absurd hd'.1 (ho' d')
     | some d' =>
      refine⟨d',t,b,d,rfl,b1,b2,t1,t2,?_⟩
      by_cases c:d'*b<=d*t
      ·rw [decide_eq_true c]
       exact skip (λd2 hd2=>⟨d',ho',by rw [Least.unique hd2 hq]; exact c⟩) _ _ _
      ·rw [decide_eq_false c]
       exact lost d rfl λd2 hd2=>by rw [Least.unique hd2 ho']; exact c
 exact go ps [] os [] _ _ _ rfl rfl rfl hf (λx hx=>by cases hx)
theorem Uq(h:Xo ss n Pd):Ci (EE Pd) n (ss++Tk 4 .no):=by
 obtain⟨N,t,b,ps,rfl,okn,tm,hp,p⟩:=h;have ok:=okn.1;have l60:=okn.2.2;unfold Ci;refine⟨N,ps,rfl,okn,hp,λos hos=>?_⟩;refine⟨_,AJ (j:=1) rfl,N,_,N.ts,rfl,rfl,by omega,λts' p1 p2=>?_⟩;rw [Gq ok ok.trise p1 p2];refine⟨_,AJ (j:=1) rfl,_,N.ts,rfl,rfl,by omega,λord o1 o2=>⟨_,rfl,?_⟩⟩;rw [← jn];have hord:∀u∈ord.reverse,u∈N.ts:=λu hu=>o1.mem_iff.mp (ia.mp hu);have p:=p ord o1 o2;revert hord p;generalize ord.reverse=rev;intro hord p
 have go:∀(rest:List BL) (M:Net) (s5 s6:Slot),(∀u∈rest,u∈N.ts)->okN M->M.ps=N.ps->Pd (enc (BJ N t b ps M rest)) n ->
   BF (AR 5) (Af (A0 6 (AU Ce (AC (AD (AB 4)) (AC (AD (DL (AE (AB 5) AY))) AV))))
 (A2 (AS (Aa (C4 false) (AU NL (AC (AD (AB 1)) (AC (AD (AB 2)) (AC (AD (AB 3)) (AC (AD (AB 6)) AV))))) (wC D.non))) (A0 4 (AB 6)) Ap)) { EE Pd with nx:=Am (AB 4) (EE Pd) } (rest.map Ao) n [.sh (enc N),.sh (.tup [.int t,.int b]),.sh (.tup (ps.map pairD)),.sh (.lst (os.map HP)),.sh (enc M),s5,s6]:=by
  intro rest
  induction rest with
  | nil=>intro M s5 s6 _ _ _ h; exact h
  | cons u rest ih =>
   intro M s5 s6 hu okm eM h;have h':Pd (enc (if By N t b ps (BO M u)=true then BJ N t b ps (BO M u) rest else BJ N t b ps M rest)) n:=h;refine⟨z1,M,u,rfl,okm,Gn ok u (hu u Re),?_⟩;refine⟨N,BO M u,t,b,ps,os,rfl,B5 okm u,eM,tm,hp,hos,λo h1 h2=>⟨rfl,?_⟩⟩;cases o with
   | none =>
    rw [h1 rfl,if_pos rfl] at h';exact ih (BO M u) _ _ (λv hv=>hu v (Sc _ hv)) (B5 okm u) eM h'
   | some i =>
    rw [(h2 i rfl).1,if_neg (by decide)] at h';exact ih M _ _ (λv hv=>hu v (Sc _ hv)) okm eM h'
 exact go rev N _ _ hord okn rfl p
theorem Jm(h:Bu ss n Pd):FI (EE Pd) n (ss++Tk 0 .no):=by
 obtain⟨l,t,b,x,rfl,b0,b1,t0,t1,p⟩:=h;unfold FI;exact⟨_,AJ (j:=1) rfl,bY (by omega) b1,_,AJ (j:=0) rfl,bY (by omega) t1,p⟩
theorem Kx(h:Lz ss n Pd):Fz (EE Pd) n (ss++Tk 4 .no):=by
 obtain⟨N,M,t,b,ps,z,rfl,hz,okn,okm,eM,⟨b1,b2,t1,t2⟩,hp,p⟩:=h;unfold Fz
 have go:∀(rest done:Eb) (s4 s5 s6 s7:Slot),done++rest=ps->keepsP N t b done M ->
   BF (Bi 2 (AX (AR 4) (AX (AR 5) BB))) (Af (A0 6 (Oi (AU Dh (AC (Ec (Aa Ar (AB 0) (wC (D.int 1)))) (AC (AD (AB 4)) AV))) (AB 5)))
 (A2 (AS (Aa (C4 true) (AB 6) (wC D.non))) (Af (A0 7 (Oi (AU Dh (AC (Ec (AB 3)) (AC (AD (AB 4)) AV))) (AB 5)))
 (A2 (Bh (AS (Aa (C4 false) (AB 7) (wC D.non))) (A5 (AS (AU Bu (AC (AD (AB 7)) (AC (AD (AB 1)) (AC (AD (AB 6)) AV))))))) (Am (wC (D.bl false))) Ap)) Ap)) { EE Pd with nx:=Am (wC (D.bl true)) (EE Pd) } (rest.map pairD) n [.sh (enc N),.sh (.tup [.int t,.int b]),.sh (.tup (ps.map pairD)),.sh z,s4,s5,s6,s7]:=by
  intro rest
  induction rest with
  | nil =>
   intro done s4 s5 s6 s7 e hk;rw [eO] at e;subst e;rw [keepsB_iff.mpr hk] at p;exact p
  | cons q rest ih =>
   intro done s4 s5 s6 s7 e hk;have e':(done++[q])++rest=ps:=by rw [eg]; exact e
   have hin:=hp.2 q (by rw [← e]; exact df _ Re)
   have skip:(∀d,Least N q.1 q.2 d->∃d',Least M q.1 q.2 d'/\d'*b<=d*t)->keepsP N t b (done++[q]) M:=λhkq x hx=>by
    rcases d7.mp hx with hx | hx
    ·exact hk x hx
    ·rw [TM.mp hx]; exact hkq
   have lost:¬(∀d,Least N q.1 q.2 d->∃d',Least M q.1 q.2 d'/\d'*b<=d*t)->Pd (.bl false) n:=λhn=>by
    have:By N t b ps M=false:=by
     rw [eV];exact λz=>hn (keepsB_iff.mp z q (by rw [← e]; exact df _ Re))
    rw [this] at p;exact p
   refine⟨rfl,rfl,_,AJ (j:=1) rfl,N,q.1,_,N.ts,rfl,rfl,λ_=>Iff.rfl,okn,hin.1,λks ds K Mp T=>⟨ks,ds,rfl,_,A_ q.2,?_⟩⟩;rw [SG Mp];have hf:=T.far q.2;cases ek:K q.2 with
   | none =>
    rw [ek] at hf;refine⟨rfl,ih (done++[q]) _ _ _ _ e' (skip λd hd=>absurd hd.1 (hf d))⟩
   | some d =>
    rw [ek] at hf;refine⟨rfl,M,q.1,_,M.ts,rfl,hz,λ_=>Iff.rfl,okm,by rw [eM]; exact hin.1,λks2 ds2 K2 Mp2 T2=>⟨ks2,ds2,rfl,_,A_ q.2,?_⟩⟩;rw [SG Mp2];have hf2:=T2.far q.2;cases ek2:K2 q.2 with
    | none =>
     rw [ek2] at hf2;exact⟨rfl,lost λh=>by obtain⟨d',hd',_⟩:=h d hf; exact hf2 d' hd'.1⟩
    | some d' =>
     rw [ek2] at hf2;refine⟨rfl,d',t,b,d,rfl,b1,b2,t1,t2,?_⟩
     by_cases c:d'*b<=d*t
     ·rw [decide_eq_true c]
      exact ih (done++[q]) _ _ _ _ e' (skip λd2 hd2=>⟨d',hf2,by rw [Least.unique hd2 hf]; exact c⟩)
     ·rw [decide_eq_false c]
      exact lost λh=>by
       obtain⟨d2,hd2,h2⟩:=h d hf;rw [Least.unique hd2 hf2] at h2;exact c h2
 exact go ps [] _ _ _ _ rfl (λx hx=>by cases hx)
theorem MC(h:Sm ss n Pd):Gg (EE Pd) n (ss++Tk 3 .no):=by
 obtain⟨N,t,b,ps,ord,rfl,okn,tm,hp,hord,p⟩:=h;have ok:=okn.1;have l60:=okn.2.2;unfold Gg;refine⟨_,AJ (j:=1) rfl,?_⟩
 have go:∀(rest:List BL) (M:Net) (s5 s6:Slot),(∀u∈rest,u∈N.ts)->okN M->M.ps=N.ps->Pd (enc (BJ N t b ps M rest)) n ->
   BF (AR 5) (Af (A0 6 (BS [some 5,none] (A1 (AB 4)) (AR 1) (AS (Aa Jv (AB 1) (AB 0))) (AB 1)))
 (A2 (AS (AU Lz (AC (AD (AB 0)) (AC (AD (AB 1)) (AC (AD (AB 2)) (AC (AD (AB 6)) AV)))))) (A0 4 (AB 6)) Ap)) { EE Pd with nx:=Am (BE (AE (Aa Ar (AB 0) (wC (D.int 0))) (AE (Bs Bm (AE (Bs CZ (AE (AB 4) AY)) AY)) AY))) (EE Pd) } (rest.map Ao) n [.sh (enc N),.sh (.tup [.int t,.int b]),.sh (.tup (ps.map pairD)),.sh (.lst (ord.map Ao)),.sh (.lst (M.ts.map Ao)),s5,s6]:=by
  intro rest
  induction rest with
  | nil =>
   intro M s5 s6 _ okm eM h;refine⟨_,AJ (j:=0) rfl,?_⟩;show CZ [D.lst (M.ts.map Ao)] λz=>Bm [z] λy=>2<=sizeLine/\Pd (.tup [.tup (N.ps.map .str),y]) n;refine Kf (ts:=M.ts) rfl (by have:=okm.2.2; omega) λts' p1 p2=>⟨z2,?_⟩;rw [Gq okm.1 okm.1.trise p1 p2];have e:(D.tup [.tup (N.ps.map .str),.tup (M.ts.map Ao)])=enc M:=by rw [← eM]; rfl
   show Pd (D.tup [.tup (N.ps.map .str),.tup (M.ts.map Ao)]) n;rw [e];exact h
  | cons u rest ih =>
   intro M s5 s6 hu okm eM h;have h':Pd (enc (if By N t b ps (BO M u)=true then BJ N t b ps (BO M u) rest else BJ N t b ps M rest)) n:=h;have huN:=hu u Re;refine⟨by show (M.ts.map Ao).length<=10000000; rw [Go]; have:=okm.2.2; omega,?_⟩;refine C1 (λd=>!Cw d (Ao u)) id (λρ=>∃s,ρ=[.sh (Ao u),s]) _ _ _ _ ?_ ⟨_,rfl⟩ ?_
   ·rintro d hd ρ m nx sk ⟨s,rfl⟩ h1 h2
    obtain⟨v,hv,rfl⟩:=Rs.mp hd;refine⟨HY okm.1 hv,HY ok huN,?_⟩;exact DY (λc=>h1 _ ⟨_,rfl⟩ c) λc=>h2 _ ⟨_,rfl⟩ (eV.mpr c)
   rw [d8,jE]
   have e:(M.ts.map Ao).filter (λd=>!Cw d (Ao u))=(BO M u).ts.map Ao:=by
    rw [i6]
    congr 1
    refine jY λv _=>?_;show (!Cw (Ao v) (Ao u))=decide (v≠u);rw [decide_not]
    congr 1
    rw [eU,He,decide_eq_true_eq]
   rw [e];refine⟨N,BO M u,t,b,ps,_,rfl,rfl,okn,B5 okm u,eM,tm,hp,?_⟩;cases c:By N t b ps (BO M u) with
   | true =>
    rw [c,if_pos rfl] at h';exact ih (BO M u) _ _ (λv hv=>hu v (Sc _ hv)) (B5 okm u) eM h'
   | false =>
    rw [c,if_neg (by decide)] at h';exact ih M _ _ (λv hv=>hu v (Sc _ hv)) okm eM h'
 exact go ord N _ _ hord okn rfl p
end
end Nt
set_option maxRecDepth 10000
namespace St
open PySem.SetTable
noncomputable def st(t:jC)(p:Probe):Nat->Probe
 | 0=>p
 | n+1=>t.advance (st t p n)
structure Ok (t:jC) (p:Probe):Prop where
 more:p.more<=9
 i:p.i<=t.mask
 j:p.j+p.more<=t.mask
 per:p.perturb<2 ^ 64
noncomputable def it(m:Nat)(i:Nat):Nat->Nat
 | 0=>i
 | n+1=>(it m i n*5+1) % (m+1)
noncomputable def dQ(m:Nat):Prop:=∀a,a<=m->∀b,b<=m->∃n,n<=m/\it m a n=b
noncomputable def Up(xs:Array Nat):Prop:=∀i k:Nat,i<k->∀a b:Nat,xs[i]?=some a->xs[k]?=some b->a<b
noncomputable def In(t:jC)(j:Nat):Prop:=∃i:Nat,t.place[i]?=some j
structure Tab (t:jC) (hs:Nat->Option Int):Prop where
 cov:dQ t.mask
 dum:t.dummies=#[]
 up:Up t.place
 le:∀i j:Nat,t.place[i]?=some j->j<=t.mask
 few:t.place.size<=t.mask
 has:∀i j:Nat,t.place[i]?=some j->∃x,hs i=some x/\∃k:Nat,(st t (t.probeStart x) k).j=j/\∀k':Nat,k'<k->In t (st t (t.probeStart x) k').j
structure Lay (t:jC) (done:List Int) (o:Array (Option Nat)):Prop where
 size:o.size=t.mask+1
 own:∀j q:Nat,o[j]?=some (some q)->∃x,done[q]?=some x/\∃k:Nat,(st t (t.probeStart x) k).j=j/\∀k':Nat,k'<k->∃q':Nat,o[(st t (t.probeStart x) k').j]?=some (some q')
 all:∀q:Nat,q<done.length->∃j:Nat,o[j]?=some (some q)
 inj:∀j j' q:Nat,o[j]?=some (some q)->o[j']?=some (some q)->j=j'
end St
set_option maxRecDepth 10000
set_option maxHeartbeats 1000000
namespace St
open PySem.SetTable
section
variable {prog:Program}{w:World}{K:Type}[DecidableEq K](knd:KeyKind prog w K)
noncomputable def Holds(h:dg)(e:Int×Db)(k:List K):Prop:=e.1=tupleKeyHash knd k/\∃b,e.2=.ref b/\IsTupleKey knd h k b
inductive Xs (h:dg):List (Int×Db)->List (List K)->Prop
 | nil:Xs h [] []
 | cons {e:Int×Db} {k:List K} {es:List (Int×Db)} {ks:List (List K)}:Holds knd h e k->Xs h es ks->Xs h (e::es) (k::ks)
variable {knd}
variable (knd)
structure cv (B h:dg) (a:Ch) (ks:List (List K)) (o:Obj) (es:Array (Int×Db)) (ep:Nat) (t:jC):Prop where
 sub:∀b o,B.get? b=some o->h.get? b=some o
 out:B.get? a=none
 obj:h.get? a=some o
 ex:o.ExactSet
 dat:o.data=.set es ep t
 tab:Tab t (λi=>es[i]?.map (·.1))
 size:t.place.size=es.size
 mask:(t.mask=7/\es.size<=4)\/t.mask=31
 few:es.size<=18
 ents:∃kk,Xs knd B es.toList kk/\List.Perm kk ks
 nd:ks.Nodup
 plain:es.size=0\/t.plain=false
 led:t.led=!(w.params.followText "set-order")
variable {knd}
end
end St
set_option maxHeartbeats 4000000
namespace St
open PySem.SetTable
section
variable {prog:Program}{w:World}{A:Around}{R:Result->Shared->Prop}{I:Addr}{fp wr:List Addr}{n:Nat}{P:Nat->Value->Prop}{St:Nat->Heap->Prop}
theorem UV(W:Walks prog w A.in1 I fp wr n P St)(S:Ch)(hSf:S∉fp)(Inv:Nat->dg->Prop)
  (hmove:∀i h h',Inv i h->(∀b o,b∉wr->h.get? b=some o->h'.get? b=some o)->Inv i h')
  (hadd:∀i v (s:On) (Q:Bool->On->Prop) (E:Db->On->Prop),i<n->P i v->Inv i s.heap->(∀h' tk b,(∀c,c≠S->h'.get? c=s.heap.get? c)->Inv (i+1) h'->Q b { s with heap:=h',toks:=tk })->wpAny (model prog w) A.in1 (setAdd S v) Q E s) :
  ∀(k i:Nat) (s:On),n - i=k->i<=n->St i s.heap->Inv i s.heap ->
   (∀h' tk,(∀b o,b∉S::wr->s.heap.get? b=some o->h'.get? b=some o)->Inv n h'->R (.ok (.ret .none)) { s with heap:=h',toks:=tk }) ->
   codeAny (model prog w) A (.builtin "set.update.loop" ⟨[.ref S,.ref I],[]⟩) R s:=by
 intro k
 induction k with
 | zero =>
  intro i s hk hi hst hS hR;have hin:i=n:=by omega
  subst hin;refine e_ iL ?_;rw [fM gO _];show wpAny _ A.in1 (pyNext (.ref I) >>= _) _ _ s;refine Ev (W.done s _ _ hst λh' tk hk'=>?_);show wpAny _ A.in1 (ret eS) _ _ _;exact T0 (hR h' tk (λb o hb e=>hk' b o (λz=>hb (Sc _ z)) e) (hmove i _ _ hS hk'))
 | succ k ih =>
  intro i s hk hi hst hS hR;have hlt:i<n:=by omega
  refine e_ iL ?_;rw [fM gO _];show wpAny _ A.in1 (pyNext (.ref I) >>= _) _ _ s;refine Ev (W.item i s _ _ hlt hst λv h' tk hP hst' hk'=>?_);show wpAny _ A.in1 (holding [v] (setAdd S v) >>= _) _ _ _;refine Ev (fI ?_);refine hadd i v { s with heap:=h',toks:=tk } _ _ hlt hP (hmove i _ _ hS hk') λh2 tk2 b hs2 hI2=>?_;refine T0 ⟨fo gO _,?_⟩;refine ih (i+1) _ (by omega) hlt (W.frame _ _ _ hst' λb hb o e=>?_) hI2 λh3 tk3 hk3 hI3=>hR h3 tk3 (λb o hb e=>hk3 b o hb ?_) hI3
  ·exact(hs2 b λz=>hSf (by rw [← z]; exact hb)).trans e
  ·have hb2:b≠S:=λz=>hb (by rw [z]; exact Re)
   exact(hs2 b hb2).trans (hk' b o (λz=>hb (Sc _ z)) e)
end
section
variable {prog:Program}{w:World}{A:Around}{E:Value->Shared->Prop}{s:Shared}
theorem Wo(a:Db){Q₁:Db->On->Prop}
  (h:Q₁ (.ref s.heap.objs.size) { s with heap:=s.heap.push { cls:=.type "set",dict:=none,data:=.set #[] 0 (.fresh 0 0 (!(w.params.followText "set-order"))) } }) :
  codeAny (model prog w) A (.call (.builtin "set.__new__") ⟨[.type "set",a],[]⟩) (wants Q₁ E) s:=by
 refine jv ?_;show wpAny _ A.in1 (do checkBuiltinCall "set.__new__" ⟨[.type "set",a],[]⟩; again (.builtin "set.__new__" ⟨[.type "set",a],[]⟩)) _ _ s;refine Ev (jy (F.newCall_set_1 a) (T0 ⟨fo F.plain_set_new _,e_ F.entry_set_new ?_⟩));rw [fM F.plain_set_new _];unfold gg.«set.__new__» Builtin.Frozenset.newClass;have hsub:=sub_set_self;obtain⟨hp,g,d,tk,os⟩:=s
 dsimp only
 wp_walk
 refine wpAny_askSetting (T0 ?_)
 dsimp only
 simp only [newObj];refine Ev (wpAny_alloc (T0 ?_));exact T0 h
noncomputable def setObj(w:eG):Obj:={ cls:=.type "set",dict:=none,data:=.set #[] 0 (.fresh 0 0 (!(w.params.followText "set-order"))) }
theorem L5:isSubtype (.type "tuple") (.type "set")=pure false:=by rw [isSubtype_type]; kernel_rfl
theorem Kh:isSubtype (.type "tuple") (.type "frozenset")=pure false:=by rw [isSubtype_type]; kernel_rfl
theorem set_tuple{l:Ch}{items:Array Db}{Q:Db->On->Prop}(hh:A.handled=none)(hl:s.heap.IsTuple l items)(Inv:Nat->dg->Prop)
  (h0:∀h',(∀b o,s.heap.get? b=some o->h'.get? b=some o)->h'.get? s.heap.objs.size=some (setObj w)->Inv 0 h')
  (hmove:∀i h h',Inv i h->(∀b o,b∉[s.heap.objs.size+1]->h.get? b=some o->h'.get? b=some o)->Inv i h')
  (hadd:∀i v (s':On) (Q:Bool->On->Prop) (E:Db->On->Prop),i<items.size->items[i]?=some v->Inv i s'.heap->(∀h' tk b,(∀c,c≠s.heap.objs.size->h'.get? c=s'.heap.get? c)->Inv (i+1) h'->Q b { s' with heap:=h',toks:=tk })->wpAny (model prog w) A.in1.in1.in1 (setAdd s.heap.objs.size v) Q E s')
  (h:∀(h':dg) (tk:Nat),Inv items.size h'->(∀b o,s.heap.get? b=some o->h'.get? b=some o)->Q (.ref s.heap.objs.size) { s with heap:=h',toks:=tk }) :
  wpAny (model prog w) A (call (.type "set") [.ref l]) Q E s:=by
 obtain⟨c,tl,hmro⟩:=gj.mro;have hmade:=gj.made;have hsub:=gj.sub;refine ja (jv ?_);show wpAny _ _ (callAny (.type "set") _) _ _ _;refine T0 ⟨Code.quiet_builtin _ (by decide +kernel),e_ F.entry_type_call ?_⟩;rw [Around.under_plain (weight_type_call_type "set" [.ref l] []) rfl];have h1:=gj.notType;have h2:=gj.canCreate;have hct:=F.typeCall_set_1 (.ref l)
 repeat (any_goals (first | assumption | wp_step))
 refine iF (Wo (.ref l) (E:=E) (Q₁:=λobj s₁=>obj=.ref s.heap.objs.size/\s₁={ s with heap:=s.heap.push (setObj w) }) ⟨rfl,rfl⟩) λr s₁ hr=>?_;cases r with
 | error e=>exact hr
 | ok fl =>
  cases fl with
  | ret obj =>
   obtain⟨rfl,rfl⟩:=hr;have hS:(s.heap.push (setObj w)).get? s.heap.objs.size=some (setObj w):=UF _ rfl;have hT:Shared.TypeIs { s with heap:=s.heap.push (setObj w) } (.ref s.heap.objs.size) "set":=⟨_,hS,rfl⟩;have hli:=gj.init.lookup;have hbi:=gj.init.bind (.ref s.heap.objs.size)
   repeat (any_goals (first | assumption | wp_step))
   refine iF (iy (R:=wants (λr s₂=>r=.none/\∃h' tk,s₂={ s with heap:=h',toks:=tk }/\Inv items.size h' /\
     (∀b o,s.heap.get? b=some o->h'.get? b=some o)) E) gj.init.plain F.entry_set_init (check_set_init_1 hT ?_)) λr₂ s₂ hr₂=>?_
   ·obtain⟨ol,hol,hcl,nl,hdl⟩:=hl
    obtain⟨ocls,odict,odata,oslots⟩:=ol;simp only at hcl hdl;subst hcl; subst hdl
    have hS:(s.heap.push (setObj w)).get? s.heap.objs.size=some { cls:=.type "set",dict:=none,data:=.set #[] 0 (.fresh 0 0 (!(w.params.followText "set-order"))) }:=hS;have hol':(s.heap.push (setObj w)).get? l=some { cls:=.type "tuple",dict:=odict,data:=.seq items nl,slots:=oslots }:=FM _ hol;have hsls:=L5;have hslf:=Kh;have hne:(gn "tuple"==gn "dict")=false:=by decide
    have hl1:(s.heap.push (setObj w)).IsTuple l items:=⟨_,hol',rfl,nl,rfl⟩;unfold gg.«set.__init__» noKeywords Builtin.Frozenset.updateFrom;generalize hPI:pyIter=PI
    wp_walk
    subst hPI;refine fS hl1 ?_;refine Ev (wpAny_runValue ?_);have hlS:l<s.heap.objs.size:=XV hol;have hh3:A.in1.in1.in1.handled=none:=by simp [hh]
    have esz:(s.heap.push (setObj w)).objs.size=s.heap.objs.size+1:=ft ..
    have hneI:l≠(s.heap.push (setObj w)).objs.size:=by
     rw [esz]; exact da (fG hlS)
    have hSf:s.heap.objs.size∉[(s.heap.push (setObj w)).objs.size,l]:=by
     rw [esz]; simp only [ZB,TM,d9,or_false,not_or]
     exact⟨da (iW _),gz hlS⟩
    refine UV (Walks.tuple hh3 _ l hneI items) s.heap.objs.size hSf Inv (by rw [esz]; exact hmove) hadd (items.size - 0) 0 _ (by omega) (dY _)
     ⟨⟨_,UF _ rfl,rfl,rfl⟩,(hl1.push _)⟩ (h0 _ (λb o e=>FM _ (FM _ e)) (FM _ hS)) ?hR
    case hR =>
     intro h' tk' hm hS';show wpAny _ _ _ _ _ _;refine T0 ?_;show wpAny _ _ (ret eS) _ _ _;refine T0 ⟨rfl,h',tk',rfl,hS',λb o e=>?_⟩;have hb:=XV e;have hb1:b≠s.heap.objs.size:=da hb
     have hb2:b≠(s.heap.push (setObj w)).objs.size:=by
      rw [esz]; exact da (fG hb)
     exact hm b o (by simp only [ZB,TM,d9,or_false,not_or]; exact⟨hb1,hb2⟩) (FM _ (FM _ e))
   ·cases r₂ with
    | error e=>exact hr₂
    | ok fl₂ =>
     cases fl₂ with
     | ret r =>
      obtain⟨rfl,h',tk,rfl,hS',hk'⟩:=hr₂
      repeat (any_goals (first | assumption | wp_step))
      exact h _ _ hS' hk'
     | _=>exact hr₂.elim
  | _=>exact hr.elim
end
section
variable {w:World}
variable {o:Obj}{es:Array (Int×Value)}{ep:Nat}{t:SetTable}
structure Rw (w:eG) (o:Obj) (es:Array (Int×Db)) (ep:Nat) (t:jC):Prop where
 ex:o.ExactSet
 dat:o.data=.set es ep t
 fit:t.fits es.size=true
 up:Up t.place
 size:t.place.size=es.size
 few:es.size<=sizeLine
 led:w.params.followText "set-order"=false->t.led=true
end
end St
namespace L2
open PySem.W
theorem UA:bootBuiltins "set"=some (.type "set"):=by kernel_rfl
structure cW (keys:List (List Key)) (js:List Nat):Prop where
 lt:∀j∈js,j<keys.length
 nd:(js.map λj=>keys.getD j []).Nodup
 all:∀x∈keys,x∈js.map λj=>keys.getD j []
 ord:∀i j,i<=j->j<js.length->BX (keys.getD (js.getD j 0) []) (keys.getD (js.getD i 0) [])=false
end L2
namespace Dp
open L2
end Dp
namespace L2
open PySem.W
noncomputable def ES(l:List Str):List Str:=l.foldl (λacc x=>if x∈acc then acc else acc++[x]) []
theorem GL(l:List Str)(x:Str):ES (l++[x])=if x∈ES l then ES l else ES l++[x]:=by
 unfold ES; rw [List.foldl_append]; rfl
theorem Xf(l:List Str)(h:l.Nodup):ES l=l:=by
 have:∀r:List Str,r.reverse.Nodup->ES r.reverse=r.reverse:=by
  intro r
  induction r with
  | nil=>intro _; rfl
  | cons a r ih =>
   intro h;rw [gU] at h ⊢;rw [fz] at h;rw [GL,ih h.1,if_neg];intro z;exact h.2.2 a z a (by simp) rfl
 have:=this l.reverse
 rw [List.reverse_reverse] at this;exact this h
theorem V7(l:List Str):(ES l).length<=l.length:=by
 have:∀r:List Str,(ES r.reverse).length<=r.length:=by
  intro r
  induction r with
  | nil=>simp [ES]
  | cons a r ih =>
   rw [gU,GL]
   split
   ·rw [dq]; omega
   ·rw [dZ,eC,dq]; omega
 have:=this l.reverse
 rw [List.reverse_reverse,fP] at this;exact this
noncomputable def Ti(l:List Str)(k:Key):Bool:=l.any λx=>decide (k=.inr x)
theorem LI(l:List Str)(x:Str):Ti l (.inr x)=true↔x∈l:=by
 unfold Ti;rw [fj];constructor
 ·rintro ⟨y,hy,e⟩
  have:=of_decide_eq_true e
  cases this; exact hy
 ·intro h; exact⟨x,h,decide_eq_true rfl⟩
theorem Uh{P:eB}{w:eG}{x:Str}{v:Db}(h:(Aw P w).is (.inr x) v=true):v.scannable=true:=by
 obtain⟨t,rfl⟩:=(Vb (k:=.inr x) h:RelV (.str x) v);rfl
section
variable {prog:Program}{w:World}{A:Around}{E:Value->Shared->Prop}{s:Shared}
theorem QX{K:Type}[DecidableEq K]{knd:PySem.KeyKind prog w K}{h h':dg}{a:Ch}{S:K->Bool}{n:Nat}(x:h.SetOf knd a S n)(k:∀o,h.get? a=some o->h'.get? a=some o):h'.SetOf knd a S n:=by
 obtain⟨o,es,ep,t,ho,r⟩:=x;exact⟨o,es,ep,t,k o ho,r⟩
theorem JI{K:Type}[DecidableEq K]{knd:PySem.KeyKind prog w K}{h:dg}{a:Ch}{S S':K->Bool}{n n':Nat}(x:h.SetOf knd a S n)(e:∀k,S k=S' k)(en:n=n'):h.SetOf knd a S' n':=by
 have:S=S':=funext e
 subst this; subst en; exact x
theorem S5{K:Type}[DecidableEq K]{knd:PySem.KeyKind prog w K}{h:dg}{a:Ch}(ho:h.get? a=some (St.setObj w)):h.SetOf knd a (λ_=>false) 0 :=
 ⟨_,#[],0,_,ho,⟨rfl,rfl,rfl⟩,rfl,λe he=>by simp at he,λk=>by simp,by decide,by rfl,rfl⟩
theorem S4{l:Ch}{items:Array Db}{ss:List Str}{Q:Db->On->Prop}(hh:A.handled=none)(hl:s.heap.IsTuple l items)(hlen:items.size=ss.length)(h64:ss.length<64)
  (hit:∀(i:Nat) (v:Db) (x:Str),items[i]?=some v->ss[i]?=some x->(Aw prog w).is (.inr x) v=true)
  (h:∀h' tk,(∀b o,s.heap.get? b=some o->h'.get? b=some o)->h'.SetOf (Aw prog w) s.heap.objs.size (Ti (ES ss)) (ES ss).length->Q (.ref s.heap.objs.size) { s with heap:=h',toks:=tk }) :
  wpAny (model prog w) A (call (.type "set") [.ref l]) Q E s:=by
 refine St.set_tuple hh hl (λi h=>h.SetOf (Aw prog w) s.heap.objs.size (Ti (ES (ss.take i))) (ES (ss.take i)).length) ?_ ?_ ?_ ?_
 ·intro h' hk ho
  exact JI (S5 ho) (λk=>by simp [ES,Ti]) (by simp [ES])
 ·intro i h h' x hk
  refine QX x λo e=>hk _ o (λz=>?_) e;rw [TM] at z;exact absurd z.symm (jj _)
 ·intro i v s' Q E hi hv hS q
  have hil:i<ss.length:=by omega
  have hx:ss[i]?=some ss[i]:=No hil;have hkey:=hit i v _ hv hx;have e2:ss.take (i+1)=ss.take i++[ss[i]]:=by rw [List.take_add_one,hx]; rfl
  have hle:=V7 (ss.take i);rw [g_] at hle;unfold setAdd;refine fI (Ev ((Aw prog w).pyHash hkey ?_));refine wpAny_setAddHashed_of (knd:=Aw prog w) (s:={ s' with toks:=s'.toks+1 }) hkey (Uh hkey) hS (by unfold scanBound; omega) λh' hsb hS2=>?_;refine q h' _ _ (λc hc=>hsb.2 c hc) (JI hS2 (λk=>?_) ?_)
  ·rw [e2,GL]
   split
   ·rename_i hm
    by_cases hk:k=.inr ss[i]
    ·subst hk
     rw [(LI _ _).mpr hm]; rfl
    ·rw [decide_eq_false hk,Bool.or_false]
   ·unfold Ti
    rw [List.any_append];simp
  ·rw [e2,GL]
   by_cases hm:ss[i]∈ES (ss.take i)
   ·rw [if_pos hm,if_pos ((LI _ _).mpr hm)]
   ·rw [if_neg hm,if_neg (λz=>hm ((LI _ _).mp z))]; simp
 ·intro h' tk hS hk
  rw [j1 (by omega)] at hS;exact h h' tk hk hS
end
section
variable {X:Cx}{e:Expr}{te:TE}{p1 p2 q1 q2:Pos}
noncomputable def Wj(K:Frag)(te:TE):TE:=λZ H Q=>te Z H λx H1=>∃(l:Ch) (ss:List Str),x=.ref l/\SqT K H1 l (ss.map V.str)/\ss.length<64/\Q (.int (ES ss).length) H1
theorem TQ(hc:X.calm=true)(he:PE X e te)(hg1:Gl X "len")(hm1:X.mg "len"=none)(hg2:Gl X "set")(hm2:X.mg "set"=none)(h1:autoParam (starEach [iK (.Name "set" p2) [e] [] q2] X.env=[(false,eval (iK (.Name "set" p2) [e] [] q2) X.env)]) zau3._auto_1)
  (h2:autoParam (starEach [e] X.env=[(false,eval e X.env)]) zau3._auto_1):PE X (.Call (.Name "len" p1) [.Call (.Name "set" p2) [e] [] q2] [] q1) (Wj X.K te):=by
 intro zG s Z H Q I h;refine fL (C7 I hg1 hm1 PySem.boot_len ?_);refine ik ?_ h1 rfl;rw [h1];refine fK ?_;refine fL (C7 I hg2 hm2 UA ?_);refine ej ?_ h2 rfl;rw [h2];refine fK (thn (he zG s Z H _ I h) λu s1 ⟨x,H1,I1,r1,l,ss,ex,hq,h64,q⟩=>fZ ?_);subst ex;cases r1;obtain⟨its,r',pl,hz⟩:=I1.tuple hq;have hlen:=r'.length;rw [Go] at hlen
 have hit:∀(i:Nat) (v:Db) (x:Str),its.toArray[i]?=some v->ss[i]?=some x->(Aw X.prog X.w).is (.inr x) v=true:=by
  intro i v x e1 e2;obtain⟨u,e4,r4⟩:=r'.get (i:=i) (show (ss.map V.str)[i]?=some (.str x) by rw [dX,e2]; rfl);have e1:its[i]?=some v:=by simpa using e1
  rw [e1] at e4; cases e4
  exact Hb (k:=.inr x) r4
 refine S4 (show X.A.handled=none from I.ok.hd hc) pl (by rw [dW]; omega) h64 hit λh' tk hkp hS=>fZ ?_;obtain⟨o,es,ep,t,ho,hex,hd,_,_,hb,hf,hn⟩:=hS;refine call_len_set ho hex hd hf (by unfold scanBound at hb; omega) ?_;have J:Inv X zG Z H1 { s1 with heap:=h',toks:=tk+1+1 }:=I1.kept (t':=tk+1+1) hkp;exact⟨.int (ES ss).length,H1,J,by rw [hn]; exact⟨_,rfl⟩,q⟩
end
end L2
namespace Dp
open L2
noncomputable def Ra(wa:DW):DW:=λn ρ P=>wa n ρ λd n1=>∃ss:List Str,d=.tup (ss.map D.str)/\ss.length<64/\P (.int (ES ss).length) n1
theorem QC{K:Frag}{M:Ch->Prop}{H:Hp}:∀{ss:List Str} {vs:List V},Ats K M H (ss.map D.str) vs->vs=ss.map V.str
 | [],vs,h=>h
 | x::ss,vs,h=>by
  obtain⟨v,r,e,h1,h2⟩:=h;subst e;rw [eR,h1.1,QC h2]
section
variable {X:Cx}{a:Expr}{zU:Kd}{wa:DW}{p1 p2 q1 q2:Pos}
theorem T7(hc:X.calm=true)(ha:DE X a zU wa)(hg1:Gl X "len")(hm1:X.mg "len"=none)(hg2:Gl X "set")(hm2:X.mg "set"=none)(h1:autoParam (starEach [iK (.Name "set" p2) [a] [] q2] X.env=[(false,eval (iK (.Name "set" p2) [a] [] q2) X.env)]) zau3._auto_1)
  (h2:autoParam (starEach [a] X.env=[(false,eval a X.env)]) zau3._auto_1):DE X (.Call (.Name "len" p1) [.Call (.Name "set" p2) [a] [] q2] [] q1) .sh (Ra wa):=by
 obtain⟨t,a1,a2⟩:=ha;refine⟨_,TQ hc a1 hg1 hm1 hg2 hm2 h1 h2,λC M H n ρ Z P Q R w q=>?_⟩;refine a2 C M H n ρ Z _ _ R w λv H1 d n1 e1 f1 r1 p=>?_;obtain⟨ss,rfl,h64,p⟩:=p;obtain⟨ad,vs,rfl,hq,hs⟩:=(r1.tpOf R.dom R.vM).tup;rw [QC hs] at hq;exact⟨ad,ss,rfl,hq.sq,h64,q _ _ (.int _) n1 e1 f1 rfl p⟩
end
end Dp
namespace L2
end L2
namespace Dp
open L2
section
variable {a:Expr}
mutual
theorem At.frz{K:Frag}{M:Ch->Prop}{H:Hp}{a:Ch}{f:Ch->Obj}{kvs:List (Key×V)}(ha:H a=some (.dK kvs)):∀{d:D} {v:V},HW d=true->At K M H d v->At K M (G7 H [a] f) d v
 | .non,v,_,h=>h
 | .bl b,v,_,h=>h
 | .int i,v,_,h=>h
 | .str x,v,_,h=>h
 | .tup ds,v,hn,h=>by
  obtain⟨b,vs,e,n2,hs⟩:=h;refine⟨b,vs,e,?_,Ats.frz ha hn hs⟩;unfold NdT at n2 ⊢;rw [EQ λz=>by rw [TM.mp z,ha] at n2; cases n2];exact n2
 | .lst ds,v,hn,h=>by
  obtain⟨b,vs,e,⟨n1,n2⟩,hs⟩:=h;refine⟨b,vs,e,⟨n1,?_⟩,Ats.frz ha hn hs⟩;rw [EQ λz=>by rw [TM.mp z,ha] at n2; cases n2];exact n2
 | .dic _ _,v,hn,h=>by cases hn
 | .fdi _ _,v,hn,h=>by cases hn
 | .dit _ _,v,hn,h=>by cases hn
theorem Ats.frz{K:Frag}{M:Ch->Prop}{H:Hp}{a:Ch}{f:Ch->Obj}{kvs:List (Key×V)}(ha:H a=some (.dK kvs)):∀{ds:List D} {vs:List V},EB ds=true->Ats K M H ds vs->Ats K M (G7 H [a] f) ds vs
 | [],vs,_,h=>h
 | d::ds,vs,hn,h=>by
  obtain⟨v,r,e,h1,h2⟩:=h;have hn:(HW d&&EB ds)=true:=hn;rw [de] at hn;exact⟨v,r,e,At.frz ha hn.1 h1,Ats.frz ha hn.2 h2⟩
end
end
noncomputable def CB:List (List Key)->List D->List Key->Option D
 | k0::ks,d::ds,k=>if k0=k then some d else CB ks ds k
 | _,_,_=>none
noncomputable def Pl:List D->Option (List Key)
 | []=>some []
 | d::ds=>match keyOf d,Pl ds with
  | some k,some ks=>some (k::ks)
  | _,_=>none
noncomputable def keysOf:D->Option (List Key)
 | .tup ds=>Pl ds
 | _=>none
section
variable {K:Frag}{X:Cx}
theorem KU{M:Ch->Prop}{H:Hp}{k:List Key}:∀{ks:List (List Key)} {ds:List D} {vs:List V},Ats K M H ds vs ->
  match CB ks ds k with
  | some z=>∃v,C0 (ks.zip vs) k=some v/\At K M H z v
  | none=>C0 (ks.zip vs) k=none
 | [],ds,vs,h=>by unfold CB; exact rfl
 | k0::ks,[],vs,h=>by cases h; exact rfl
 | k0::ks,d::ds,vs,h=>by
  obtain⟨v,r,rfl,h1,h2⟩:=h;have ih:=KU (k:=k) (ks:=ks) h2;unfold CB
  by_cases e:k0=k
  ·rw [if_pos e]
   refine⟨v,?_,h1⟩;show C0 ((k0,v)::ks.zip r) k=some v;rw [EJ e]
  ·rw [if_neg e]
   have:C0 ((k0,v)::ks.zip r) k=C0 (ks.zip r) k:=EK e
   rw [show (k0::ks).zip (v::r)=(k0,v)::ks.zip r from rfl,this];exact ih
theorem Va{M:Ch->Prop}{H:Hp}{d:D}{v:V}{k:Key}(e:keyOf d=some k)(h:At K M H d v):v=kV k:=by
 cases d with
 | int i=>cases e; exact h
 | str x=>cases e; exact h.1
 | _=>cases e
theorem Pk{M:Ch->Prop}{H:Hp}:∀{ds:List D} {vs:List V} {ks:List Key},Pl ds=some ks->Ats K M H ds vs->vs=ks.map kV
 | [],vs,ks,e,h=>by cases e; exact h
 | d::ds,vs,ks,e,h=>by
  obtain⟨v,r,rfl,h1,h2⟩:=h;unfold Pl at e;cases c1:keyOf d with
  | none=>rw [c1] at e; cases e
  | some k =>
   cases c2:Pl ds with
   | none=>rw [c1,c2] at e; cases e
   | some k2 =>
    rw [c1,c2] at e;cases e;rw [Pk c2 h2,Va c1 h1];rfl
theorem Iv{U M:Ch->Prop}{H:Hp}{d:D}{v:V}{k:List Key}(e:keysOf d=some k)(h:AtT K U M H d v):∃b,v=.ref b/\H b=some (.tup (k.map kV)):=by
 cases d with
 | tup ds =>
  obtain⟨a,vs,rfl,ha,hs⟩:=h.tup;refine⟨a,rfl,?_⟩;rw [← Pk e hs];exact ha
 | _=>cases e
theorem V0{U M:Ch->Prop}{H:Hp}{x:V}{ks:List (List Key)}{ds:List D}(h:AtT K U M H (.dit ks ds) x):∃a vs,x=.ref a/\Rd H a (.dT (ks.zip vs))/\Ats K M H ds vs:=by
 obtain⟨a,vs,rfl,_,ha,_,hs⟩:=h;exact⟨a,vs,rfl,.inl ha,hs⟩
theorem SU{H:Hp}{a b:Ch}{kvs:List (List Key×V)}{k:List Key}(e:Rd H a (.dT kvs))(eb:H b=some (.tup (k.map kV))):DGet H a (.ref b) (C0 kvs k):=.inr ⟨kvs,k,b,e,rfl,eb,rfl⟩
noncomputable def Vo(neg:Bool)(e d:D)(P:D->Prop):Prop:=∃ks ds k,d=.dit ks ds/\keysOf e=some k/\P (.bl (if neg then !(CB ks ds k).isSome else (CB ks ds k).isSome))
noncomputable def Mx(d e:D)(P:D->Prop):Prop:=∃ks ds k z,d=.dit ks ds/\keysOf e=some k/\CB ks ds k=some z/\P z
theorem WG:FC K .sh U0 (Vo true):=λU M H e d y x P Q dom vM hy hx w q=>by
 obtain⟨ks,ds,k,rfl,he,w⟩:=w;obtain⟨a,vs,rfl,ha,hs⟩:=V0 hx;obtain⟨b,rfl,eb⟩:=Iv he hy;refine⟨a,C0 (ks.zip vs) k,rfl,SU ha eb,q _ H (.bl _) .refl rfl ?_⟩;have h:=KU (k:=k) (ks:=ks) hs;cases c:CB ks ds k with
 | none=>rw [c] at h w; rw [show C0 (ks.zip vs) k=none from h]; exact w
 | some z=>rw [c] at h w; obtain⟨v,h1,_⟩:=h; rw [h1]; exact w
theorem Zh:FC K .sh U1 Mx:=λU M H d e x y P Q dom vM hx hy w q=>by
 obtain⟨ks,ds,k,z,rfl,he,hz,w⟩:=w;obtain⟨a,vs,rfl,ha,hs⟩:=V0 hx;obtain⟨b,rfl,eb⟩:=Iv he hy;have h:=KU (k:=k) (ks:=ks) hs;rw [hz] at h;obtain⟨v,h1,h2⟩:=h;exact⟨a,v,rfl,by rw [← h1]; exact SU ha eb,q v H z .refl h2 w⟩
variable {a b:Expr}{zU zP:Kd}{wa wb:DW}{pos:Pos}
theorem Xa{k:Nat}(hr:Room k X.A)(ha:DE X a zU wa)(hb:DE X b zP wb)(hs:autoParam (Xq b) zau7._auto_1):DE X (.Subscript a b pos) .sh (Aa Mx wa wb):=by
 obtain⟨ta,ha1,ha2⟩:=ha;obtain⟨tb,hb1,hb2⟩:=hb;exact⟨EH U1 ta tb,J4 (Hc hr) ha1 hb1 hs,λC M H n ρ Z P Q R w q=>E6 Zh ha2 hb2 C M H n ρ Z P Q R w q⟩
end
noncomputable def LP(ks:List (List Key))(k:List Key):Bool:=ks.any λk0=>decide (k0=k)
theorem hasK_iffU{ks:List (List Key)}{k:List Key}:LP ks k=true↔k∈ks:=by
 unfold LP;rw [fj];exact⟨fun⟨x,hx,e⟩=>by rw [← of_decide_eq_true e]; exact hx,λh=>⟨k,h,decide_eq_true rfl⟩⟩
noncomputable def CV(ks:List (List Key))(k:List Key):List (List Key):=if LP ks k=true then ks else ks++[k]
noncomputable def CU{α:Type}(ks:List (List Key))(ds:List α)(k:List Key)(d:α):List α:=if LP ks k=true then f7 (λk0 d0=>if k0=k then d else d0) ks ds else ds++[d]
theorem WE{ks:List (List Key)}{vs:List V}(hl:ks.length=vs.length)(k:List Key):((ks.zip vs).any λkv=>decide (kv.1=k))=LP ks k:=by
 rw [eU,fj,hasK_iffU];constructor
 ·rintro ⟨⟨a,b⟩,hm,e⟩
  have e:a=k:=of_decide_eq_true e;rw [← e];exact(iA hm).1
 ·intro h
  obtain⟨i,hi,e⟩:=hX.mp h;refine⟨(ks[i],vs[i]'(by omega)),?_,by rw [e]; exact decide_eq_true rfl⟩;exact hX.mpr ⟨i,by rw [iz]; omega,by rw [List.getElem_zip]⟩
theorem TJ{ks:List (List Key)}{vs:List V}(hl:ks.length=vs.length)(k:List Key)(v:V):putK (ks.zip vs) k v=(CV ks k).zip (CU ks vs k v):=by
 unfold putK CV CU;rw [WE hl]
 by_cases h:LP ks k=true
 ·rw [if_pos h,if_pos h,if_pos h]
  have go:∀(ks:List (List Key)) (vs:List V),((ks.zip vs).map λkv=>if kv.1=k then (kv.1,v) else kv)=ks.zip (f7 (λk0 d0=>if k0=k then v else d0) ks vs):=by
   intro ks
   induction ks with
   | nil=>intro vs; rfl
   | cons a ks ih =>
    intro vs;cases vs with
    | nil=>rfl
    | cons b vs =>
     show (if a=k then (a,v) else (a,b))::_=(a,if a=k then v else b)::_;exact jX.mpr ⟨by split <;> rfl,ih vs⟩
  exact go ks vs
 ·rw [if_neg h,if_neg h,if_neg h,List.zip_append hl]
  rfl
theorem Ats.putU{K:Frag}{M:Ch->Prop}{H:Hp}{k:List Key}{d:D}{v:V}(hd:At K M H d v):∀{ks:List (List Key)} {ds:List D} {vs:List V},Ats K M H ds vs->Ats K M H (f7 (λk0 d0=>if k0=k then d else d0) ks ds) (f7 (λk0 d0=>if k0=k then v else d0) ks vs)
 | [],ds,vs,h=>rfl
 | a::ks,[],vs,h=>by cases (show vs=[] from h); rfl
 | a::ks,e::ds,vs,h=>by
  obtain⟨u,r,rfl,h1,h2⟩:=h;refine⟨_,_,rfl,?_,Ats.putU hd h2⟩;show At K M H (if a=k then d else e) (if a=k then v else u)
  by_cases e1:a=k
  ·rw [if_pos e1,if_pos e1]; exact hd
  ·rw [if_neg e1,if_neg e1]; exact h1
theorem Ats.putXU{K:Frag}{M:Ch->Prop}{H:Hp}{k:List Key}{d:D}{v:V}{ks:List (List Key)}{ds:List D}{vs:List V}(hd:At K M H d v)(h:Ats K M H ds vs):Ats K M H (CU ks ds k d) (CU ks vs k v):=by
 unfold CU
 split
 ·exact Ats.putU hd h
 ·exact h.append (Ats.one hd)
theorem K0{α:Type}{ks:List (List Key)}{ds:List α}{k:List Key}{d:α}(hl:ks.length=ds.length):(CV ks k).length=(CU ks ds k d).length:=by
 unfold CV CU
 split
 ·rw [i8]; omega
 ·rw [dZ,dZ]; show ks.length+1=ds.length+1; omega
theorem GC{ks:List (List Key)}{ds:List D}{k:List Key}{d:D}(hl:ks.length=ds.length)(j:List Key):CB (CV ks k) (CU ks ds k d) j=if j=k then some d else CB ks ds j:=by
 unfold CV CU
 by_cases h':LP ks k=true
 ·have h:=hasK_iffU.mp h'
  rw [if_pos h',if_pos h']
  have go:∀(ks:List (List Key)) (ds:List D),ks.length=ds.length->(j=k->k∈ks)->CB ks (f7 (λk0 d0=>if k0=k then d else d0) ks ds) j=if j=k then some d else CB ks ds j:=by
   intro ks
   induction ks with
   | nil =>
    intro ds _ hm
    by_cases e:j=k
    ·exact absurd (hm e) d9
    ·rw [if_neg e]; cases ds <;> rfl
   | cons a ks ih =>
    intro ds hl hm;cases ds with
    | nil=>cases hl
    | cons e ds =>
     show (if a=j then some (if a=k then d else e) else CB ks _ j)=if j=k then some d else if a=j then some e else CB ks ds j
     by_cases e1:a=j
     ·rw [if_pos e1,if_pos e1]
      by_cases e2:j=k
      ·rw [if_pos e2,if_pos (e1.trans e2)]
      ·rw [if_neg e2,if_neg (λz=>e2 (e1.symm.trans z))]
     ·rw [if_neg e1,if_neg e1]
      refine ih ds (by simpa using hl) λz=>(ZB.mp (hm z)).resolve_left λw=>e1 (w.symm.trans z.symm)
  exact go ks ds hl λ_=>h
 ·have h:k∉ks:=λz=>h' (hasK_iffU.mpr z)
  rw [if_neg h',if_neg h']
  have go:∀(ks:List (List Key)) (ds:List D),ks.length=ds.length->k∉ks->CB (ks++[k]) (ds++[d]) j=if j=k then some d else CB ks ds j:=by
   intro ks
   induction ks with
   | nil =>
    intro ds hl _;cases ds with
    | nil =>
     show (if k=j then some d else none)=if j=k then some d else none
     by_cases e:j=k
     ·rw [if_pos e,if_pos e.symm]
     ·rw [if_neg e,if_neg (λz=>e z.symm)]
    | cons e ds=>cases hl
   | cons a ks ih =>
    intro ds hl hm;cases ds with
    | nil=>cases hl
    | cons e ds =>
     show (if a=j then some e else CB (ks++[k]) (ds++[d]) j)=if j=k then some d else if a=j then some e else CB ks ds j
     rw [ih ds (by simpa using hl) λz=>hm (Sc _ z)]
     by_cases e1:a=j
     ·rw [if_pos e1,if_pos e1,if_neg (λz=>hm (by rw [← z,← e1]; exact Re))]
     ·rw [if_neg e1,if_neg e1]
  exact go ks ds hl h
section
variable {X:Cx}{a b e:Expr}{κ zU zP:Kd}{wa wb:DW}{pos pos':Pos}
noncomputable def UQ:DW:=λn _ P=>P (.dit [] []) n
theorem V5:DE X (.Dict [] [] pos) .fr UQ:=by
 refine⟨_,VH,λC M H n ρ Z P Q R w q=>λp hp=>?_⟩;have g:Grow H (BD H p (.dT [])):=Av hp;exact q _ _ (.dit [] []) n g.ext (R.feed.grow g) ⟨p,rfl,hp,[],Al,rfl,rfl⟩ w
noncomputable def Og(i:Nat)(wk wv:DW):Ai:=λD2 n ρ=>∃ks ds,ρ[i]?=some (.ow (.dit ks ds))/\wv n ρ λd n1=>wk n1 ρ λk n2=>∃key,keysOf k=some key/\ks.length<sizeLine/\D2.nx n2 (ρ.set i (.ow (.dit (CV ks key) (CU ks ds key d))))
theorem SR{i k:Nat}{x:d6}(hr:Room k X.A)(hx:PE X x (B3 i))(ha:DE X a zU wa)(hb:DE X b zP wb)(hk:autoParam (zP≠.tp) zau6._auto_1)
  (hs:autoParam (swapsWith b (some (.Subscript x a pos')) pos.line X.env=pure false) zau3._auto_1):DS X κ (.Assign [.Subscript x a pos'] b pos) (Og i wa wb):=by
 obtain⟨t,h1,h2⟩:=ha;obtain⟨u,g1,g2⟩:=hb;refine⟨_,HK (Hc hr) hx h1 g1 hs,λC M H n ρ Z D2 E R L w=>?_⟩;obtain⟨ks,ds,hd,w⟩:=w;refine g2 C M H n ρ Z _ _ R w λv H1 d n1 e1 f1 r1 p=>?_;have R1:=R.step e1 f1;obtain⟨ad,ea,m,nv,tt⟩:=R1.sl i _ hd;refine⟨.ref ad,getD_some ea,?_⟩;refine h2 C M H1 n1 ρ Z _ _ R1 p λy H2 kk n2 e2 f2 r2 p=>?_;obtain⟨key,hkey,hlt,p⟩:=p;have R2:=R1.step e2 f2;obtain⟨ad',ea',m',nv',tt'⟩:=R2.sl i _ hd;rw [ea] at ea';cases ea';obtain⟨vs,hH,hl,hs'⟩:=tt';have hat:At X.K M H2 d v:=(r1.shOf R.dom hk).pres (R1.pres e2);have hvl:ks.length=vs.length:=by rw [hl,hs'.length]
 obtain⟨b,rfl,eb⟩:=Iv hkey (r2.tpOf R1.dom R1.vM);refine⟨ad,_,rfl,DPut.t hH eb (by rw [iz]; omega),L.nx M _ n2 _ Z (R2.mut (e:=.dit (CV ks key) (CU ks ds key d)) hd ea ⟨CU ks vs key v,by rw [Al,TJ hvl],K0 hl,(hs'.putXU hat).pres (CJ m' hH)⟩) p⟩
end
end Dp
namespace L2
open PySem.W
end L2
namespace Dp
open L2
section
variable {X:Cx}
theorem XU{κ:Kd}{body:List eA}{wb:Ai}{h₀:ExceptHandler}{hs:List ExceptHandler}{pos:Pos}(hx:∀e s,X.xe e s->False)(hb:UJ X κ body wb):DS X κ (.Try body (h₀::hs) [] [] pos) wb:=by
 obtain⟨t,b1,b2⟩:=hb;refine⟨t,λzG s Z H D I h=>?_,b2⟩;refine wpAny_Try_except ?_;refine e7 (b1 zG s Z H D I h) (λf s1 q=>?_) λe s1 q=>(hx e s1 q).elim;cases f with
 | next=>exact T0 q
 | _=>exact q
end
end Dp
namespace L2
end L2
namespace Dp
open L2
end Dp
namespace Nt
open L2 Dp
structure cr (N:Net) (s:Str) (F:NO) (c:Nat) (T:List BL):Prop where
 ins:∀t∈T,t∈N.ts
 nd:T.Nodup
 many:T.length+1=c
 wk:∀x d q,F x=some (d,q)->Wk (sub N T) s x d
noncomputable def EV:Ai:=(Af (A2 (Bh (A5 (AS (Dk "tuple" (AB 1)))) (Bh (AS (Aa Jv (Bs CF (AE (AB 1) AY)) (wC (D.int 2)))) (Bh (AS (Aa Jv (Aa Ar (AB 1) (wC (D.int 0))) (Aa Ar (AB 0) (wC (D.int 0))))) (A5 (AS (Dk "tuple" (Aa Ar (AB 1) (wC (D.int 1))))))))) (Am (wC (D.bl false))) Ap)
 (Af (Cj (A1 (Aa Ar (AB 1) (wC (D.int 1)))) (AR 2) (A2 (Bh (A5 (AS (Dk "tuple" (AB 2)))) (Bh (AS (Aa Jv (Bs CF (AE (AB 2) AY)) (wC (D.int 3)))) (Bh (A5 (AS (AU C8 (AC (AD (Aa Ar (AB 2) (wC (D.int 2)))) AV)))) (AS (Aa (GS true) (AB 2) (Aa Ar (AB 0) (wC (D.int 1)))))))) (Am (wC (D.bl false))) Ap))
 (Am (Bs Fk (AE (BS [some 1,none] (GV (AE (Aa Fi (Bs CF (AE (Aa Ar (AB 1) (wC (D.int 1))) AY)) (wC (D.int 1))) AY)) (AR 1) Cf (Aa E3 (Aa Ar (Aa Ar (AB 0) (wC (D.int 1))) (AB 1)) (Aa Ar (Aa Ar (AB 0) (wC (D.int 1))) (Aa B0 (AB 1) (wC (D.int 1)))))) AY)))))
inductive Cn (K:List BL) (x:Str):Str->Prop
 | refl:Cn K x x
 | step {y z:Str}:Cn K x y->(∃t∈K,(t.a=y/\t.b=z)\/(t.b=y/\t.a=z))->Cn K x z
section
structure dR (N:Net) (ks:List Key) (ds:List D) (F:Str->Option Str):Prop where
 m:Dmap ks ds D.str F
 i:∀x,F x≠none->x∈N.ps
end
end Nt
namespace L2
section
variable {X:Cx}{zG:List (Addr×Obj)}{Z:St}{H:Hp}{s:Shared}
theorem Ke{A':eX}{E':Db->On->Prop}{ss:List Str}{us:List Db}{Q:VK}(I:Inv X zG Z H s)(hS:StrsAre us ss)(h64:us.length<64)
  (q:∀(ss':List Str) (l:Ch),ss'.Perm ss->sortedS ss'=true->H l=none->Q (.ref l) (BD H l (.lst (ss'.map V.str)))) :
  wpAny (model X.prog X.w) A' (gg.«list.sort» ⟨[.ref s.heap.objs.size],[]⟩) (λfin s'=>fin=.done (.ret .none)/\EP X zG Z Q (.ref s.heap.objs.size) s') E' { s with heap:=s.heap.push (seqObj "list" us.toArray 0) }:=by
 have ho:(s.heap.push (seqObj "list" us.toArray 0)).get? s.heap.objs.size=some (seqObj "list" us.toArray 0):=UF _ rfl;refine list_sort_treeK strKind_oneLt ho hS.keysOf (λv₁ v₂ rest e=>keyKind_strs (by rw [← e]; exact hS)) h64 λst' hp hs=>⟨rfl,?_⟩;obtain⟨ss',h1,h2,h3⟩:=sorted_out_str hS hp hs;obtain⟨e,he⟩:=sortedHeap_at (out:=(arrOf st').map (·.2)) ho;have hf:H s.heap.objs.size=none:=I.fresh;have l1:=(CS h1).length;have l2:=(CS hS).length;have l3:=h2.length_eq;rw [Go] at l1 l2;refine⟨.ref s.heap.objs.size,BD H s.heap.objs.size (.lst (ss'.map V.str)),I.laid (t':=s.toks) (λb o z=>?_) (Op _) ⟨by rw [Go,eK]; omega,_,e,CS h1,he⟩,rfl,q ss' _ h2 h3 hf⟩;rw [sortedHeap_old (da (XV z)) (by rw [size_push']; exact fG (XV z))];exact FM _ z
noncomputable def Uz:List V->Hp->VK->Prop:=λxs H Q=>∃(d:Ch) (kvs:List (Key×V)) (ss:List Str),xs=[.ref d]/\Rd H d (.dK kvs)/\kvs.map (·.1)=ss.map fN/\ss.length<64 /\
 ∀(ss':List Str) (l:Ch),ss'.Perm ss->sortedS ss'=true->H l=none->Q (.ref l) (BD H l (.lst (ss'.map V.str)))
theorem Me{P:eB}{w:eG}:∀{us:List Db} {ss:List Str},us.length=ss.length->(∀(j:Nat) (v:Db) (x:Str),us[j]?=some v->ss[j]?=some x->(Aw P w).is (.inr x) v=true)->StrsAre us ss
 | [],[],_,_=>.nil
 | [],_::_,h,_=>by cases h
 | _::_,[],h,_=>by cases h
 | u::us,x::ss,h,k=>by
  obtain⟨t,rfl⟩:=(Vb (k:=.inr x) (k 0 u x rfl rfl):RelV (.str x) u);exact .cons x t (Me (P:=P) (w:=w) (by simpa using h) λj v y e1 e2=>k (j+1) v y (by simpa using e1) (by simpa using e2))
theorem RK(hc:X.calm=true):DC X (.builtin "sorted") Uz:=by
 intro zG s Z H xs us Q I r h;obtain⟨d,kvs,ss,rfl,hd,hk,h64,q⟩:=h;obtain⟨u,rfl,rx⟩:=vals1 r;cases rx;obtain⟨_,lo,ws,kv,o,es,ep,D⟩:=Ga I.hok hd;have hwl:=kv.length;have hsl:kvs.length=ss.length:=by rw [← Go (f:=(·.1)),hk,Go]
 refine DD (kw:=[]) (args_sorted1 _) (λx=>args_list_sort _) (PySem.W.kdu_collect (PySem.W.kdl_dict (knd:=Aw X.prog X.w) (kvs:=ws) (ep:=ep) lo) (show X.A.handled=none from I.ok.hd hc) ⟨o,es,D⟩ (by rw [eK]; omega) λh' tk acc hkp hacc=>⟨by rw [fE,hacc.1,eK]; omega,?_⟩);have I1:Inv X zG Z H { s with heap:=h',toks:=tk }:=I.kept (t':=tk) hkp;refine Ke (ss:=ss) I1 (Me (P:=X.prog) (w:=X.w) (by rw [fE,hacc.1]; omega) λj v x e1 e2=>?_) (by rw [fE,hacc.1]; omega) q;obtain⟨k,z,e3,e4⟩:=hacc.2 j v (by rw [← j8]; exact e1);have jl:j<kvs.length:=by rw [hsl]; exact(Uf.mp e2).1
 obtain⟨ek,_⟩:=K7 kv (No jl) e3;have e5:(kvs.map (·.1))[j]?=some kvs[j].1:=by rw [dX,No jl]; rfl
 rw [hk,dX,e2] at e5;have e6:fN x=kvs[j].1:=dh e5;rw [e6,show kvs[j].1=k from ek];exact e4
end
end L2
namespace Dp
open L2
section
variable {X:Cx}
noncomputable def Vr(ds:List D)(P:D->Prop):Prop:=∃(d:D) (ks:List Key) (es:List D) (ss:List Str),ds=[d]/\JR d=some (ks,es)/\ks.length=es.length/\ks=ss.map fN/\ss.length<64/\(∀x∈ss,x.length<=sizeLine)/\∀ss':List Str,ss'.Perm ss->sortedS ss'=true->P (.lst (ss'.map .str))
theorem Xm:Dy X.K .fr Uz Vr:=by
 intro U M H ds vs P Q dom vM hp w q;obtain⟨d,ks,es,ss,rfl,hd,l1,hk,h64,hz,w⟩:=w;obtain⟨v,rfl,hx⟩:=FF hp;obtain⟨a,us,rfl,ha,hs⟩:=JA hd hx;have m1:=hs.length;refine⟨a,_,ss,rfl,ha,?_,h64,λss' l h1 h2 hl=>?_⟩
 ·rw [List.map_fst_zip (by omega),hk]
 ·exact q _ _ _ (Av hl) (CI hl (Ats.strs λx hx=>hz x (h1.mem_iff.mp hx))) (w ss' h1 h2)
end
end Dp
namespace L2
open AutoSeq1 (wpAny_loadPart')
end L2
namespace Dp
open L2
end Dp
namespace Nt
open L2 Dp
noncomputable def dL(N:Net)(s x:Str):Prop:=∃d,Wk N s x d
structure cy (N:Net) (s:Str) (ks:List Key):Prop where
 nd:ks.Nodup
 dom:∀k∈ks,∃x:Str,k=.inr x
 mem:∀x:Str,.inr x∈ks↔dL N s x
inductive bZ:D->Prop
 | s (x:Str):bZ (.str x)
 | i (k:Int):bZ (.int k)
 | t (xs:List D) (h:∀x,x∈xs->bZ x):bZ (.tup xs)
theorem S0{N:Net}(a b c:D):FL N (.tup [a,b,c])=(IS c&&(N.ts.map Ao).any λy=>Cw y (.tup [a,b,c])):=by
 rw [eU,tofB_iff,de,fj];constructor
 ·rintro ⟨t,ht,e⟩
  have e3:c=.int t.len:=by injection e with e; injection e with _ e; injection e with _ e; injection e
  exact⟨by rw [e3]; rfl,Ao t,Rs.mpr ⟨t,ht,rfl⟩,by rw [e]; exact OI t⟩
 ·rintro ⟨hw,y,hy,e⟩
  obtain⟨t,ht,rfl⟩:=Rs.mp hy;obtain⟨z,e2,hz⟩:=M5 e;have e3:c=z:=by injection e2 with e; injection e with _ e; injection e with _ e; injection e
  subst e3;rw [e2];cases c with
  | int i=>exact⟨t,ht,by rw [hz i rfl]; rfl⟩
  | _=>cases hw
theorem Rh{N:Net}{d:D}(h:∀a b c,d≠.tup [a,b,c]):FL N d=false:=by
 rw [eV];intro z;obtain⟨t,_,e⟩:=tofB_iff.mp z;exact h _ _ _ e
noncomputable def ZR(ts:List BL):D->Bool
 | .int k=>BX (CH (ts.getD k.toNat ⟨"","",0⟩)) (CH (ts.getD (k.toNat+1) ⟨"","",0⟩))
 | _=>true
theorem Xj(ts:List BL):Sh (ts.map Ao)=true↔∀k,k+1<ts.length->BX (CH (ts.getD k ⟨"","",0⟩)) (CH (ts.getD (k+1) ⟨"","",0⟩))=true:=by
 induction ts with
 | nil=>exact⟨λ_ k h=>absurd h (by simp),λ_=>rfl⟩
 | cons s r ih =>
  cases r with
  | nil=>exact⟨λ_ k h=>absurd h (by simp),λ_=>rfl⟩
  | cons t r =>
   show ((VS (Ao s) (Ao t)==some true)&&Sh ((t::r).map Ao))=true↔_;rw [de,ih,LJ];constructor
   ·rintro ⟨h1,h2⟩ k hk
    cases k with
    | zero=>exact dh (eq_of_beq h1)
    | succ k=>exact h2 k (by simpa using hk)
   ·intro h
    have h0:=h 0 (by simp);exact⟨by rw [show BX (CH s) (CH t)=true from h0]; rfl,λk hk=>h (k+1) (by simpa using hk)⟩
theorem Zg(ts:List BL)(m:Nat)(hm:m=(((ts.length:Nat):Int) - 1).toNat):(Dl 0 m).all (ZR ts)=Sh (ts.map Ao):=by
 rw [eU,Xj,fB];constructor
 ·intro h k hk
  have:=h (.int (0+(k:Int))) (Rs.mpr ⟨k,f_.mpr (by omega),rfl⟩)
  have e:ZR ts (.int (0+(k:Int)))=BX (CH (ts.getD (0+(k:Int)).toNat ⟨"","",0⟩)) (CH (ts.getD ((0+(k:Int)).toNat+1) ⟨"","",0⟩)):=rfl;rw [e,show (0+(k:Int)).toNat=k by omega] at this;exact this
 ·intro h d hd
  obtain⟨k,hk,rfl⟩:=Kr hd;have e:ZR ts (.int (0+(k:Int)))=BX (CH (ts.getD (0+(k:Int)).toNat ⟨"","",0⟩)) (CH (ts.getD ((0+(k:Int)).toNat+1) ⟨"","",0⟩)):=rfl;rw [e,show (0+(k:Int)).toNat=k by omega];exact h k (by omega)
section
variable {ss:List Slot}{n:Nat}{Pd:D->Nat->Prop}
theorem Ij(h:Jg ss n Pd):EV (EE Pd) n (ss++Tk 1 .no):=by
 obtain⟨N,d,rfl,ok,l1,l2,hf,hs,hd,p⟩:=h;have szl:=PySem.sizeLine_eq;have layi:∀i:Int,CY (.int i):=λi=>⟨rfl,rfl,dY _⟩;have layp:CY (.tup (N.ps.map .str)):=B9 ok.names;unfold EV;cases d with
 | tup zs =>
  by_cases hz:zs.length=2
  ·obtain⟨x,y,rfl⟩:∃x y,zs=[x,y]:=by
    match zs,hz with
    | [x,y],_=>exact⟨x,y,rfl⟩
   have f1:G9 (10 ^ 41) x:=hf.1;have hd':max (RE x) (max (RE y) 0)+1<=90:=hd;have hs':QM x+1+(QM y+1+0)<=200000:=hs;refine⟨_,_,rfl,rfl,layi _,layi _,?_⟩;refine DY (λc=>absurd c (by show ¬(!Cw (.int 2) (.int 2))=true; decide)) λ_=>?_;refine⟨_,AJ (j:=0) rfl,_,AJ (j:=0) rfl,Ez (B:=10 ^ 41) (by decide) f1 (by omega),layp,?_⟩;refine DY (λc=>?_) λc=>?_
   ·have:thinB N (.tup [x,y])=false:=by
     rw [eV];intro z;obtain⟨ts,e,_⟩:=thinB_iff.mp z;have e1:x=.tup (N.ps.map .str):=by injection e with e; injection e
     rw [eqD_strs.mpr e1] at c;cases c
    rw [this] at p;exact p
   ·have ex:Cw x (.tup (N.ps.map .str))=true:=by
     cases e:Cw x (.tup (N.ps.map .str)) with
     | true=>rfl
     | false=>rw [e] at c; exact absurd rfl c
    refine⟨_,AJ (j:=1) rfl,?_⟩;cases y with
    | tup xs =>
     rw [← Md ok,ex,iV] at p;have f2:GZ (10 ^ 41) xs:=hf.2.1;have dx:M8 xs<=88:=by have:max (RE x) (max (M8 xs+1) 0)+1<=90:=hd'; omega
     have hl:=OB xs;have sx:L0 xs<=200000:=by have:QM x+1+(L0 xs+1+0)<=200000:=hs'; omega
     refine Bp ⟨_,AJ (j:=1) rfl,?_⟩
     have go:∀(vs us:List D) (s2:Slot),xs=us++vs->us.all (FL N)=true->BF (AR 2) (A2 (Bh (A5 (AS (Dk "tuple" (AB 2)))) (Bh (AS (Aa Jv (Bs CF (AE (AB 2) AY)) (wC (D.int 3)))) (Bh (A5 (AS (AU C8 (AC (AD (Aa Ar (AB 2) (wC (D.int 2)))) AV)))) (AS (Aa (GS true) (AB 2) (Aa Ar (AB 0) (wC (D.int 1)))))))) (Am (wC (D.bl false))) Ap)
       { EE Pd with nx:=λn ρ=>(Am (Bs Fk (AE (BS [some 1,none] (GV (AE (Aa Fi (Bs CF (AE (Aa Ar (AB 1) (wC (D.int 1))) AY)) (wC (D.int 1))) AY)) (AR 1) Cf (Aa E3 (Aa Ar (Aa Ar (AB 0) (wC (D.int 1))) (AB 1)) (Aa Ar (Aa Ar (AB 0) (wC (D.int 1))) (Aa B0 (AB 1) (wC (D.int 1)))))) AY))) (EE Pd) n ρ } vs n [.sh (enc N),.sh (.tup [x,.tup xs]),s2]:=by
      intro vs
      induction vs with
      | nil =>
       intro us s2 e ha;rw [eO] at e;subst e;obtain⟨ts,rfl,hts⟩:=KZ ha;rw [ha,iV] at p;have tl:=LK ts;have tl2:(ts.map Ao).length=ts.length:=Go ..;refine⟨_,AJ (j:=1) rfl,_,_,rfl,rfl,_,rfl,⟨by omega,by omega⟩,by rw [DU]; omega,?_⟩;refine BC (λe=>.bl (ZR ts e)) (λρ=>∃s,ρ=[.sh (.tup [x,.tup (ts.map Ao)]),s]) _ _ _ _ ?_ ⟨_,rfl⟩ ?_
       ·rintro d hd ρ m' nx ⟨s,rfl⟩ hnx
        obtain⟨k,hk,rfl⟩:=Kr hd;have k1:k<ts.length:=by omega
        have k2:k+1<ts.length:=by omega
        have g1:(ts.map Ao)[k]?=some (Ao ts[k]):=by rw [dX,No k1]; rfl
        have g2:(ts.map Ao)[k+1]?=some (Ao ts[k+1]):=by rw [dX,No k2]; rfl
        refine⟨_,AJ (j:=1) rfl,Ao ts[k],by rw [show (0+(k:Int))=((k:Nat):Int) by omega]; exact AJ g1,_,AJ (j:=1) rfl,Ao ts[k+1],by rw [show (0+(k:Int)+1)=((k+1:Nat):Int) by omega]; exact AJ g2,?_⟩;refine SN (LJ _ _) ?_;have e1:ts.getD k ⟨"","",0⟩=ts[k]:=by rw [eN,No k1]; rfl
        have e2:ts.getD (k+1) ⟨"","",0⟩=ts[k+1]:=by rw [eN,No k2]; rfl
        have:=hnx [.sh (.tup [x,.tup (ts.map Ao)]),.sh (.int (0+(k:Int)))] ⟨_,rfl⟩
        rw [show ZR ts (.int (0+(k:Int)))=BX (CH ts[k]) (CH ts[k+1]) by show BX (CH (ts.getD (0+(k:Int)).toNat ⟨"","",0⟩)) (CH (ts.getD ((0+(k:Int)).toNat+1) ⟨"","",0⟩))=_; rw [show (0+(k:Int)).toNat=k by omega,e1,e2]] at this;exact this
       ·rw [d8]
        show Fk [D.lst ((Dl 0 (((ts.map Ao).length:Int) - 1).toNat).map λe=>D.bl (ZR ts e))] λz=>Pd z n;refine Fj (l:=Dl 0 (((ts.map Ao).length:Int) - 1).toNat) (p:=ZR ts) ?_;rw [Zg ts _ (by rw [tl2])];exact p
      | cons d vs ih =>
       intro us s2 e ha;have hm:d∈xs:=by rw [e]; exact df _ Re
       have bad:FL N d=false->Pd (.bl false) n:=λz=>by
        have:xs.all (FL N)=false:=by rw [e,List.all_append,iU,z]; simp
        rw [this] at p;exact p
       have good:FL N d=true->∀s2,BF _ _ _ vs n [.sh (enc N),.sh (.tup [x,.tup xs]),s2]:=λz s2=>ih (us++[d]) s2 (by rw [e,eg]; rfl) (by rw [List.all_append,ha,iU,z]; rfl);cases d with
       | tup zs =>
        by_cases hz3:zs.length=3
        ·obtain⟨a,b',c,rfl⟩:∃a b c,zs=[a,b,c]:=by
          match zs,hz3 with
          | [a,b,c],_=>exact⟨a,b,c,rfl⟩
         refine⟨_,_,rfl,rfl,layi _,layi _,?_⟩;refine DY (λc=>absurd c (by show ¬(!Cw (.int 3) (.int 3))=true; decide)) λ_=>?_;refine⟨_,AJ (j:=2) rfl,[_],rfl,rfl,?_⟩;have ld:CY (.tup [a,b',c]):=Ez (B:=10 ^ 41) (by decide) (fines_iff.mp f2 _ hm) (by have:=dps_le.mp dx _ hm; omega);have tt:=S0 (N:=N) a b' c;cases w:IS c with
         | false =>
          rw [w] at tt;show if (!IS c)=true then _ else _
          rw [w];exact EC (bad tt)
         | true =>
          rw [w,iV] at tt;show if (!IS c)=true then _ else _
          rw [w];refine Bp ⟨_,AJ (j:=1) rfl,ld,(Pg ok λ_ h=>h).1,_,rfl,?_⟩
          have fin:∀b:Bool,FL N (.tup [a,b',c])=b->(if (!b)=true then Pd (.bl false) n else BF _ _ _ vs n [.sh (enc N),.sh (.tup [x,.tup xs]),.sh (.tup [a,b',c])]):=λb hb=>by
           cases b with
           | false=>exact EC (bad hb)
           | true=>exact Bp (good hb _)
          exact fin _ tt
        ·refine⟨_,_,rfl,rfl,layi _,layi _,?_⟩
         have hb:=bad (Rh λa b c e=>hz3 (by injection e with e; rw [e]; rfl));refine DY (λ_=>hb) λc=>absurd ?_ c;show (!((zs.length:Int)==3))=true;rw [jU,beq_eq_false_iff_ne];omega
       | _=>exact bad (Rh λa b c e=>by cases e)
     exact go xs [] _ rfl rfl
    | _ =>
     rw [FO (λp xs e=>by cases e)] at p;exact EC p
  ·refine⟨_,_,rfl,rfl,layi _,layi _,?_⟩
   rw [FO (λp xs e=>hz (by injection e with e; rw [e]; rfl))] at p;refine DY (λ_=>p) λc=>absurd ?_ c;show (!((zs.length:Int)==2))=true;rw [jU,beq_eq_false_iff_ne];omega
 | _ =>
  rw [FO (λp xs e=>by cases e)] at p;exact p
theorem Mr:∀{ks:List Key},(∀k∈ks,∃x:Str,k=.inr x)->∃ss:List Str,ks=ss.map fN
 | [],_=>⟨[],rfl⟩
 | k::ks,h=>by
  obtain⟨x,rfl⟩:=h k Re;obtain⟨ss,e⟩:=Mr λj hj=>h j (Sc _ hj);exact⟨x::ss,by rw [e]; rfl⟩
theorem S7{l1 l2:List Str}(h1:rising l1)(h2:rising l2)(p:l1.Perm l2):l1=l2:=J3 (λa b x y=>absurd (kG x y) (CP _)) p h1 h2
theorem Mq{ps:List Str}(h:∀p∈ps,Po p):CY (.lst (ps.map .str)):=B9 h
theorem T3{xs ys:List Str}:Cw (.lst (xs.map .str)) (.lst (ys.map .str))=decide (xs=ys):=by
 rw [eU,decide_eq_true_eq];constructor
 ·intro h
  have h:(xs.map D.str)=ys.map D.str:=Fl (xs:=xs.map .str) (ps:=ys) h
  have inj:∀{a b:List Str},a.map D.str=b.map D.str->a=b:=by
   intro a
   induction a with
   | nil=>intro b h; cases b with | nil=>rfl | cons _ _=>cases h
   | cons x a ih =>
    intro b h;cases b with
    | nil=>cases h
    | cons y b =>
     have h1:D.str x=D.str y:=by injection h
     have h2:a.map D.str=b.map D.str:=by injection h
     injection h1 with h1
     rw [h1,ih h2]
  exact inj h
 ·rintro rfl
  exact eqvAll_refl xs
theorem ZA{ss:List Str}(h:(ss.map (fN:Str->Key)).Nodup):ss.Nodup:=by
 rw [d_,gW] at h;exact h.imp λh e=>h (by rw [e])
end
end Nt
namespace L2
section
variable {X:Cx}
noncomputable def Uw(K:Frag):List V->Hp->VK->Prop:=λxs H Q=>∃(p:Ch) (ss:List Str),xs=[.ref p]/\SqT K H p (ss.map V.str)/\ss.length<64/\∀(ss':List Str) (l:Ch),ss'.Perm ss->sortedS ss'=true->H l=none->Q (.ref l) (BD H l (.lst (ss'.map V.str)))
theorem RI:DC X (.builtin "sorted") (Uw X.K):=by
 intro zG s Z H xs us Q I r h;obtain⟨p,ss,rfl,hq,h64,q⟩:=h;obtain⟨u,rfl,rx⟩:=vals1 r;cases rx;exact DD (args_sorted1 _) (λx=>args_list_sort _) (Lb (κ:=false) I hq λus s1 r1 hz I1=>⟨by rw [← r1.length]; exact hz,Ke I1 (Kb r1) (by have:=r1.length; rw [Go] at this; omega) q⟩)
end
end L2
namespace Dp
open L2
section
variable {X:Cx}
noncomputable def Vp(ds:List D)(P:D->Prop):Prop:=∃ss:List Str,ds=[.tup (ss.map .str)]/\ss.length<64/\∀ss':List Str,ss'.Perm ss->sortedS ss'=true->P (.lst (ss'.map .str))
theorem NG{K:Frag}{M:Ch->Prop}{H:Hp}:∀{ss:List Str} {vs:List V},Ats K M H (ss.map D.str) vs->vs=ss.map V.str
 | [],_,h=>h
 | y::r,vs,h=>by
  obtain⟨v,t,e,h1,h2⟩:=h;rw [e,NG h2,h1.1];rfl
theorem Xk:Dy X.K .fr (Uw X.K) Vp:=by
 intro U M H ds vs P Q dom vM hp w q;obtain⟨ss,rfl,h64,w⟩:=w;obtain⟨v,rfl,hx⟩:=FF hp;obtain⟨a,us,rfl,ha,hs⟩:=hx.tup;cases NG hs;exact⟨a,ss,rfl,ha.sq,h64,λss' l h1 h2 hl=>q _ _ _ (Av hl) (CI hl (Ats.strs λx hx=>hs.strs_le x (h1.mem_iff.mp hx))) (w _ h1 h2)⟩
end
end Dp
namespace Nt
open L2 Dp
theorem Q9{N M M':Net}{t b:Int}{ps:Eb}(ok':M'.Ok)(hs:∀u∈M.ts,u∈M'.ts)(b0:0<=b)(h:keepsP N t b ps M):keepsP N t b ps M':=λp hp d hd=>by
 obtain⟨d',l1,l2⟩:=h p hp d hd;obtain⟨e,he,hle⟩:=Pe ok' _ _ (Op _) (l1.1.mono hs);exact⟨e,he,Int.le_trans (Int.mul_le_mul_of_nonneg_right hle b0) l2⟩
theorem Q8{N:Net}{t b:Int}{ps:Eb}(ok:N.Ok)(bt:b<=t):keepsP N t b ps N:=λp _ d hd=>⟨d,hd,gw bt (hd.1.pos ok)⟩
theorem J0{N:Net}{t b:Int}{ps:Eb}:∀{ord:List BL} {M:Net},(BJ N t b ps M ord).ps=M.ps
 | [],M=>rfl
 | u::r,M=>by
  show (if By N t b ps (BO M u)=true then BJ N t b ps (BO M u) r else BJ N t b ps M r).ps=_
  split
  ·exact J0
  ·exact J0
theorem EL{N:Net}{t b:Int}{ps:Eb}:∀{ord:List BL} {M:Net},∀u∈(BJ N t b ps M ord).ts,u∈M.ts
 | [],M=>λu h=>h
 | v::r,M=>λu h=>by
  replace h:u∈(if By N t b ps (BO M v)=true then BJ N t b ps (BO M v) r else BJ N t b ps M r).ts:=h
  split at h
  ·exact(gP.mp (EL u h)).1
  ·exact EL u h
theorem Gp{N:Net}{t b:Int}{ps:Eb}:∀{ord:List BL} {M:Net},keepsP N t b ps M->keepsP N t b ps (BJ N t b ps M ord)
 | [],M,h=>h
 | v::r,M,h=>by
  show keepsP N t b ps (if By N t b ps (BO M v)=true then BJ N t b ps (BO M v) r else BJ N t b ps M r)
  split
  ·rename_i c; exact Gp (keepsB_iff.mp c)
  ·exact Gp h
theorem IX{N:Net}{t b:Int}{ps:Eb}(b0:0<=b):∀{ord:List BL} {M:Net},okN M->∀u∈ord,u∈(BJ N t b ps M ord).ts->By N t b ps (BO (BJ N t b ps M ord) u)=false
 | [],_,_=>λu hu _=>by cases hu
 | v::r,M,okm=>λu hu h=>by
  have e:BJ N t b ps M (v::r)=if By N t b ps (BO M v)=true then BJ N t b ps (BO M v) r else BJ N t b ps M r:=rfl
  rw [e] at h ⊢
  split at h
  ·rename_i c
   rw [if_pos c]
   rcases ZB.mp hu with rfl | hu
   ·exact absurd (gP.mp (EL u h)).2 (by simp)
   ·exact IX b0 (B5 okm v) u hu h
  ·rename_i c
   rw [if_neg c]
   rcases ZB.mp hu with rfl | hu
   ·refine eV.mpr λz=>c (keepsB_iff.mpr (Q9 (B5 okm u).1 (λx hx=>?_) b0 (keepsB_iff.mp z)))
    obtain⟨h1,h2⟩:=gP.mp hx;exact gP.mpr ⟨EL x h1,h2⟩
   ·exact IX b0 okm u hu h
noncomputable def Ws(N M:Net)(xs:List D):Prop:=xs.length=N.ps.length/\(∀x∈xs,RB x=true)/\Mw M (.tup xs)=true
noncomputable abbrev Pr(N:Net)(xs:List D)(a c:Str):Int:=GU (Im N xs a - Im N xs c)
noncomputable def WN(N M:Net)(t b:Int)(a c:Str)(d:D):Prop :=
 (∃xs:List Str,d=.tup [.str "apart",.tup (xs.map .str)]/\rising xs/\(∀x∈xs,x∈N.ps)/\a∈xs/\c∉xs/\∀u∈N.ts,(u.a∈xs↔u.b∈xs)) \/
 ∃(w:List Str) (l:Int) (xs:List D),d=.tup [.str "near",L3 w,.tup xs]/\walkedK 30 M a c w l/\Ws N N xs/\l*b<=Pr N xs a c*t
noncomputable def WP(N M:Net)(t b:Int)(ps:Eb)(d:D):Prop:=∃(j:Nat) (q:Str×Str) (w:List Str) (l:Int) (xs:List D),d=.tup [.int (j:Int),L3 w,.tup xs]/\ps[j]?=some q/\walkedK 30 N q.1 q.2 w l/\Ws N M xs/\¬Pr N xs q.1 q.2*b<=l*t
noncomputable def ShL(N M:Net)(t b:Int):Eb->List D->Prop
 | [],[]=>True
 | q::ps,d::ds=>WN N M t b q.1 q.2 d/\ShL N M t b ps ds
 | _,_=>False
noncomputable def NdL(N M:Net)(t b:Int)(ps:Eb):List BL->List D->Prop
 | [],[]=>True
 | u::us,d::ds=>WP N (BO M u) t b ps d/\NdL N M t b ps us ds
 | _,_=>False
theorem ShL.len{N M:Net}{t b:Int}:∀{ps:Eb} {ds:List D},ShL N M t b ps ds->ds.length=ps.length
 | [],[],_=>rfl
 | _::_,_::_,h=>by rw [dq,dq,h.2.len]
 | [],_::_,h=>h.elim
 | _::_,[],h=>h.elim
theorem NdL.len{N M:Net}{t b:Int}{ps:Eb}:∀{us:List BL} {ds:List D},NdL N M t b ps us ds->ds.length=us.length
 | [],[],_=>rfl
 | _::_,_::_,h=>by rw [dq,dq,h.2.len]
 | [],_::_,h=>h.elim
 | _::_,[],h=>h.elim
theorem ShL.at{N M:Net}{t b:Int}:∀{ps:Eb} {ds:List D} {j:Nat} {q:Str×Str},ShL N M t b ps ds->ps[j]?=some q->∃d,ds[j]?=some d/\WN N M t b q.1 q.2 d
 | _::_,_::_,0,_,h,e=>by cases e; exact⟨_,rfl,h.1⟩
 | _::_,_::_,j+1,_,h,e=>h.2.at (j:=j) e
 | [],_,_,_,_,e=>by cases e
 | _::_,[],_,_,h,_=>h.elim
theorem NdL.at{N M:Net}{t b:Int}{ps:Eb}:∀{us:List BL} {ds:List D} {j:Nat} {u:BL},NdL N M t b ps us ds->us[j]?=some u->∃d,ds[j]?=some d/\WP N (BO M u) t b ps d
 | _::_,_::_,0,_,h,e=>by cases e; exact⟨_,rfl,h.1⟩
 | _::_,_::_,j+1,_,h,e=>h.2.at (j:=j) e
 | [],_,_,_,_,e=>by cases e
 | _::_,[],_,_,h,_=>h.elim
noncomputable def WO(N M:Net)(t b:Int)(ps:Eb)(d:D):Prop:=∃(ss ns:List D) (ord:List BL),d=.tup [.tup ss,.tup ns]/\ShL N M t b ps ss/\ord.Perm M.ts/\E5 ord/\NdL N M t b ps ord ns
noncomputable def QU(N M:Net):Prop:=M.ps=N.ps/\thn N M.ts
noncomputable abbrev FN(t b:Int):D:=.tup [.int t,.int b]
noncomputable abbrev CN(ps:Eb):D:=.tup (ps.map pairD)
noncomputable def F7:W2:=λss n P=>∃(N M:Net) (t b:Int) (a c:Str),ss=[.sh (enc N),.sh (enc M),.sh (.str a),.sh (.str c)]/\okN N/\okN M/\M.ps=N.ps/\a∈N.ps/\c∈N.ps/\(∀d,Least N a c d->∃d',Least M a c d'/\d'*b<=d*t)/\∀d,WN N M t b a c d->P d n
noncomputable def IL:W2:=λss n P=>∃(N M:Net) (t b:Int) (ps:Eb) (os:List (Option Int)),ss=[.sh (enc N),.sh (FN t b),.sh (CN ps),.sh (.lst (os.map HP)),.sh (enc M)]/\okN N/\okN M/\M.ps=N.ps/\Gm t b/\Il N ps/\UI N ps os/\By N t b ps M=false/\∀d,WP N M t b ps d->P d n
noncomputable def F8:W2:=λss n P=>∃(N:Net) (t b:Int) (ps:Eb),ss=[.sh (enc N),.sh (FN t b),.sh (CN ps)]/\okN N/\Gm t b/\b<=t/\Il N ps/\∀(ord:List BL) (d:D),ord.Perm N.ts->E5 ord->WO N (BJ N t b ps N ord.reverse) t b ps d->P d n
noncomputable def II:W2:=λss n P=>∃(N M:Net) (t b:Int) (a c:Str) (w:List Str) (l:Int) (xs:List D),ss=[.sh (enc N),.sh (FN t b),.sh (pairD (a,c)),.sh (enc M),.sh (.tup [.str "near",L3 w,.tup xs])]/\okN N/\okN M/\Gm t b/\a∈N.ps/\c∈N.ps/\walkedK 30 M a c w l/\Ws N N xs/\l*b<=Pr N xs a c*t/\P (.bl true) n
noncomputable def KH:W2:=λss n P=>∃(N:Net) (xs:List Str),ss=[.sh (enc N),.sh (.tup (xs.map .str))]/\okN N/\rising xs/\(∀x∈xs,x∈N.ps)/\P (.bl true) n
noncomputable def GO:W2:=λss n P=>∃(N:Net) (a c:Str) (xs:List Str),ss=[.sh (enc N),.sh (pairD (a,c)),.sh (.tup (xs.map .str))]/\okN N/\a∈N.ps/\c∈N.ps/\rising xs/\(∀x∈xs,x∈N.ps)/\a∈xs/\c∉xs/\(∀u∈N.ts,(u.a∈xs↔u.b∈xs))/\P (.bl true) n
noncomputable def Di:W2:=λss n P=>∃(N M:Net) (t b:Int) (a c:Str) (d:D),ss=[.sh (enc N),.sh (FN t b),.sh (pairD (a,c)),.sh (enc M),.sh d]/\okN N/\okN M/\Gm t b/\a∈N.ps/\c∈N.ps/\WN N M t b a c d/\P (.bl true) n
noncomputable def Ea:W2:=λss n P=>∃(N M:Net) (t b:Int) (ps:Eb) (d:D),ss=[.sh (enc N),.sh (FN t b),.sh (CN ps),.sh (enc M),.sh d]/\okN N/\okN M/\M.ps=N.ps/\Gm t b/\Il N ps/\WP N M t b ps d/\P (.bl true) n
noncomputable def IJ:W2:=λss n P=>∃(ps:Eb) (M:Net) (xs ys:List D),ss=[.sh (CN ps),.sh (enc M),.sh (.tup [.tup xs,.tup ys])]/\xs.length=ps.length/\ys.length=M.ts.length/\P (.bl true) n
noncomputable def KJ:W2:=λss n P=>∃(N M:Net) (t b:Int) (ps:Eb) (d:D),ss=[.sh (enc N),.sh (FN t b),.sh (CN ps),.sh (enc M),.sh d]/\okN N/\N.ps.length<=24/\QU N M/\Gm t b/\Il N ps/\WO N M t b ps d/\P (.bl true) n
noncomputable def Ly:W2:=λss n P=>∃(M:Net) (z:D) (a c:Str) (w:List Str) (l:Int),ss=[.sh (.tup (M.ps.map .str)),.sh z,.sh (L3 w),.sh (.str a),.sh (.str c)]/\Ef z=some (M.ts.map Ao)/\okN M/\walkedK 30 M a c w l/\P (.int l) n
noncomputable def F_:W2:=λss n P=>∃(M:Net) (z:D) (xs:List D),ss=[.sh (.tup (M.ps.map .str)),.sh z,.sh (.tup xs)]/\Ef z=some (M.ts.map Ao)/\okN M/\Mw M (.tup xs)=true/\P (.bl true) n
noncomputable def IP:W2:=λss n P=>∃(N:Net) (xs:List D) (a c:Str),ss=[.sh (.tup (N.ps.map .str)),.sh (.tup xs),.sh (.str a),.sh (.str c)]/\okN N/\xs.length=N.ps.length/\(∀x∈xs,RB x=true)/\a∈N.ps/\c∈N.ps/\P (.int (Pr N xs a c)) n
noncomputable def IN:W2:=λss n P=>∃(N:Net) (a c:Str) (xs:List Str),ss=[.sh (enc N),.sh (pairD (a,c)),.sh (.tup (xs.map .str))]/\okN N/\a∈N.ps/\c∈N.ps/\rising xs/\(∀x∈xs,x∈N.ps)/\a∈xs/\c∉xs/\(∀u∈N.ts,(u.a∈xs↔u.b∈xs))/\P (.bl true) n
noncomputable def EZ:W2:=λss n P=>∃(N M:Net) (t b:Int) (a c:Str) (d:D),ss=[.sh (enc N),.sh (FN t b),.sh (enc M),.sh (pairD (a,c)),.sh d]/\okN N/\okN M/\M.ps=N.ps/\Gm t b/\a∈N.ps/\c∈N.ps/\WN N M t b a c d/\P (.bl true) n
noncomputable def F9:W2:=λss n P=>∃(N M:Net) (t b:Int) (ps:Eb) (z d:D),ss=[.sh (enc N),.sh (FN t b),.sh (CN ps),.sh z,.sh d]/\Ef z=some (M.ts.map Ao)/\okN N/\okN M/\M.ps=N.ps/\Gm t b/\Il N ps/\WP N M t b ps d/\P (.bl true) n
noncomputable def JF:W2:=λss n P=>∃(N M:Net) (t b:Int) (ps:Eb) (d:D),ss=[.sh (enc N),.sh (FN t b),.sh (CN ps),.sh (enc M),.sh d]/\okN N/\N.ps.length<=24/\QU N M/\Gm t b/\Il N ps/\WO N M t b ps d/\P .non n
noncomputable def Lw:W2:=JF
noncomputable def Hk:Ai:=(Af (A0 4 (AU Od (AC (AD (AB 0)) (AC (AD (AB 2)) (AC (AD (AB 3)) AV)))))
 (Af (A2 (AS (Aa (C4 false) (AB 4) (wC D.non))) (Am (BE (AE (wC (D.str "apart")) (AE (Bs Bm (AE (Bs Vr (AE (AU HF (AC (AD (AB 0)) (AC (AD (AB 2)) AV))) AY)) AY)) AY)))) Ap)
 (Am (BE (AE (wC (D.str "near")) (AE (AU WM (AC (AD (AB 1)) (AC (AD (AB 2)) (AC (AD (AB 3)) AV)))) (AE (AU Lu (AC (AD (AB 0)) (AC (AD (AB 2)) (AC (AD (AB 4)) AV)))) AY)))))))
noncomputable def Gb:Ai:=(Af (A0 5 (AU NL (AC (AD (AB 1)) (AC (AD (AB 2)) (AC (AD (AB 3)) (AC (AD (AB 4)) AV))))))
 (Af (A0 6 (Aa Ar (Aa Ar (AB 2) (AB 5)) (wC (D.int 0))))
 (Af (A0 7 (Aa Ar (Aa Ar (AB 2) (AB 5)) (wC (D.int 1))))
 (Am (BE (AE (AB 5) (AE (AU WM (AC (AD (AB 0)) (AC (AD (AB 6)) (AC (AD (AB 7)) AV)))) (AE (AU Lu (AC (AD (AB 4)) (AC (AD (AB 6)) (AC (AD (AU GP (AC (AD (AB 1)) (AC (AD (Aa Ar (AB 3) (AB 5))) AV)))) AV)))) AY))))))))
noncomputable def FH:Ai:=(Af (A0 3 (AU Xo (AC (AD (AB 0)) (AC (AD (AB 1)) (AC (AD (AB 2)) AV)))))
 (Af (A0 4 (AU GA (AC (AD (AB 0)) (AC (AD (AB 2)) AV))))
 (Af (A0 5 (BS [some 0,some 3,none,none] (A1 (AB 2)) (Bi 2 (AX (AR 2) (AX (AR 3) BB))) Cf (AU F7 (AC (AD (AB 0)) (AC (AD (AB 1)) (AC (AD (AB 2)) (AC (AD (AB 3)) AV)))))))
 (Af (A0 6 (BS [some 0,some 1,some 2,some 4,some 3,none] (A1 (AU Dg (AC (AD (Aa Ar (AB 3) (wC (D.int 1)))) AV))) (AR 5) Cf (AU IL (AC (AD (AB 0)) (AC (AD (AB 1)) (AC (AD (AB 2)) (AC (AD (AB 3)) (AC (AD (AU Ce (AC (AD (AB 4)) (AC (AD (DL (AE (AB 5) AY))) AV)))) AV))))))))
 (Am (BE (AE (Bs Bm (AE (AB 5) AY)) (AE (Bs Bm (AE (AB 6) AY)) AY))))))))
noncomputable def Fo:Ai:=(Af (A0 5 (AU QK (AC (AD (AB 3)) (AC (AD (Aa Ar (AB 2) (wC (D.int 0)))) (AC (AD (Aa Ar (AB 2) (wC (D.int 1)))) (AC (AD (Aa Ar (AB 4) (wC (D.int 1)))) AV))))))
 (Af (A2 (Bh (AS (Aa (C4 false) (AB 5) (wC D.non))) (A5 (AS (AU QL (AC (AD (AB 0)) (AC (AD (Aa Ar (AB 4) (wC (D.int 2)))) AV)))))) (Am (wC (D.bl false))) Ap)
 (Am (AU Bu (AC (AD (AB 5)) (AC (AD (AB 1)) (AC (AD (AU UG (AC (AD (AB 0)) (AC (AD (Aa Ar (AB 4) (wC (D.int 2)))) (AC (AD (Aa Ar (AB 2) (wC (D.int 0)))) (AC (AD (Aa Ar (AB 2) (wC (D.int 1)))) AV)))))) AV)))))))
noncomputable def JY:Ai:=(Am (EI (Dk "tuple" (AB 1)) (EI (Bs Fk (AE (BS [some 0,none] (A1 (AB 1)) (AR 1) Cf (Aa (GS false) (AB 1) (Aa Ar (AB 0) (wC (D.int 0))))) AY)) (AU IK (AC (AD (AB 1)) AV)))))
noncomputable def FG:Ai:=(Af (A2 (Bh (A5 (AS (AU KH (AC (AD (AB 0)) (AC (AD (AB 2)) AV))))) (Bh (AS (Aa (GS true) (Aa Ar (AB 1) (wC (D.int 0))) (AB 2))) (AS (Aa (GS false) (Aa Ar (AB 1) (wC (D.int 1))) (AB 2))))) (Am (wC (D.bl false))) Ap)
 (Am (Bs Fk (AE (BS [some 2,none,none,none] (A1 (Aa Ar (AB 0) (wC (D.int 1)))) (Bi 3 (AX (AR 1) (AX (AR 2) (AX (AR 3) BB)))) Cf (Aa XQ (Aa (GS false) (AB 1) (AB 0)) (Aa (GS false) (AB 2) (AB 0)))) AY))))
noncomputable def Hq:Ai:=(Af (A2 (Rf (AS (AU B8 (AC (AD (wC (D.int 3))) (AC (AD (AB 4)) AV)))) (AS (Aa (LV false) (Aa Ar (AB 4) (wC (D.int 0))) (wC (D.str "near"))))) (Am (AU II (AC (AD (AB 0)) (AC (AD (AB 1)) (AC (AD (AB 2)) (AC (AD (AB 3)) (AC (AD (AB 4)) AV))))))) Ap)
 (Am (EI (AU B8 (AC (AD (wC (D.int 2))) (AC (AD (AB 4)) AV))) (EI (Aa (LV false) (Aa Ar (AB 4) (wC (D.int 0))) (wC (D.str "apart"))) (AU GO (AC (AD (AB 0)) (AC (AD (AB 2)) (AC (AD (Aa Ar (AB 4) (wC (D.int 1)))) AV))))))))
noncomputable def Gc:Ai:=(Af (A2 (Bh (A5 (AS (AU B8 (AC (AD (wC (D.int 3))) (AC (AD (AB 4)) AV))))) (Bh (A5 (AS (AU C8 (AC (AD (Aa Ar (AB 4) (wC (D.int 0)))) AV)))) (A5 (AS (NS Pu E3 (wC (D.int 0)) (Aa Ar (AB 4) (wC (D.int 0))) (Bs CF (AE (AB 2) AY))))))) (Am (wC (D.bl false))) Ap)
 (Af (A0 5 (Aa Ar (Aa Ar (AB 2) (Aa Ar (AB 4) (wC (D.int 0)))) (wC (D.int 0))))
 (Af (A0 6 (Aa Ar (Aa Ar (AB 2) (Aa Ar (AB 4) (wC (D.int 0)))) (wC (D.int 1))))
 (Af (A0 7 (AU QK (AC (AD (AB 0)) (AC (AD (AB 5)) (AC (AD (AB 6)) (AC (AD (Aa Ar (AB 4) (wC (D.int 1)))) AV))))))
 (Af (A2 (Bh (AS (Aa (C4 false) (AB 7) (wC D.non))) (A5 (AS (AU QL (AC (AD (AB 3)) (AC (AD (Aa Ar (AB 4) (wC (D.int 2)))) AV)))))) (Am (wC (D.bl false))) Ap)
 (Am (WZ (AU Bu (AC (AD (AU UG (AC (AD (AB 0)) (AC (AD (Aa Ar (AB 4) (wC (D.int 2)))) (AC (AD (AB 5)) (AC (AD (AB 6)) AV)))))) (AC (AD (AB 1)) (AC (AD (AB 7)) AV)))))))))))
noncomputable def Gd:Ai:=(Am (EI (AU B8 (AC (AD (wC (D.int 2))) (AC (AD (AB 2)) AV))) (EI (AU B8 (AC (AD (Bs CF (AE (AB 0) AY))) (AC (AD (Aa Ar (AB 2) (wC (D.int 0)))) AV))) (AU B8 (AC (AD (Bs CF (AE (Aa Ar (AB 1) (wC (D.int 1))) AY))) (AC (AD (Aa Ar (AB 2) (wC (D.int 1)))) AV))))))
noncomputable def Fq:Ai:=(Af (A2 (Bh (A5 (AS (AU Jg (AC (AD (AB 0)) (AC (AD (AB 3)) AV))))) (A5 (AS (AU IJ (AC (AD (AB 2)) (AC (AD (AB 3)) (AC (AD (AB 4)) AV))))))) IU Ap)
 (Af (Cj (Rb (AB 2)) (Bi 2 (AX (AR 5) (AX (AR 6) BB))) (A2 (A5 (AS (AU Di (AC (AD (AB 0)) (AC (AD (AB 1)) (AC (AD (AB 6)) (AC (AD (AB 3)) (AC (AD (Aa Ar (Aa Ar (AB 4) (wC (D.int 0))) (AB 5))) AV)))))))) IU Ap))
 (Af (Cj (Rb (AU Dg (AC (AD (Aa Ar (AB 3) (wC (D.int 1)))) AV))) (Bi 2 (AX (AR 5) (AX (AR 7) BB))) (A2 (A5 (AS (AU Ea (AC (AD (AB 0)) (AC (AD (AB 1)) (AC (AD (AB 2)) (AC (AD (AU Ce (AC (AD (AB 3)) (AC (AD (DL (AE (AB 7) AY))) AV)))) (AC (AD (Aa Ar (Aa Ar (AB 4) (wC (D.int 1))) (AB 5))) AV)))))))) IU Ap))
 (Am (wC (D.bl true))))))
noncomputable def Hu:Ai:=(Af (A2 (Bh (A5 (AS (Dk "tuple" (AB 2)))) (AS (Aa (LV false) (Bs CF (AE (AB 2) AY)) (wC (D.int 0))))) (Am (wC D.non)) Ap)
 (Af (A2 (Bh (A5 (AS (Bs Fk (AE (BS [some 0,none] (A1 (AB 2)) (AR 1) Cf (EI (Dk "str" (AB 1)) (Aa (GS false) (AB 1) (AB 0)))) AY)))) (Bh (AS (Aa (LV true) (Aa Ar (AB 2) (wC (D.int 0))) (AB 3))) (AS (Aa (LV true) (Aa Ar (AB 2) (Wa (wC (D.int 1)))) (AB 4))))) (Am (wC D.non)) Ap)
 (Af (FD 5 UQ)
 (Af (Cj (A1 (AB 1)) (Bi 3 (AX (AR 6) (AX (AR 7) (AX (AR 8) BB)))) (Af (Og 5 (BE (AE (AB 6) (AE (AB 7) AY))) (AB 8))
 (Og 5 (BE (AE (AB 7) (AE (AB 6) AY))) (AB 8))))
 (Af (A0 9 (wC (D.int 0)))
 (Af (Cj (QP (AE (AB 2) (AE (YT Pt (AB 2) (KR (wC (D.int 1))) Ee) AY))) (Bi 2 (AX (AR 6) (AX (AR 7) BB))) (Af (A2 (AS (Aa (Vo true) (BE (AE (AB 6) (AE (AB 7) AY))) (A7 5))) (Am (wC D.non)) Ap)
 (A0 9 (Aa B0 (AB 9) (Aa Mx (A7 5) (BE (AE (AB 6) (AE (AB 7) AY))))))))
 (Am (AB 9))))))))
noncomputable def EX:Ai:=(Af (A2 (Bh (A5 (AS (Dk "tuple" (AB 2)))) (AS (Aa (LV true) (Bs CF (AE (AB 2) AY)) (Bs CF (AE (AB 0) AY))))) (Am (wC (D.bl false))) Ap)
 (Af (A2 (A5 (AS (Bs Fk (AE (BS [none] (A1 (AB 2)) (AR 0) Cf (EI (AU C8 (AC (AD (AB 0)) AV)) (Aa (f2 λi j=>D.bl (decide (j<=i))) (AB 0) (wC (D.int 0))))) AY)))) (Am (wC (D.bl false))) Ap)
 (Af (Cj (A1 (AB 1)) (Bi 3 (AX (AR 3) (AX (AR 4) (AX (AR 5) BB)))) (A2 (AS (Aa (f2 λi j=>D.bl (decide (j<i))) (Bs T1 (AE (Aa Fi (Aa Ar (AB 2) (NR (AB 0) (AE (AB 3) AY))) (Aa Ar (AB 2) (NR (AB 0) (AE (AB 4) AY)))) AY)) (AB 5))) (Am (wC (D.bl false))) Ap))
 (Am (wC (D.bl true))))))
noncomputable def Hv:Ai:=(Am (Bs T1 (AE (Aa Fi (Aa Ar (AB 1) (NR (AB 0) (AE (AB 2) AY))) (Aa Ar (AB 1) (NR (AB 0) (AE (AB 3) AY)))) AY)))
noncomputable def EW:Ai:=(Af (A2 (Bh (A5 (AS (Dk "tuple" (AB 2)))) (A5 (AS (Bs Fk (AE (BS [some 0,none] (A1 (AB 2)) (AR 1) Cf (EI (Dk "str" (AB 1)) (Aa (GS false) (AB 1) (Aa Ar (AB 0) (wC (D.int 0)))))) AY))))) (Am (wC (D.bl false))) Ap)
 (Af (A2 (Bh (AS (Aa Jv (Bs OG (AE (AB 2) AY)) (Bs Vp (AE (AB 2) AY)))) (AS (Aa Jv (Ra (AB 2)) (Bs CF (AE (AB 2) AY))))) (Am (wC (D.bl false))) Ap)
 (Af (A2 (Bh (AS (Aa (GS true) (Aa Ar (AB 1) (wC (D.int 0))) (AB 2))) (AS (Aa (GS false) (Aa Ar (AB 1) (wC (D.int 1))) (AB 2)))) (Am (wC (D.bl false))) Ap)
 (Am (Aa XQ (BS [some 2,none] (A1 (Aa Ar (AB 0) (wC (D.int 1)))) (AR 1) (AS (Aa Jv (Aa (GS false) (Aa Ar (AB 1) (wC (D.int 0))) (AB 0)) (Aa (GS false) (Aa Ar (AB 1) (wC (D.int 1))) (AB 0)))) (AB 1)) (DL AY))))))
noncomputable def Du:Ai:=(Af (A2 (Bh (A5 (AS (Dk "tuple" (AB 4)))) (Bh (AS (Aa E3 (Bs CF (AE (AB 4) AY)) (wC (D.int 2)))) (A5 (AS (Dk "str" (Aa Ar (AB 4) (wC (D.int 0)))))))) (Am (wC (D.bl false))) Ap)
 (Af (A2 (AS (Aa (LV false) (Aa Ar (AB 4) (wC (D.int 0))) (wC (D.str "apart")))) (Am (EI (Aa (LV false) (Bs CF (AE (AB 4) AY)) (wC (D.int 2))) (AU IN (AC (AD (AB 0)) (AC (AD (AB 3)) (AC (AD (Aa Ar (AB 4) (wC (D.int 1)))) AV)))))) Ap)
 (Af (A2 (Bh (AS (Aa (LV true) (Aa Ar (AB 4) (wC (D.int 0))) (wC (D.str "near")))) (Bh (AS (Aa (LV true) (Bs CF (AE (AB 4) AY)) (wC (D.int 3)))) (A5 (AS (AU F_ (AC (AD (Aa Ar (AB 0) (wC (D.int 0)))) (AC (AD (Aa Ar (AB 0) (wC (D.int 1)))) (AC (AD (Aa Ar (AB 4) (wC (D.int 2)))) AV)))))))) (Am (wC (D.bl false))) Ap)
 (Af (YV (AB 3) (Bi 2 (AX (AR 5) (AX (AR 6) BB))))
 (Af (A0 7 (AU Ly (AC (AD (Aa Ar (AB 0) (wC (D.int 0)))) (AC (AD (Aa Ar (AB 2) (wC (D.int 1)))) (AC (AD (Aa Ar (AB 4) (wC (D.int 1)))) (AC (AD (AB 5)) (AC (AD (AB 6)) AV)))))))
 (Af (A0 8 (AU IP (AC (AD (Aa Ar (AB 0) (wC (D.int 0)))) (AC (AD (Aa Ar (AB 4) (wC (D.int 2)))) (AC (AD (AB 5)) (AC (AD (AB 6)) AV))))))
 (Am (EI (Aa (C4 true) (AB 7) (wC D.non)) (AU Bu (AC (AD (AB 7)) (AC (AD (AB 1)) (AC (AD (AB 8)) AV))))))))))))
noncomputable def De:Ai:=(Af (A2 (Bh (A5 (AS (Dk "tuple" (AB 4)))) (Bh (AS (Aa (LV true) (Bs CF (AE (AB 4) AY)) (wC (D.int 3)))) (A5 (AS (AU C8 (AC (AD (Aa Ar (AB 4) (wC (D.int 0)))) AV)))))) (Am (wC (D.bl false))) Ap)
 (Af (A2 (Bh (A5 (AS (NS Pu E3 (wC (D.int 0)) (Aa Ar (AB 4) (wC (D.int 0))) (Bs CF (AE (AB 2) AY))))) (A5 (AS (AU F_ (AC (AD (Aa Ar (AB 0) (wC (D.int 0)))) (AC (AD (AB 3)) (AC (AD (Aa Ar (AB 4) (wC (D.int 2)))) AV))))))) (Am (wC (D.bl false))) Ap)
 (Af (YV (Aa Ar (AB 2) (Aa Ar (AB 4) (wC (D.int 0)))) (Bi 2 (AX (AR 5) (AX (AR 6) BB))))
 (Af (A0 7 (AU Ly (AC (AD (Aa Ar (AB 0) (wC (D.int 0)))) (AC (AD (Aa Ar (AB 0) (wC (D.int 1)))) (AC (AD (Aa Ar (AB 4) (wC (D.int 1)))) (AC (AD (AB 5)) (AC (AD (AB 6)) AV)))))))
 (Af (A0 8 (AU IP (AC (AD (Aa Ar (AB 0) (wC (D.int 0)))) (AC (AD (Aa Ar (AB 4) (wC (D.int 2)))) (AC (AD (AB 5)) (AC (AD (AB 6)) AV))))))
 (Am (EI (Aa (C4 true) (AB 7) (wC D.non)) (WZ (AU Bu (AC (AD (AB 8)) (AC (AD (AB 1)) (AC (AD (AB 7)) AV))))))))))))
noncomputable def Hw:Ai:=(Af (A2 (Bh (A5 (AS (AU Jg (AC (AD (AB 0)) (AC (AD (AB 3)) AV))))) (Bh (A5 (AS (Dk "tuple" (AB 4)))) (AS (Aa (LV true) (Bs CF (AE (AB 4) AY)) (wC (D.int 2)))))) (Am (BE (AE (wC (D.str "shape")) (AE (wC (D.int 0)) AY)))) Ap)
 (Af (Cj (A1 (DL (AE (BE (AE (Aa Ar (AB 4) (wC (D.int 0))) (AE (Bs CF (AE (AB 2) AY)) AY))) (AE (BE (AE (Aa Ar (AB 4) (wC (D.int 1))) (AE (Bs CF (AE (Aa Ar (AB 3) (wC (D.int 1))) AY)) AY))) AY)))) (Bi 2 (AX (AR 5) (AX (AR 6) BB))) (A2 (Bh (A5 (AS (Dk "tuple" (AB 5)))) (AS (Aa (LV true) (Bs CF (AE (AB 5) AY)) (AB 6)))) (Am (BE (AE (wC (D.str "shape")) (AE (wC (D.int 0)) AY)))) Ap))
 (Af (Cj (GV (AE (Bs CF (AE (AB 2) AY)) AY)) (AR 7) (A2 (A5 (AS (AU EZ (AC (AD (AB 0)) (AC (AD (AB 1)) (AC (AD (AB 3)) (AC (AD (Aa Ar (AB 2) (AB 7))) (AC (AD (Aa Ar (Aa Ar (AB 4) (wC (D.int 0))) (AB 7))) AV)))))))) (Am (BE (AE (wC (D.str "pair")) (AE (AB 7) AY)))) Ap))
 (Af (A0 8 (AU Dg (AC (AD (Aa Ar (AB 3) (wC (D.int 1)))) AV)))
 (Af (Cj (GV (AE (Bs CF (AE (AB 8) AY)) AY)) (AR 7) (A2 (A5 (AS (AU F9 (AC (AD (AB 0)) (AC (AD (AB 1)) (AC (AD (AB 2)) (AC (AD (BS [some 8,some 7,none] (A1 (Aa Ar (AB 3) (wC (D.int 1)))) (AR 2) (AS (Aa Jv (AB 2) (Aa Ar (AB 0) (AB 1)))) (AB 2))) (AC (AD (Aa Ar (Aa Ar (AB 4) (wC (D.int 1))) (AB 7))) AV)))))))) (Am (BE (AE (wC (D.str "tie")) (AE (AB 7) AY)))) Ap))
 (Am (wC D.non)))))))
noncomputable def Hs:Ai:=(Af (A0 5 (wC (D.str "other")))
 (Af (A2 (AS (Aa (ZS false) (AU KJ (AC (AD (AB 0)) (AC (AD (AB 1)) (AC (AD (AB 2)) (AC (AD (AB 3)) (AC (AD (AB 4)) AV)))))) (wC (D.bl true)))) (A0 5 (wC D.non)) Ap)
 (Am (AB 5))))
noncomputable def NE:Ai:=(Af (FD 2 (DL AY))
 (Af (Cj (GV (AE (wC (D.int 2)) AY)) (AR 3) (Af (A0 4 (AU Oc (AC (CA 1) (AC (AD (wC (D.int 7))) (AC (AD (wC (D.int 12))) AV)))))
 (Af (A0 5 (AU IH (AC (CA 1) AV)))
 (Af (A0 6 (AU Ob (AC (CA 1) (AC (AD (Aa Ar (AB 4) (wC (D.int 0)))) (AC (AD (wC (D.int 8))) AV)))))
 (WU 2 "list" RC (AE (BE (AE (AB 4) (AE (AB 5) (AE (AB 6) (AE (AU Sm (AC (AD (AB 4)) (AC (AD (AB 5)) (AC (AD (AB 6)) (AC (AD (Z2 (AU Dg (AC (AD (Aa Ar (AB 4) (wC (D.int 1)))) AV)) (Wa (wC (D.int 1))))) AV))))) AY))))) AY))))))
 (Af (Cj (A1 (Aa B0 (A7 2) (YT Pt (A7 2) Ee (KR (wC (D.int 1)))))) (Bi 4 (AX (AR 4) (AX (AR 5) (AX (AR 6) (AX (AR 7) BB))))) (Af (A0 8 (AU F8 (AC (AD (AB 4)) (AC (AD (AB 5)) (AC (AD (AB 6)) AV)))))
 (Af (A2 (AS (Aa (C4 true) (AU JF (AC (AD (AB 4)) (AC (AD (AB 5)) (AC (AD (AB 6)) (AC (AD (AB 7)) (AC (AD (AB 8)) AV)))))) (wC D.non))) (Am (wC (D.bl false))) Ap)
 (A2 (AS (Aa (C4 true) (AU Lw (AC (AD (AB 4)) (AC (AD (AB 5)) (AC (AD (AB 6)) (AC (AD (AB 7)) (AC (AD (AB 8)) AV)))))) (wC D.non))) (Am (wC (D.bl false))) Ap))))
 (Am (wC (D.bl true))))))
theorem Nv{N M:Net}(okn:okN N)(okm:okN M)(eM:M.ps=N.ps){a:Str}(ha:a∈N.ps){F:NO}(T:Told M a F){m:Int}(m0:0<=m) :
  Ws N M (M.ps.map λx=>.int (JC m ((F x).map (·.1))))/\∀c∈N.ps,Pr N (M.ps.map λx=>.int (JC m ((F x).map (·.1)))) a c=JC m ((F c).map (·.1)):=by
 have e:(M.ps.map λx=>D.int (JC m ((F x).map (·.1))))=(M.ps.map λx=>JC m ((F x).map (·.1))).map .int:=by rw [fQ]; rfl
 rw [e];have ge:=λx=>(Zc m0 (XJ okm.1 (T.far x))).1;refine⟨⟨by rw [Go,Go,eM],λx hx=>?_,Tz okm.1 _ (λx _=>ge x) λu hu=>RG okm.1 T.far hu⟩,λc hc=>?_⟩
 ·obtain⟨i,hi,rfl⟩:=Rs.mp hx
  obtain⟨y,hy,rfl⟩:=Rs.mp hi;exact decide_eq_true (ge y)
 ·rw [eM]
  show GU (Im N _ a - Im N _ c)=_;rw [J1 _ ha,J1 _ hc,T.start]
  have:=ge c
  show GU ((if (0:Int)<m then 0 else m) - _)=_;unfold GU
  split <;> split <;> omega
theorem KP{N:Net}{a c:Str}{w:List Str}(h:Way N a c (some w)):∃l,walkedK 30 N a c w l/\Least N a c l:=by
 obtain⟨d,r,e,h1,h2,h3,h4,h5⟩:=h;exact⟨d,⟨⟨r,e⟩,h1,h2,h4,h5⟩,h3⟩
section
variable {ss:List Slot}{n:Nat}{Pd:D->Nat->Prop}
theorem Qh(h:F7 ss n Pd):Hk (EE Pd) n (ss++Tk 1 .no):=by
 obtain⟨N,M,t,b,a,c,rfl,okn,okm,eM,ha,hc,hk,p⟩:=h;have l25:=okn.2.1;have nm:=okn.1.names;unfold Hk;refine⟨N,a,c,rfl,okn,ha,hc,λo ho=>⟨rfl,?_⟩⟩;cases o with
 | none =>
  refine EC ⟨N,a,rfl,okn,ha,λks ds F Dm T=>?_⟩;obtain⟨xs,ex⟩:=Mr Dm.dom;have hm:∀x,x∈xs↔F x≠none:=λx=>by rw [← Dm.mem x,ex,Rs]; exact⟨λh=>⟨x,h,rfl⟩,fun⟨y,hy,e⟩=>by cases e; exact hy⟩
  have hin:∀x∈xs,x∈N.ps:=λx hx=>T.ins x ((hm x).mp hx);have nd:xs.Nodup:=ZA (by rw [← ex]; exact Dm.nd);have hl:xs.length<=25:=by have:=Dm.le T.ins; rw [ex,Go] at this; omega
  refine⟨_,ks,ds,xs,rfl,rfl,Dm.len,ex,by omega,λx hx=>by have:=(nm x (hin x hx)).2.1; rw [eK]; omega,λys py sy=>⟨?_,p _ (.inl ⟨ys,rfl,D1 sy (py.nodup_iff.mpr nd),λx hx=>hin x (py.mem_iff.mp hx),?_,λhx=>?_,λu hu=>?_⟩)⟩⟩
  ·show 2<=sizeLine; decide
  ·rw [py.mem_iff,hm,T.start]; simp
  ·rw [py.mem_iff,hm] at hx
   cases e:F c with
   | none=>exact hx e
   | some q=>exact ho q.1 (T.least c q.1 q.2 e).1
  ·rw [py.mem_iff,py.mem_iff,hm,hm]
   obtain⟨d1,d2⟩:=OK hu
   have go:∀{x y:Str} {l:Int},Ed N x y l->F x≠none->F y≠none:=λ{x y l} he hx=>by
    cases e:F x with
    | none=>exact absurd e hx
    | some q=>exact T.all y _ (Wk.snoc (T.least x q.1 q.2 e).1 he)
   exact⟨go d1,go d2⟩
 | some d =>
  obtain⟨d',hd',hle⟩:=hk d ho;refine Bp ⟨M,a,c,rfl,okm,by rw [eM]; exact ha,by rw [eM]; exact hc,λo' ho'=>?_⟩;cases o' with
  | none=>exact absurd hd'.1 (ho' d')
  | some w =>
   obtain⟨l,hw,hl⟩:=KP ho';refine⟨N,a,d,rfl,okn,ha,λF T=>⟨by show 3<=sizeLine; decide,p _ (.inr ⟨w,l,_,rfl,hw,(Nv okn okn rfl ha T ((show Least N a c d from ho).1.pos okn.1)).1,?_⟩)⟩⟩;rw [(Nv okn okn rfl ha T ((show Least N a c d from ho).1.pos okn.1)).2 c hc];have e:(F c).map (·.1)=some d:=Far.unique (T.far c) ho;rw [e,Least.unique hl hd'];show _<=(if d<d then d else d)*t;rw [ite_self];exact hle
theorem TC(h:IL ss n Pd):Gb (EE Pd) n (ss++Tk 3 .no):=by
 obtain⟨N,M,t,b,ps,os,rfl,okn,okm,eM,tm,hp,hf,hk,p⟩:=h;unfold Gb;refine⟨N,M,t,b,ps,os,rfl,okm,eM,tm,hp,hf,λo h1 h2=>?_⟩;cases o with
 | none=>rw [h1 rfl] at hk; cases hk
 | some i =>
  obtain⟨_,j,q,d,rfl,e1,e2,h3,h4⟩:=h2 i rfl;obtain⟨hq1,hq2⟩:=hp.2 q (eQ e1);have a1:(ps.map pairD)[j]?=some (pairD q):=by rw [dX,e1]; rfl
  refine⟨_,AJ a1,_,AJ (j:=0) rfl,_,AJ a1,_,AJ (j:=1) rfl,N,q.1,q.2,rfl,okn,hq1,hq2,λo ho=>?_⟩;cases o with
  | none=>exact absurd h3.1 (ho d)
  | some w =>
   obtain⟨l,hw,hl⟩:=KP ho;have e0:=Least.unique hl h3;subst e0;refine⟨_,AJ (v:=D.int l) (by rw [dX,e2]; rfl),t,b,l,rfl,tm,M,q.1,_,rfl,okm,by rw [eM]; exact hq1,λF T=>⟨by show 3<=sizeLine; decide,p _ ⟨j,q,w,l,_,rfl,e1,hw,?_⟩⟩⟩;obtain⟨b1,b2,t1,t2⟩:=tm;have l0:=h3.1.pos okn.1
   have dv:l*t<(l*t / b+1)*b:=by
    have:=Int.lt_ediv_add_one_mul_self (l*t) (show 0<b by omega)
    exact this
   have m0:0<=l*t / b+1:=by
    have:=Int.ediv_nonneg (Int.mul_nonneg l0 (show 0<=t by omega)) (show 0<=b by omega)
    omega
   obtain⟨pr,gp⟩:=Nv okn okm eM hq1 T m0;refine⟨pr,?_⟩;rw [gp _ hq2];cases e:(F q.2).map (·.1) with
   | none=>exact Int.not_le.mpr dv
   | some d' =>
    have hd:=T.far q.2;rw [e] at hd;show ¬(if d'<l*t / b+1 then d' else l*t / b+1)*b<=_
    split
    ·exact h4 d' hd
    ·exact Int.not_le.mpr dv
theorem Qk(h:F8 ss n Pd):FH (EE Pd) n (ss++Tk 4 .no):=by
 obtain⟨N,t,b,ps,rfl,okn,tm,bt,hp,p⟩:=h;have b0:0<=b:=by have:=tm.1; omega
 unfold FH;refine⟨N,t,b,ps,rfl,okn,tm,hp,λord po bo=>⟨N,ps,rfl,okn,hp,λos hos=>?_⟩⟩;replace p:=p ord;have okm:okN (BJ N t b ps N ord.reverse):=GD okn;have em:(BJ N t b ps N ord.reverse).ps=N.ps:=J0;have km:keepsP N t b ps (BJ N t b ps N ord.reverse):=Gp (Q8 okn.1 bt);have nd:∀u∈(BJ N t b ps N ord.reverse).ts,By N t b ps (BO (BJ N t b ps N ord.reverse) u)=false:=λu hu=>IX b0 okn u (ia.mpr (po.mem_iff.mpr (EL u hu))) hu;revert p okm em km nd;generalize BJ N t b ps N ord.reverse=M;intro p okm em km nd;refine⟨by show (ps.map pairD).length<=10000000; rw [Go]; have:=hp.1; omega,?_⟩
 have go:∀(rest:Eb) (acc:List D) (s1 s2:Slot) (P:List D->Nat->Prop),(∀q∈rest,q∈ps)->(∀ds,ShL N M t b rest ds->P (acc++ds) n) ->
   EO (Bi 2 (AX (AR 2) (AX (AR 3) BB))) Cf (AU F7 (AC (AD (AB 0)) (AC (AD (AB 1)) (AC (AD (AB 2)) (AC (AD (AB 3)) AV))))) P (rest.map pairD) acc n [.sh (enc N),.sh (enc M),s1,s2]:=by
  intro rest
  induction rest with
  | nil=>intro acc s1 s2 P _ h; have:=h [] trivial; rw [eO] at this; exact this
  | cons q rest ih =>
   intro acc s1 s2 P hq h;obtain⟨q1,q2⟩:=hp.2 q (hq q Re);refine⟨rfl,rfl,N,M,t,b,q.1,q.2,rfl,okn,okm,em,q1,q2,km q (hq q Re),λd hd=>?_⟩;refine ih (acc++[d]) _ _ P (λr hr=>hq r (Sc _ hr)) λds hds=>?_;rw [eg];exact h (d::ds) ⟨hd,hds⟩
 refine go ps [] _ _ _ (λq h=>h) λsh hsh=>?_;rw [d8];refine⟨_,AJ (j:=1) rfl,_,M.ts,rfl,rfl,by have:=okm.2.2; omega,λo2 p2 r2=>⟨by show (o2.map Ao).length<=10000000; rw [Go,p2.length_eq]; have:=okm.2.2; omega,?_⟩⟩
 have go2:∀(rest:List BL) (acc:List D) (s1:Slot) (P:List D->Nat->Prop),(∀u∈rest,u∈M.ts)->(∀ds,NdL N M t b ps rest ds->P (acc++ds) n) ->
   EO (AR 5) Cf (AU IL (AC (AD (AB 0)) (AC (AD (AB 1)) (AC (AD (AB 2)) (AC (AD (AB 3)) (AC (AD (AU Ce (AC (AD (AB 4)) (AC (AD (DL (AE (AB 5) AY))) AV)))) AV)))))) P (rest.map Ao) acc n [.sh (enc N),.sh (FN t b),.sh (CN ps),.sh (.lst (os.map HP)),.sh (enc M),s1]:=by
  intro rest
  induction rest with
  | nil=>intro acc s1 P _ h; have:=h [] trivial; rw [eO] at this; exact this
  | cons u rest ih =>
   intro acc s1 P hu h;have hu0:=hu u Re;refine⟨z1,M,u,rfl,okm,Gn okm.1 u hu0,N,BO M u,t,b,ps,os,rfl,okn,B5 okm u,em,tm,hp,hos,nd u hu0,λd hd=>?_⟩;refine ih (acc++[d]) _ P (λr hr=>hu r (Sc _ hr)) λds hds=>?_;rw [eg];exact h (d::ds) ⟨hd,hds⟩
 refine go2 o2 [] _ _ (λu hu=>p2.mem_iff.mp hu) λnds hnd=>?_;rw [d8];exact⟨by show 2<=sizeLine; decide,p _ po bo ⟨sh,nds,o2,rfl,hsh,p2,r2,hnd⟩⟩
end
theorem QH:∀{xs:List Str},rising xs->Sh (xs.map .str)=true
 | [],_=>rfl
 | [_],_=>rfl
 | x::y::r,h=>by
  have h':=eq.mp h;show ((some (decide (cs x<cs y))==some true)&&Sh ((y::r).map .str))=true;rw [QH h'.2,decide_eq_true (h'.1 y Re)];rfl
theorem BZ{xs:List Str}{x:Str}:((xs.map D.str).any λy=>Cw y (.str x))=decide (x∈xs):=by
 rw [eU,fj,decide_eq_true_eq];constructor
 ·rintro ⟨d,hd,e⟩
  obtain⟨y,hy,rfl⟩:=Rs.mp hd;rw [J7,beq_iff_eq] at e;rw [← e]; exact hy
 ·exact λh=>⟨.str x,Rs.mpr ⟨x,h,rfl⟩,by rw [J7,beq_self_eq_true]⟩
theorem C5{α:Type}{l:List α}{P:D->Prop}(h:P (.bl true)):Fk [.lst (l.map λ_=>.bl true)] P:=by
 refine Fj (p:=λ_=>true) ?_;rw [fB.mpr (λ_ _=>rfl)];exact h
theorem Pf{i j:Int}{F:D->Prop}(h:i<=j)(p:F (.bl true)):Pu (.int i) (.int j) F:=by
 show F (.bl (decide (i<=j)));rw [decide_eq_true h]; exact p
theorem PZ{i j:Int}{F:D->Prop}(h:i<j)(p:F (.bl true)):E3 (.int i) (.int j) F:=by
 show F (.bl (decide (i<j)));rw [decide_eq_true h]; exact p
section
variable {ss:List Slot}{n:Nat}{Pd:D->Nat->Prop}
theorem Qg(h:II ss n Pd):Fo (EE Pd) n (ss++Tk 1 .no):=by
 obtain⟨N,M,t,b,a,c,w,l,xs,rfl,okn,okm,⟨b1,b2,t1,t2⟩,ha,hc,hw,⟨x1,x2,x3⟩,hle,p⟩:=h;unfold Fo;refine⟨_,AJ (j:=0) rfl,_,AJ (j:=1) rfl,_,AJ (j:=1) rfl,M,a,c,w,l,rfl,okm,walkedK.up (by decide) hw,⟨rfl,?_⟩⟩;refine⟨_,AJ (j:=2) rfl,N,_,rfl,okn,?_⟩;rw [x3];refine⟨_,AJ (j:=2) rfl,_,AJ (j:=0) rfl,_,AJ (j:=1) rfl,N,xs,a,c,rfl,okn,x1,x2,ha,hc,l,t,b,_,rfl,b1,b2,t1,t2,?_⟩;rw [decide_eq_true hle];exact p
theorem S_(h:KH ss n Pd):JY (EE Pd) n (ss++Tk 0 .no):=by
 obtain⟨N,xs,rfl,okn,hr,hin,p⟩:=h;have l25:=okn.2.1;have nm:∀x∈xs,Po x:=λx hx=>okn.1.names x (hin x hx);have hl:xs.length<=25:=dn ((Nh hr).length_le_of_subset hin) l25;unfold JY;refine⟨by show (xs.map D.str).length<=10000000; rw [Go]; omega,?_⟩;refine BC (λ_=>.bl true) (λρ=>∃s,ρ=[.sh (enc N),s]) _ _ _ _ ?_ ⟨_,rfl⟩ ?_
 ·rintro d hd ρ m nx ⟨s,rfl⟩ hnx
  obtain⟨x,hx,rfl⟩:=Rs.mp hd;refine⟨_,AJ (j:=0) rfl,Bo (nm x hx),B9 okn.1.names,_,rfl,?_⟩;show nx (.bl ((N.ps.map D.str).any λy=>Cw y (.str x))) m _;rw [BZ,decide_eq_true (hin x hx)];exact hnx _ ⟨_,rfl⟩
 ·rw [d8]
  delta AY
  dsimp only
  refine C5 ?_;refine⟨_,xs.map .str,rfl,rfl,by rw [Go]; omega,λx hx y hy=>?_,?_⟩
  ·obtain⟨x,_,rfl⟩:=Rs.mp hx
   obtain⟨y,_,rfl⟩:=Rs.mp hy;exact⟨_,rfl⟩
  ·rw [QH hr]
   exact p
theorem O3(h:GO ss n Pd):FG (EE Pd) n (ss++Tk 0 .no):=by
 obtain⟨N,a,c,xs,rfl,okn,ha,hc,hr,hin,h1,h2,h3,p⟩:=h;have l60:=okn.2.2;have ok:=okn.1;have nm:∀x∈xs,Po x:=λx hx=>ok.names x (hin x hx);have lx:CY (.tup (xs.map .str)):=B9 nm;unfold FG;refine⟨N,xs,rfl,okn,hr,hin,?_⟩;refine⟨_,AJ (j:=0) rfl,Bo (ok.names a ha),lx,_,rfl,?_⟩;show if (!((xs.map D.str).any λy=>Cw y (.str a)))=true then _ else _
 rw [BZ,decide_eq_true h1];refine Bp ⟨_,AJ (j:=1) rfl,Bo (ok.names c hc),lx,_,rfl,?_⟩;show if ((xs.map D.str).any λy=>Cw y (.str c))=true then _ else _
 rw [BZ,decide_eq_false h2];refine Bp ⟨_,AJ (j:=1) rfl,by show (N.ts.map Ao).length<=10000000; rw [Go]; omega,?_⟩;refine BC (λ_=>.bl true) (λρ=>∃s1 s2 s3,ρ=[.sh (.tup (xs.map .str)),s1,s2,s3]) _ _ _ _ ?_ ⟨_,_,_,rfl⟩ ?_
 ·rintro d hd ρ m nx ⟨s1,s2,s3,rfl⟩ hnx
  obtain⟨u,hu,rfl⟩:=Rs.mp hd;obtain⟨m1,m2,_⟩:=ok.tin u hu;refine⟨rfl,rfl,Bo (ok.names _ m1),lx,_,rfl,Bo (ok.names _ m2),lx,_,rfl,⟨rfl,rfl,dY _⟩,⟨rfl,rfl,dY _⟩,?_⟩;show nx (.bl (Cw (.bl ((xs.map D.str).any λy=>Cw y (.str u.a))) (.bl ((xs.map D.str).any λy=>Cw y (.str u.b))))) m _;rw [BZ,BZ,decide_eq_decide.mpr (h3 u hu),show ∀z:Bool,Cw (.bl z) (.bl z)=true from λz=>by cases z <;> rfl];exact hnx _ ⟨_,_,_,rfl⟩
 ·rw [d8]
  exact C5 (l:=N.ts.map Ao) (P:=λz=>Pd z n) p
theorem Nl(h:Di ss n Pd):Hq (EE Pd) n (ss++Tk 0 .no):=by
 obtain⟨N,M,t,b,a,c,d,rfl,okn,okm,tm,ha,hc,hs,p⟩:=h;unfold Hq;refine⟨3,d,rfl,?_⟩
 rcases hs with ⟨xs,rfl,r1,r2,r3,r4,r5⟩ | ⟨w,l,xs,rfl,h1,h2,h3⟩
 ·exact Bp ⟨2,_,rfl,_,AJ (j:=0) rfl,_,AJ (j:=1) rfl,N,a,c,xs,rfl,okn,ha,hc,r1,r2,r3,r4,r5,p⟩
 ·exact EC ⟨_,AJ (j:=0) rfl,N,M,t,b,a,c,w,l,xs,rfl,okn,okm,tm,ha,hc,h1,h2,h3,p⟩
theorem O6(h:Ea ss n Pd):Gc (EE Pd) n (ss++Tk 3 .no):=by
 obtain⟨N,M,t,b,ps,d,rfl,okn,okm,eM,⟨b1,b2,t1,t2⟩,hp,⟨j,q,w,l,xs,rfl,e1,hw,⟨x1,x2,x3⟩,hn⟩,p⟩:=h;obtain⟨q1,q2⟩:=hp.2 q (eQ e1);have a1:(ps.map pairD)[j]?=some (pairD q):=by rw [dX,e1]; rfl
 have jl:j<ps.length:=(Uf.mp e1).1;unfold Gc;refine⟨3,_,rfl,_,AJ (j:=0) rfl,[_],rfl,rfl,_,AJ (j:=0) rfl,Pf (by omega) ⟨_,_,rfl,rfl,PZ (by rw [Go]; omega) ?_⟩⟩;refine Bp ⟨_,AJ (j:=0) rfl,_,AJ a1,_,AJ (j:=0) rfl,_,AJ (j:=0) rfl,_,AJ a1,_,AJ (j:=1) rfl,_,AJ (j:=1) rfl,N,q.1,q.2,w,l,rfl,okn,walkedK.up (by decide) hw,⟨rfl,?_⟩⟩;refine⟨_,AJ (j:=2) rfl,M,_,rfl,okm,?_⟩;rw [x3];refine⟨_,AJ (j:=2) rfl,N,xs,q.1,q.2,rfl,okn,x1,x2,q1,q2,_,t,b,l,rfl,b1,b2,t1,t2,?_⟩;rw [decide_eq_false hn];exact p
theorem Qi(h:IJ ss n Pd):Gd (EE Pd) n (ss++Tk 0 .no):=by
 obtain⟨ps,M,xs,ys,rfl,h1,h2,p⟩:=h;unfold Gd;refine⟨2,_,rfl,_,_,rfl,rfl,_,AJ (j:=0) rfl,_,_,rfl,?_⟩;show (match (D.bl (((xs.length:Int)==((ps.map pairD).length:Int)))) with | .bl true=>_ | .bl false=>_ | _=>False);rw [Go,h1,beq_self_eq_true];refine⟨_,AJ (j:=1) rfl,_,_,rfl,rfl,_,AJ (j:=1) rfl,_,_,rfl,?_⟩;show Pd (.bl (((ys.length:Int)==((M.ts.map Ao).length:Int)))) n;rw [Go,h2,beq_self_eq_true];exact p
end
section
variable {ss:List Slot}{n:Nat}{Pd:D->Nat->Prop}
theorem TF(h:KJ ss n Pd):Fq (EE Pd) n (ss++Tk 3 .no):=by
 obtain⟨N,⟨mp,ts⟩,t,b,ps,d,rfl,okn,l24,⟨eM,ht⟩,tm,hp,⟨sh,nds,ord,rfl,hsh,po,ro,hnd⟩,p⟩:=h;replace eM:mp=N.ps:=eM;subst eM;replace ht:thn N ts:=ht;have okm:=ht.okN okn;have l60:=okn.2.2;have sz:=Uc okm;have m60:ts.length<=60:=okm.2.2;unfold Fq;refine⟨N,enc ⟨N.ps,ts⟩,rfl,okn.1,l24,l60,(Mv (by decide) _).1 _ (Op _) sz.1,by have:=sz.2.1; omega,by have:=sz.2.2; omega,?_⟩;rw [ht.thinB];refine Bp ⟨ps,⟨N.ps,ts⟩,sh,nds,rfl,hsh.len,hnd.len.trans po.length_eq,?_⟩;refine Bp ⟨_,rfl,?_⟩
 have go:∀(rest done:Eb) (s5 s6 s7:Slot) (D2:E2),done++rest=ps->(∀s5 s6,D2.nx n [.sh (enc N),.sh (FN t b),.sh (CN ps),.sh (enc ⟨N.ps,ts⟩),.sh (.tup [.tup sh,.tup nds]),s5,s6,s7]) ->
   BF (Bi 2 (AX (AR 5) (AX (AR 6) BB))) (A2 (A5 (AS (AU Di (AC (AD (AB 0)) (AC (AD (AB 1)) (AC (AD (AB 6)) (AC (AD (AB 3)) (AC (AD (Aa Ar (Aa Ar (AB 4) (wC (D.int 0))) (AB 5))) AV)))))))) IU Ap) D2 (ER done.length (rest.map pairD)) n [.sh (enc N),.sh (FN t b),.sh (CN ps),.sh (enc ⟨N.ps,ts⟩),.sh (.tup [.tup sh,.tup nds]),s5,s6,s7]:=by
  intro rest
  induction rest with
  | nil=>intro done s5 s6 s7 D2 _ h; exact h _ _
  | cons q rest ih =>
   intro done s5 s6 s7 D2 e h;have e1:ps[done.length]?=some q:=by rw [← e,fA (Op _),iJ]; rfl
   obtain⟨d,hd,hs⟩:=hsh.at e1;obtain⟨q1,q2⟩:=hp.2 q (eQ e1);refine⟨rfl,rfl,_,AJ (j:=0) rfl,_,AJ hd,N,_,t,b,q.1,q.2,d,rfl,okn,okm,tm,q1,q2,hs,?_⟩
   have:=ih (done++[q]) (.sh (.int (done.length:Int))) (.sh (pairD q)) s7 D2 (by rw [eg]; exact e) h
   rw [dZ,eC] at this;exact Bp this
 refine go ps [] _ _ _ _ rfl λs5 s6=>?_;refine⟨_,AJ (j:=1) rfl,_,ts,rfl,rfl,by omega,λo2 p2 r2=>⟨_,rfl,?_⟩⟩;have eo:=Fa (p2.trans po.symm) r2 ro;subst eo
 have go2:∀(rest done:List BL) (s5 s6 s7:Slot),done++rest=o2 ->
   BF (Bi 2 (AX (AR 5) (AX (AR 7) BB))) (A2 (A5 (AS (AU Ea (AC (AD (AB 0)) (AC (AD (AB 1)) (AC (AD (AB 2)) (AC (AD (AU Ce (AC (AD (AB 3)) (AC (AD (DL (AE (AB 7) AY))) AV)))) (AC (AD (Aa Ar (Aa Ar (AB 4) (wC (D.int 1))) (AB 5))) AV)))))))) IU Ap) { EE Pd with nx:=Am (wC (D.bl true)) (EE Pd) } (ER done.length (rest.map Ao)) n [.sh (enc N),.sh (FN t b),.sh (CN ps),.sh (enc ⟨N.ps,ts⟩),.sh (.tup [.tup sh,.tup nds]),s5,s6,s7]:=by
  intro rest
  induction rest with
  | nil=>intro done s5 s6 s7 _; exact p
  | cons u rest ih =>
   intro done s5 s6 s7 e;have e1:o2[done.length]?=some u:=by rw [← e,fA (Op _),iJ]; rfl
   obtain⟨d,hd,hs⟩:=hnd.at e1;have hu:u∈ts:=p2.mem_iff.mp (eQ e1);refine⟨rfl,rfl,z1,_,u,rfl,okm,Gn okm.1 u hu,_,AJ (j:=1) rfl,_,AJ hd,N,BO ⟨N.ps,ts⟩ u,t,b,ps,d,rfl,okn,B5 okm u,rfl,tm,hp,hs,?_⟩
   have:=ih (done++[u]) (.sh (.int (done.length:Int))) s6 (.sh (Ao u)) (by rw [eg]; exact e)
   rw [dZ,eC] at this;exact Bp this
 exact go2 o2 [] _ _ _ rfl
theorem Ur(h:Lw ss n Pd):Hs (EE Pd) n (ss++Tk 1 .no):=by
 obtain⟨N,M,t,b,ps,d,rfl,okn,l24,hm,tm,hp,hd,p⟩:=h;unfold Hs;exact⟨N,M,t,b,ps,d,rfl,okn,l24,hm,tm,hp,hd,p⟩
end
theorem Kq:2<=sizeLine:=by decide
structure Led (done:List BL) (ks:List (List Key)) (ds:List D):Prop where
 len:ks.length=ds.length
 le:ks.length<=2*done.length
 at1:∀u∈done,CB ks ds [.inr u.a,.inr u.b]=some (.int u.len)
 at2:∀u∈done,CB ks ds [.inr u.b,.inr u.a]=some (.int u.len)
theorem Ik{ks:List (List Key)}{k:List Key}:(CV ks k).length<=ks.length+1:=by
 unfold CV
 split
 ·omega
 ·rw [dZ]; exact Op _
theorem Led.put{M:Net}(ok:M.Ok){done:List BL}{v:BL}{ks:List (List Key)}{ds:List D}(h:Led done ks ds)(hd:∀u∈done,u∈M.ts)(hv:v∈M.ts) :
  Led (done++[v]) (CV (CV ks [.inr v.a,.inr v.b]) [.inr v.b,.inr v.a]) (CU (CV ks [.inr v.a,.inr v.b]) (CU ks ds [.inr v.a,.inr v.b] (.int v.len)) [.inr v.b,.inr v.a] (.int v.len)):=by
 have l1:=K0 (k:=[.inr v.a,.inr v.b]) (d:=D.int v.len) h.len;have lt:∀u∈M.ts,cs u.a<cs u.b:=λu hu=>(ok.tin u hu).2.2.1
 have key:∀{x y z w:Str},([.inr x,.inr y]:List Key)=[.inr z,.inr w]->x=z/\y=w:=λe=>by
  have:=List.cons.inj e
  exact⟨f8 this.1,f8 (List.cons.inj this.2).1⟩
 refine⟨K0 l1,?_,λu hu=>?_,λu hu=>?_⟩
 ·have:=h.le
  have a:=Ik (ks:=ks) (k:=[.inr v.a,.inr v.b]);have b:=Ik (ks:=CV ks [.inr v.a,.inr v.b]) (k:=[.inr v.b,.inr v.a]);rw [dZ,eC];omega
 ·have hm:u∈M.ts:=by rcases d7.mp hu with hu | hu; exact hd u hu; rw [TM.mp hu]; exact hv
  rw [GC l1,GC h.len]
  split
  ·rename_i e
   obtain⟨e1,e2⟩:=key e
   have:=lt u hm
   rw [e1,e2] at this;exact absurd (Std.lt_trans this (lt v hv)) (CP _)
  ·split
   ·rename_i e
    obtain⟨e1,e2⟩:=key e;rw [GF ok.trise u hm v hv e1 e2]
   ·rename_i e
    rcases d7.mp hu with hu | hu
    ·exact h.at1 u hu
    ·exact absurd (by rw [TM.mp hu]) e
 ·have hm:u∈M.ts:=by rcases d7.mp hu with hu | hu; exact hd u hu; rw [TM.mp hu]; exact hv
  rw [GC l1,GC h.len]
  split
  ·rename_i e
   obtain⟨e1,e2⟩:=key e;rw [GF ok.trise u hm v hv e2 e1]
  ·rename_i e0
   split
   ·rename_i e
    obtain⟨e1,e2⟩:=key e
    have:=lt u hm
    rw [e1,e2] at this;exact absurd (Std.lt_trans this (lt v hv)) (CP _)
   ·rcases d7.mp hu with hu | hu
    ·exact h.at2 u hu
    ·exact absurd (by rw [TM.mp hu]) e0
theorem Led.ed{M:Net}(ok:M.Ok){ks:List (List Key)}{ds:List D}(h:Led M.ts ks ds){x y:Str}{l:Int}(e:Ed M x y l):CB ks ds [.inr x,.inr y]=some (.int l):=by
 obtain⟨u,hu,rfl,⟨rfl,rfl⟩ | ⟨rfl,rfl⟩⟩:=e.tie ok
 ·exact h.at1 u hu
 ·exact h.at2 u hu
section
variable {ss:List Slot}{n:Nat}{Pd:D->Nat->Prop}
theorem Us(h:Ly ss n Pd):Hu (EE Pd) n (ss++Tk 5 .no):=by
 obtain⟨M,z,a,c,w,l,rfl,hz,okm,⟨⟨r,rfl⟩,hl,hw,h30,hin⟩,p⟩:=h;have ok:=okm.1;have l60:=okm.2.2;have hlen:(a::r).length<=30:=h30;unfold Hu;refine⟨_,_,rfl,rfl,⟨by show ((a::r).map D.str).length<=10000000; rw [Go]; omega,?_⟩⟩;refine BC (λ_=>.bl true) (λρ=>∃s,ρ=[.sh (.tup (M.ps.map .str)),s]) _ _ _ _ ?_ ⟨_,rfl⟩ ?_
 ·rintro d hd ρ m nx ⟨s,rfl⟩ hnx
  obtain⟨x,hx,rfl⟩:=Rs.mp hd;refine⟨Bo (ok.names x (hin x hx)),B9 ok.names,_,rfl,?_⟩;show nx (.bl ((M.ps.map D.str).any λy=>Cw y (.str x))) m _;rw [BZ,decide_eq_true (hin x hx)];exact hnx _ ⟨_,rfl⟩
 rw [d8]
 delta AY
 dsimp only
 refine C5 ?_;refine Bp ⟨_,AJ (j:=0) rfl,DY (λc=>absurd c (by simp)) λ_=>⟨1,rfl,_,SA hl,DY (λc=>absurd c (by simp)) λ_=>?_⟩⟩
 have go:∀(rest done:List BL) (ks:List (List Key)) (ds:List D) (s6 s7 s8:Slot) (D2:E2),done++rest=M.ts->Led done ks ds ->
   (∀ks ds s6 s7 s8,Led M.ts ks ds->D2.nx n [.sh (.tup (M.ps.map .str)),.sh z,.sh (L3 (a::r)),.sh (.str a),.sh (.str c),.ow (.dit ks ds),s6,s7,s8,.no]) ->
   BF (Bi 3 (AX (AR 6) (AX (AR 7) (AX (AR 8) BB)))) (Af (Og 5 (BE (AE (AB 6) (AE (AB 7) AY))) (AB 8))
 (Og 5 (BE (AE (AB 7) (AE (AB 6) AY))) (AB 8))) D2 (rest.map Ao) n [.sh (.tup (M.ps.map .str)),.sh z,.sh (L3 (a::r)),.sh (.str a),.sh (.str c),.ow (.dit ks ds),s6,s7,s8,.no]:=by
  intro rest
  induction rest with
  | nil=>intro done ks ds s6 s7 s8 D2 e L h; rw [eO] at e; subst e; exact h _ _ _ _ _ L
  | cons u rest ih =>
   intro done ks ds s6 s7 s8 D2 e L h;have hu:u∈M.ts:=by rw [← e]; exact df _ Re
   have hd:∀v∈done,v∈M.ts:=λv hv=>by rw [← e]; exact fV _ hv
   have dl:done.length+rest.length+1=M.ts.length:=by rw [← e,dZ,dq]; omega
   have k1:=L.le;have k2:=Ik (ks:=ks) (k:=[.inr u.a,.inr u.b]);refine⟨rfl,rfl,ks,ds,rfl,Kq,[.inr u.a,.inr u.b],rfl,by rw [eK]; omega,_,_,rfl,Kq,[.inr u.b,.inr u.a],rfl,by rw [eK]; omega,?_⟩;exact ih (done++[u]) _ _ _ _ _ D2 (by rw [eg]; exact e) (L.put ok hd hu) h
 suffices main:∀ks ds s6 s7 s8,Led M.ts ks ds->Af (A0 9 (wC (D.int 0))) (Af (Cj (QP (AE (AB 2) (AE (YT Pt (AB 2) (KR (wC (D.int 1))) Ee) AY))) (Bi 2 (AX (AR 6) (AX (AR 7) BB))) (Af (A2 (AS (Aa (Vo true) (BE (AE (AB 6) (AE (AB 7) AY))) (A7 5))) (Am (wC D.non)) Ap)
 (A0 9 (Aa B0 (AB 9) (Aa Mx (A7 5) (BE (AE (AB 6) (AE (AB 7) AY)))))))) (Am (AB 9))) (EE Pd) n [.sh (.tup (M.ps.map .str)),.sh z,.sh (L3 (a::r)),.sh (.str a),.sh (.str c),.ow (.dit ks ds),s6,s7,s8,.no] by
  have fin:=go M.ts [] [] [] .no .no .no { EE Pd with nx:=Af (A0 9 (wC (D.int 0))) (Af (Cj (QP (AE (AB 2) (AE (YT Pt (AB 2) (KR (wC (D.int 1))) Ee) AY))) (Bi 2 (AX (AR 6) (AX (AR 7) BB))) (Af (A2 (AS (Aa (Vo true) (BE (AE (AB 6) (AE (AB 7) AY))) (A7 5))) (Am (wC D.non)) Ap)
 (A0 9 (Aa B0 (AB 9) (Aa Mx (A7 5) (BE (AE (AB 6) (AE (AB 7) AY)))))))) (Am (AB 9))) (EE Pd) } rfl ⟨rfl,Op _,nofun,nofun⟩ main
  cases z with
  | tup xs=>cases hz; exact fin
  | lst xs=>cases hz; exact fin
  | _=>cases hz
 intro ks ds s6 s7 s8 L;refine⟨_,_,_,((a::r).map D.str).drop 1,rfl,rfl,by rw [Xh]; rfl,?_⟩
 have go2:∀(r:List Str) (x:Str) (d acc:Int) (s2 s6 s7:Slot),walk M (x::r) d->acc+d=l ->
   BF (Bi 2 (AX (AR 6) (AX (AR 7) BB))) (Af (A2 (AS (Aa (Vo true) (BE (AE (AB 6) (AE (AB 7) AY))) (A7 5))) (Am (wC D.non)) Ap)
 (A0 9 (Aa B0 (AB 9) (Aa Mx (A7 5) (BE (AE (AB 6) (AE (AB 7) AY))))))) { EE Pd with nx:=Am (AB 9) (EE Pd) } (Dz ((x::r).map D.str) (r.map D.str)) n [.sh (.tup (M.ps.map .str)),.sh z,s2,.sh (.str a),.sh (.str c),.ow (.dit ks ds),s6,s7,s8,.sh (.int acc)]:=by
  intro r
  induction r with
  | nil =>
   intro x d acc s2 s6 s7 hw e;have hd:d=0:=hw;rw [hd,Int.add_zero] at e;subst e;exact p
  | cons y r ih =>
   intro x d acc s2 s6 s7 hw e;obtain⟨l1,e1,he,hw1,rfl⟩:=hw;have hv:=L.ed ok he;refine⟨rfl,rfl,Kq,ks,ds,_,rfl,rfl,?_⟩;show if (!(CB ks ds [.inr x,.inr y]).isSome)=true then _ else _
   rw [hv];refine Bp ⟨Kq,ks,ds,_,_,rfl,rfl,hv,?_⟩;exact ih y e1 (acc+l1) _ _ _ hw1 (by omega)
 exact go2 r a l 0 _ _ _ hw (Int.zero_add _)
end
section
variable {ss:List Slot}{n:Nat}{Pd:D->Nat->Prop}
theorem TD(h:IP ss n Pd):Hv (EE Pd) n (ss++Tk 0 .no):=by
 obtain⟨N,xs,a,b,rfl,okn,hl,hg,ha,hb,p⟩:=h;obtain⟨i,i2,hlay,i3,i4,i5⟩:=Mu okn hl hg ha;obtain⟨j,j2,_,j3,j4,j5⟩:=Mu okn hl hg hb;unfold Hv;exact⟨⟨_,rfl⟩,_,_,i,rfl,rfl,hlay,i3,i4,i5,_,AJ i2,⟨_,rfl⟩,_,_,j,rfl,rfl,hlay,j3,j4,j5,_,AJ j2,p⟩
theorem Vn{N:Net}{xs:List D}(h:Mw N (.tup xs)=true):xs.length=N.ps.length/\(∀x∈xs,RB x=true)/\∀u∈N.ts,GU (Im N xs u.a - Im N xs u.b)<=u.len:=by
 have h':((((xs.length:Int)==(N.ps.length:Int))&&xs.all RB)&&N.ts.all λt=>decide (GU (Im N xs t.a - Im N xs t.b)<=t.len))=true:=h;rw [de,de] at h';exact⟨by have:=beq_iff_eq.mp h'.1.1; omega,fB.mp h'.1.2,λu hu=>of_decide_eq_true (fB.mp h'.2 u hu)⟩
theorem Qn(h:F_ ss n Pd):EX (EE Pd) n (ss++Tk 3 .no):=by
 obtain⟨M,z,xs,rfl,hz,okm,hf,p⟩:=h;obtain⟨hl,hg,ht⟩:=Vn hf;have l25:=okm.2.1;unfold EX;refine⟨_,_,rfl,rfl,_,_,rfl,rfl,?_⟩;rw [Go];show if (!((xs.length:Int)==(M.ps.length:Int)))=true then _ else _
 rw [hl,beq_self_eq_true];refine Bp ⟨by show xs.length<=10000000; omega,?_⟩;refine BC (λ_=>.bl true) (λρ=>∃s,ρ=[s]) _ _ _ _ ?_ ⟨_,rfl⟩ ?_
 ·rintro d hd ρ m nx ⟨s,rfl⟩ hnx
  obtain⟨i,rfl,hi⟩:=ge_int (hg d hd);refine⟨[_],rfl,rfl,?_⟩;show nx (.bl (decide ((0:Int)<=i))) m _;rw [decide_eq_true hi];exact hnx _ ⟨_,rfl⟩
 rw [d8]
 delta AY
 dsimp only
 refine C5 (Bp ?_)
 have go:∀(rest:List BL) (s3 s4 s5:Slot),(∀u∈rest,u∈M.ts) ->
   BF (Bi 3 (AX (AR 3) (AX (AR 4) (AX (AR 5) BB)))) (A2 (AS (Aa (f2 λi j=>D.bl (decide (j<i))) (Bs T1 (AE (Aa Fi (Aa Ar (AB 2) (NR (AB 0) (AE (AB 3) AY))) (Aa Ar (AB 2) (NR (AB 0) (AE (AB 4) AY)))) AY)) (AB 5))) (Am (wC (D.bl false))) Ap) { EE Pd with nx:=Am (wC (D.bl true)) (EE Pd) } (rest.map Ao) n [.sh (.tup (M.ps.map .str)),.sh z,.sh (.tup xs),s3,s4,s5]:=by
  intro rest
  induction rest with
  | nil=>intro s3 s4 s5 _; exact p
  | cons u rest ih =>
   intro s3 s4 s5 hu;have hu0:=hu u Re;obtain⟨m1,m2,_⟩:=okm.1.tin u hu0;obtain⟨i,i2,hlay,i3,i4,i5⟩:=Mu okm hl hg m1;obtain⟨j,j2,_,j3,j4,j5⟩:=Mu okm hl hg m2;refine⟨rfl,rfl,⟨_,rfl⟩,_,_,i,rfl,rfl,hlay,i3,i4,i5,_,AJ i2,⟨_,rfl⟩,_,_,j,rfl,rfl,hlay,j3,j4,j5,_,AJ j2,?_⟩;show if (decide (u.len<GU (Im M xs u.a - Im M xs u.b)))=true then _ else _
   rw [decide_eq_false (Int.not_lt.mpr (ht u hu0))];exact Bp (ih _ _ _ λv hv=>hu v (Sc _ hv))
 have fin:=go M.ts .no .no .no λu h=>h;cases z with
 | tup xs=>cases hz; exact fin
 | lst xs=>cases hz; exact fin
 | _=>cases hz
theorem Ql(h:IN ss n Pd):EW (EE Pd) n (ss++Tk 0 .no):=by
 obtain⟨N,a,c,xs,rfl,okn,ha,hc,hr,hin,h1,h2,h3,p⟩:=h;have l25:=okn.2.1;have l60:=okn.2.2;have ok:=okn.1;have nm:∀x∈xs,Po x:=λx hx=>ok.names x (hin x hx);have nd:=Nh hr;have hl:xs.length<=25:=dn (nd.length_le_of_subset hin) l25;have lx:CY (.tup (xs.map .str)):=B9 nm;unfold EW;refine⟨by show (xs.map D.str).length<=10000000; rw [Go]; omega,?_⟩;refine BC (λ_=>.bl true) (λρ=>∃s,ρ=[.sh (enc N),s]) _ _ _ _ ?_ ⟨_,rfl⟩ ?_
 ·rintro d hd ρ m nx ⟨s,rfl⟩ hnx
  obtain⟨x,hx,rfl⟩:=Rs.mp hd;refine⟨_,AJ (j:=0) rfl,Bo (nm x hx),B9 ok.names,_,rfl,?_⟩;show nx (.bl ((N.ps.map D.str).any λy=>Cw y (.str x))) m _;rw [BZ,decide_eq_true (hin x hx)];exact hnx _ ⟨_,rfl⟩
 rw [d8]
 delta AY
 dsimp only
 refine C5 (Bp ?_);refine⟨xs,rfl,by omega,λys py sy=>?_⟩;have ey:ys=xs:=S7 (D1 sy (py.nodup_iff.mpr nd)) hr py;subst ey;refine⟨Mq nm,Mq nm,?_⟩;rw [T3,decide_eq_true rfl];refine Bp ⟨ys,rfl,by omega,_,_,rfl,rfl,⟨rfl,rfl,dY _⟩,⟨rfl,rfl,dY _⟩,?_⟩;rw [Xf _ nd,Go,show ∀i:Int,Cw (.int i) (.int i)=true from λi=>beq_self_eq_true i];refine Bp ⟨_,AJ (j:=0) rfl,Bo (ok.names a ha),lx,_,rfl,?_⟩;show if (!((ys.map D.str).any λy=>Cw y (.str a)))=true then _ else _
 rw [BZ,decide_eq_true h1];refine Bp ⟨_,AJ (j:=1) rfl,Bo (ok.names c hc),lx,_,rfl,?_⟩;show if ((ys.map D.str).any λy=>Cw y (.str c))=true then _ else _
 rw [BZ,decide_eq_false h2];refine Bp ⟨_,AJ (j:=1) rfl,by show (N.ts.map Ao).length<=10000000; rw [Go]; omega,?_⟩;refine C1 (λ_=>false) id (λρ=>∃s,ρ=[.sh (.tup (ys.map .str)),s]) _ _ _ _ ?_ ⟨_,rfl⟩ ?_
 ·rintro d hd ρ m nx sk ⟨s,rfl⟩ k1 k2
  obtain⟨u,hu,rfl⟩:=Rs.mp hd;obtain⟨m1,m2,_⟩:=ok.tin u hu;refine⟨_,AJ (j:=0) rfl,Bo (ok.names _ m1),lx,_,rfl,_,AJ (j:=1) rfl,Bo (ok.names _ m2),lx,_,rfl,⟨rfl,rfl,dY _⟩,⟨rfl,rfl,dY _⟩,?_⟩;show if (!(Cw (.bl ((ys.map D.str).any λy=>Cw y (.str u.a))) (.bl ((ys.map D.str).any λy=>Cw y (.str u.b)))))=true then _ else _
  rw [BZ,BZ,decide_eq_decide.mpr (h3 u hu),show ∀z:Bool,Cw (.bl z) (.bl z)=true from λz=>by cases z <;> rfl];exact Bp (k2 _ ⟨_,rfl⟩ rfl)
 ·rw [d8,jE,List.filter_eq_nil_iff.mpr λ_ _ h=>by cases h]
  exact⟨dY _,⟨rfl,rfl,by decide⟩,⟨rfl,rfl,by decide⟩,p⟩
end
section
variable {ss:List Slot}{n:Nat}{Pd:D->Nat->Prop}
theorem O5(h:EZ ss n Pd):Du (EE Pd) n (ss++Tk 4 .no):=by
 obtain⟨N,M,t,b,a,c,d,rfl,okn,okm,eM,⟨b1,b2,t1,t2⟩,ha,hc,hs,p⟩:=h;unfold Du
 rcases hs with ⟨xs,rfl,r1,r2,r3,r4,r5⟩ | ⟨w,l,xs,rfl,h1,⟨x1,x2,x3⟩,h3⟩
 ·exact⟨_,_,rfl,rfl,_,AJ (j:=0) rfl,_,AJ (j:=0) rfl,_,_,rfl,rfl,_,AJ (j:=1) rfl,N,a,c,xs,rfl,okn,ha,hc,r1,r2,r3,r4,r5,p⟩
 ·refine⟨_,_,rfl,rfl,_,AJ (j:=0) rfl,_,AJ (j:=0) rfl,_,AJ (j:=0) rfl,_,_,rfl,rfl,_,AJ (j:=0) rfl,_,AJ (j:=1) rfl,_,AJ (j:=2) rfl,N,_,xs,rfl,rfl,okn,x3,rfl,rfl,?_⟩
  refine⟨_,AJ (j:=0) rfl,_,AJ (j:=1) rfl,_,AJ (j:=1) rfl,M,_,a,c,w,l,by rw [eM],rfl,okm,h1,?_⟩;refine⟨_,AJ (j:=0) rfl,_,AJ (j:=2) rfl,N,xs,a,c,rfl,okn,x1,x2,ha,hc,⟨rfl,l,t,b,_,rfl,b1,b2,t1,t2,?_⟩⟩;rw [decide_eq_true h3];exact p
theorem Qm(h:F9 ss n Pd):De (EE Pd) n (ss++Tk 4 .no):=by
 obtain⟨N,M,t,b,ps,z,d,rfl,hz,okn,okm,eM,⟨b1,b2,t1,t2⟩,hp,⟨j,q,w,l,xs,rfl,e1,hw,⟨x1,x2,x3⟩,hn⟩,p⟩:=h;obtain⟨q1,q2⟩:=hp.2 q (eQ e1);have a1:(ps.map pairD)[j]?=some (pairD q):=by rw [dX,e1]; rfl
 have jl:j<ps.length:=(Uf.mp e1).1;unfold De;refine⟨_,_,rfl,rfl,_,AJ (j:=0) rfl,[_],rfl,rfl,_,AJ (j:=0) rfl,Pf (by omega) ⟨_,_,rfl,rfl,PZ (by rw [Go]; omega) ?_⟩⟩;refine⟨_,AJ (j:=0) rfl,_,AJ (j:=2) rfl,M,z,xs,by rw [eM],hz,okm,x3,?_⟩;refine⟨_,AJ (j:=0) rfl,_,AJ a1,rfl,rfl,?_⟩;refine⟨_,AJ (j:=0) rfl,_,AJ (j:=1) rfl,_,AJ (j:=1) rfl,N,_,q.1,q.2,w,l,rfl,rfl,okn,hw,?_⟩;refine⟨_,AJ (j:=0) rfl,_,AJ (j:=2) rfl,N,xs,q.1,q.2,rfl,okn,x1,x2,q1,q2,⟨rfl,_,t,b,l,rfl,b1,b2,t1,t2,?_⟩⟩;rw [decide_eq_false hn];exact p
end
end Nt
namespace Dp
open L2
noncomputable abbrev Fu(K:Frag)(x:Str)(st:eA)(f:Ch)(fd:eY):Prop:=Fun K x x st f fd
theorem Cv{P:eB}{w:eG}{K:Frag}{mg:Str->Option Db}{base:dg}{x:Str}{st:eA}{f:Ch}{fd:eY}{N ps:List Str}{k:Nat}{κ:Kd}{W:W2}{wb:Ai}(F:Fu K x st f fd)(S:Ad N ps (AO st))
  (hb:∀{cdv:Db} {A:eX} {outer:List Env} {s:On} {H:Hp} {E:XK},Room k (A.deeper (envOfC x (AO st) s.heap.objs.size f cdv))->UJ (MU Bw P w K mg base N x (AO st) f cdv A outer s H E).nox κ (CK st) wb)
  (hW:∀{ss n Pd},W ss n Pd->wb { nx:=λn _=>κ=.sh/\Pd .non n,rt:=Pd } n (ss++Tk (N.length - ps.length) .no)) (hNp:autoParam (ps.length<=N.length) zau1._auto_1) :
  A4 P w K mg base Bw (k+1) f fd ps (CO K κ W ps.length):=dD F S hNp (λ_ _ _ _ _ _ h=>hb h) (λ_ _ _ _ h=>hW h)
section
variable {X:Cx}
theorem cg{m:Nat}(hr:Room m X.A){e:d6}{es:List d6}{k:Nat}{ps:List Str}{κ:Kd}{W:W2}{x:Str}{p pos:Pos}{was:YK}(G:Got X.prog X.w X.K X.mg X.base x k ps κ W)(ha:Z1 X (e::es) was)(hk:autoParam (k<=m) zau1._auto_1)(hg:autoParam (Gl X x) zau3._auto_1)
  (hdb:autoParam ((x==("__debug__":Str))=false) zau1._auto_1) (he:autoParam (starEach (e::es) X.env=(false,eval e X.env)::starEach es X.env) zau3._auto_1) (hpl:autoParam ((backTo pos (starEach es X.env)).any (·.1)=false) zau3._auto_1):DE X (.Call (.Name x p) (e::es) [] pos) κ (AU W was):=V6 G (hr.mono hk) hg ha hdb he hpl
variable {tg iter elt:Expr}{ifs:List Expr}{sc:Scope}{pos:Pos}{b:BW}{tt:Jh}{te:DW}{zR:Kd}{src:GQ}
theorem L1(N':List Str)(js:List (Option Nat))(hi:Zt X tg iter src)(hg:∀{cl C s H fp},DG (BA X sc N' cl C s H fp) tg b)(ht:∀{cl C s H fp},Z0 (BA X sc N' cl C s H fp) ifs tt)(he:∀{cl C s H fp},DE (BA X sc N' cl C s H fp) elt zR te)
  (hB:JU sc X.env.scope X.N N' js=true) (hc:autoParam (X.calm=true) zau3._auto_1) (hk:autoParam (zR≠.tp) zau6._auto_1) (hs:autoParam (∀x,foldedSetIterable iter X.env x=pure x) zau2._auto_1):DE X (.ListComp elt [⟨tg,iter,ifs,0⟩] sc pos) .fr (BS js src b tt te):=Xd hc N' js hi (λ_ _ _ _ _=>hg) (λ_ _ _ _ _=>ht) (λ_ _ _ _ _=>he) hB hk hs
end
end Dp
namespace Nt
open L2 Dp
section
variable {ss:List Slot}{n:Nat}{Pd:D->Nat->Prop}
theorem Ut(h:JF ss n Pd):Hw (EE Pd) n (ss++Tk 4 .no):=by
 obtain⟨N,⟨mp,ts⟩,t,b,ps,d,rfl,okn,l24,⟨eM,ht⟩,tm,hp,⟨sh,nds,ord,rfl,hsh,po,ro,hnd⟩,p⟩:=h;replace eM:mp=N.ps:=eM;subst eM;replace ht:thn N ts:=ht;have okm:=ht.okN okn;have l60:=okn.2.2;have sz:=Uc okm;have m60:ts.length<=60:=okm.2.2;have l30:=hp.1;unfold Hw;refine⟨N,enc ⟨N.ps,ts⟩,rfl,okn.1,l24,l60,(Mv (by decide) _).1 _ (Op _) sz.1,by have:=sz.2.1; omega,by have:=sz.2.2; omega,?_⟩;rw [ht.thinB];refine Bp ⟨_,_,rfl,rfl,?_⟩;refine⟨_,AJ (j:=0) rfl,_,_,rfl,rfl,Kq,_,AJ (j:=1) rfl,_,AJ (j:=1) rfl,_,_,rfl,rfl,Kq,Kq,?_⟩;refine⟨rfl,rfl,_,_,rfl,rfl,DY (λc=>absurd c (by rw [Go,hsh.len]; simp)) λ_=>?_⟩;refine⟨rfl,rfl,_,_,rfl,rfl,DY (λc=>absurd c (by rw [Go,hnd.len,po.length_eq]; simp)) λ_=>?_⟩;refine⟨_,_,rfl,rfl,_,rfl,⟨by omega,by rw [Go]; omega⟩,?_⟩
 have go:∀(k lo:Nat) (s5 s6 s7 s8:Slot) (D2:E2),lo+k=ps.length->(∀s7,D2.nx n [.sh (enc N),.sh (FN t b),.sh (CN ps),.sh (enc ⟨N.ps,ts⟩),.sh (.tup [.tup sh,.tup nds]),s5,s6,s7,s8]) ->
   BF (AR 7) (A2 (A5 (AS (AU EZ (AC (AD (AB 0)) (AC (AD (AB 1)) (AC (AD (AB 3)) (AC (AD (Aa Ar (AB 2) (AB 7))) (AC (AD (Aa Ar (Aa Ar (AB 4) (wC (D.int 0))) (AB 7))) AV)))))))) (Am (BE (AE (wC (D.str "pair")) (AE (AB 7) AY)))) Ap) D2 (Dl (lo:Int) k) n [.sh (enc N),.sh (FN t b),.sh (CN ps),.sh (enc ⟨N.ps,ts⟩),.sh (.tup [.tup sh,.tup nds]),s5,s6,s7,s8]:=by
  intro k
  induction k with
  | zero=>intro lo s5 s6 s7 s8 D2 _ h; exact h _
  | succ k ih =>
   intro lo s5 s6 s7 s8 D2 e h;rw [O2];have e1:ps[lo]?=some ps[lo]:=No (by omega);obtain⟨d,hd,hs⟩:=hsh.at e1;obtain⟨q1,q2⟩:=hp.2 _ (eQ e1);refine⟨_,AJ (v:=pairD ps[lo]) (by rw [dX,e1]; rfl),_,AJ (j:=0) rfl,_,AJ hd,N,_,t,b,ps[lo].1,ps[lo].2,d,rfl,okn,okm,rfl,tm,q1,q2,hs,?_⟩;exact Bp (ih (lo+1) _ _ _ _ D2 (by omega) h)
 rw [Go];refine go ps.length 0 _ _ _ _ _ (jo _) λs7=>?_;refine⟨_,AJ (j:=1) rfl,_,ts,rfl,rfl,by omega,λo2 p2 r2=>?_⟩;have eo:=Fa (p2.trans po.symm) r2 ro;subst eo;have ol:=p2.length_eq;refine⟨_,_,rfl,rfl,_,rfl,⟨by omega,by rw [Go]; omega⟩,?_⟩;rw [show (o2.map Ao).length=o2.length from Go _]
 have go2:∀(k lo:Nat) (s5 s6 s7:Slot),lo+k=o2.length ->
   BF (AR 7) (A2 (A5 (AS (AU F9 (AC (AD (AB 0)) (AC (AD (AB 1)) (AC (AD (AB 2)) (AC (AD (BS [some 8,some 7,none] (A1 (Aa Ar (AB 3) (wC (D.int 1)))) (AR 2) (AS (Aa Jv (AB 2) (Aa Ar (AB 0) (AB 1)))) (AB 2))) (AC (AD (Aa Ar (Aa Ar (AB 4) (wC (D.int 1))) (AB 7))) AV)))))))) (Am (BE (AE (wC (D.str "tie")) (AE (AB 7) AY)))) Ap) { EE Pd with nx:=Am (wC D.non) (EE Pd) } (Dl (lo:Int) k) n [.sh (enc N),.sh (FN t b),.sh (CN ps),.sh (enc ⟨N.ps,ts⟩),.sh (.tup [.tup sh,.tup nds]),s5,s6,s7,.sh (.lst (o2.map Ao))]:=by
  intro k
  induction k with
  | zero=>intro lo s5 s6 s7 _; exact p
  | succ k ih =>
   intro lo s5 s6 s7 e;rw [O2];have e1:o2[lo]?=some o2[lo]:=No (by omega);obtain⟨d,hd,hs⟩:=hnd.at e1;have hu:o2[lo]∈ts:=p2.mem_iff.mp (eQ e1);revert e1 hs hu;generalize o2[lo]=u;intro e1 hs hu;refine⟨_,AJ (j:=1) rfl,by show (ts.map Ao).length<=10000000; rw [Go]; omega,?_⟩;refine C1 (λd=>!Cw d (Ao u)) id (λρ=>∃s,ρ=[.sh (.lst (o2.map Ao)),.sh (.int (lo:Int)),s]) _ _ _ _ ?_ ⟨_,rfl⟩ ?_
   ·rintro d hd ρ m nx sk ⟨s,rfl⟩ h1 h2
    obtain⟨v,hv,rfl⟩:=Rs.mp hd;refine⟨_,AJ (v:=Ao u) (by rw [dX,e1]; rfl),HY okm.1 hv,HY okm.1 hu,?_⟩;exact DY (λc=>h1 _ ⟨_,rfl⟩ c) λc=>h2 _ ⟨_,rfl⟩ (eV.mpr c)
   rw [d8,jE]
   have ef:(ts.map Ao).filter (λd=>!Cw d (Ao u))=(BO ⟨N.ps,ts⟩ u).ts.map Ao:=by
    rw [i6]
    congr 1
    refine jY λv _=>?_;show (!Cw (Ao v) (Ao u))=decide (v≠u);rw [decide_not]
    congr 1
    rw [eU,He,decide_eq_true_eq]
   rw [ef];refine⟨_,AJ (j:=1) rfl,_,AJ hd,N,BO ⟨N.ps,ts⟩ u,t,b,ps,_,d,rfl,rfl,okn,B5 okm u,rfl,tm,hp,hs,?_⟩;exact Bp (ih (lo+1) _ _ _ (by omega))
 exact go2 o2.length 0 _ _ _ (jo _)
end
noncomputable def WS(d:D):Prop:=∃(N:Net) (t b:Int) (ps:Eb) (ord:List BL),d=.tup [enc N,FN t b,CN ps,enc (BJ N t b ps N ord.reverse)]/\okN N/\N.ps.length<=24/\Gm t b/\b<=t/\Il N ps/\ord.Perm N.ts/\E5 ord
theorem Qo:NE { nx:=λ_ _=>False,rt:=λd _=>d=.bl true } 3000 (.no::.fd::Tk 7 .no):=by
 unfold NE;refine⟨dY _,_,rfl,⟨by decide,by decide⟩,?_⟩;refine Mn (λk m ρ=>400*k<=m/\∃acc s3 s4 s5 s6,ρ=[.no,.fd,.ow (.lst acc),s3,s4,s5,s6,.no,.no]/\(∀d∈acc,WS d)/\acc.length+k=2) ?_ ?_ _ _ _ ⟨by rw [DU]; decide,[],_,_,_,_,rfl,nofun,by rw [DU]; rfl⟩
 ·rintro m ρ ⟨_,acc,s3,s4,s5,s6,rfl,ha,hl⟩
  have sl:(acc++Dp.cutD acc none (some 1)).length<=100/\∀d∈acc++Dp.cutD acc none (some 1),WS d:=by
   match acc,hl with
   | [x,y],_=>exact⟨by show 3<=100; decide,λd hd=>by
     have:d∈[x,y,x]:=hd
     simp only [ZB,d9,or_false] at this
     rcases this with rfl | rfl | rfl
     ·exact ha _ Re
     ·exact ha _ (Sc _ Re)
     ·exact ha _ Re⟩
  refine⟨by rw [← dZ]; have:=sl.1; rw [eK]; omega,?_⟩;have hd:=sl.2;revert hd;generalize acc++Dp.cutD acc none (some 1)=L;intro hd;have go:∀(L:List D) (s4 s5 s6 s7 s8:Slot),(∀d∈L,WS d)->BF (Bi 4 (AX (AR 4) (AX (AR 5) (AX (AR 6) (AX (AR 7) BB))))) (Af (A0 8 (AU F8 (AC (AD (AB 4)) (AC (AD (AB 5)) (AC (AD (AB 6)) AV)))))
 (Af (A2 (AS (Aa (C4 true) (AU JF (AC (AD (AB 4)) (AC (AD (AB 5)) (AC (AD (AB 6)) (AC (AD (AB 7)) (AC (AD (AB 8)) AV)))))) (wC D.non))) (Am (wC (D.bl false))) Ap)
 (A2 (AS (Aa (C4 true) (AU Lw (AC (AD (AB 4)) (AC (AD (AB 5)) (AC (AD (AB 6)) (AC (AD (AB 7)) (AC (AD (AB 8)) AV)))))) (wC D.non))) (Am (wC (D.bl false))) Ap))) { ({ nx:=λ_ _=>False,rt:=λd _=>d=.bl true }:E2) with nx:=Am (wC (D.bl true)) { nx:=λ_ _=>False,rt:=λd _=>d=.bl true } } L m [.no,.fd,.ow (.lst acc),s3,s4,s5,s6,s7,s8]:=by
   intro L
   induction L with
   | nil=>intro s4 s5 s6 s7 s8 _; exact rfl
   | cons d L ih =>
    intro s4 s5 s6 s7 s8 hL;obtain⟨N,t,b,ps,ord,rfl,okn,l24,tm,bt,hp,po,ro⟩:=hL d Re;refine⟨rfl,rfl,N,t,b,ps,rfl,okn,tm,bt,hp,λo2 d p2 r2 hpap=>?_⟩;have eo:=Fa (p2.trans po.symm) r2 ro;subst eo;have th:QU N (BJ N t b ps N o2.reverse):=⟨J0,λu hu=>EL u hu,(GD okn).1.trise⟩;exact⟨N,_,t,b,ps,d,rfl,okn,l24,th,tm,hp,hpap,⟨rfl,N,_,t,b,ps,d,rfl,okn,l24,th,tm,hp,hpap,⟨rfl,ih _ _ _ _ _ λx hx=>hL x (Sc _ hx)⟩⟩⟩
  exact go L _ _ _ _ _ hd
 ·rintro k d m ρ nx ⟨hm,acc,s3,s4,s5,s6,rfl,ha,hl⟩ hnx
  refine⟨7,12,rfl,by decide,by decide,by decide,by decide,by omega,λN n1 ok _ a1 b1 hn1=>?_⟩;have okn:okN N:=⟨ok,by omega,by omega⟩;refine⟨rfl,by omega,λt b t0 t1 t2=>?_⟩;refine⟨_,AJ (j:=0) rfl,N.ps,8,rfl,ok.rise,by omega,by decide,by omega,λps n4 hps hpl hn4=>?_⟩;have hp:Il N ps:=⟨by omega,hps⟩;have tm:Gm t b:=⟨t0,by omega,by omega,t2⟩;refine⟨_,rfl,rfl,_,AJ (j:=1) rfl,_,N.ts,rfl,rfl,by omega,λord o1 o2=>⟨1,rfl,rfl,N,t,b,ps,ord.reverse,by rw [jn],okn,tm,hp,λu hu=>o1.mem_iff.mp (ia.mp hu),by show 4<=sizeLine; decide,acc,_,rfl,rfl,by rw [eK]; omega,?_⟩⟩;refine hnx _ _ ⟨by omega,acc++[_],_,_,_,_,rfl,λx hx=>?_,by rw [dZ,eC]; omega⟩
  rcases d7.mp hx with hx | hx
  ·exact ha x hx
  ·rw [TM.mp hx]
   exact⟨N,t,b,ps,ord,rfl,okn,by omega,tm,t1,hp,o1,o2⟩
end Nt
namespace K37
open L2 Dp Nt
section
variable (P:Program)(w:World)(K:Frag)(mg:Str->Option Value)(base:Heap)
noncomputable abbrev E9:Prop:=Got P w K mg base "is_whole" 1 ["thing"] .sh C8
noncomputable abbrev Bx:Prop:=Got P w K mg base "is_tuple_of" 1 ["count","thing"] .sh B8
noncomputable abbrev F3:Prop:=Got P w K mg base "is_rising" 1 ["things"] .sh IK
noncomputable abbrev NI:Prop:=Got P w K mg base "rank_of" 1 ["tie"] .sh Sn
noncomputable abbrev E7:Prop:=Got P w K mg base "order_of" 4 ["ties"] .fr Dg
noncomputable abbrev HC:Prop:=Got P w K mg base "steps_of" 1 ["net"] .sh Oa
noncomputable abbrev RT:Prop:=Got P w K mg base "only" 1 ["net","ties"] .sh Lv
noncomputable abbrev Jc:Prop:=Got P w K mg base "is_tie_of" 2 ["net","thing"] .sh Xn
noncomputable abbrev NJ:Prop:=Got P w K mg base "is_thin" 3 ["net","thing"] .sh Jg
noncomputable abbrev GN:Prop:=Got P w K mg base "without" 2 ["net","ties"] .sh Ce
noncomputable abbrev Jb:Prop:=Got P w K mg base "length_of" 2 ["net","thing"] .sh Xp
noncomputable abbrev Cu:Prop:=Got P w K mg base "length_between" 3 ["net","a","b","thing"] .sh QK
noncomputable abbrev IA:Prop:=Got P w K mg base "nearest_of" 1 ["waiting","found"] .sh Sq
noncomputable abbrev Cd:Prop:=Got P w K mg base "least_ways" 2 ["net","start"] .fr HF
noncomputable abbrev Sl:Prop:=Got P w K mg base "far" 3 ["net","a","b"] .sh Od
noncomputable abbrev Ln:Prop:=Got P w K mg base "way_of" 3 ["net","a","b"] .sh WM
noncomputable abbrev IC:Prop:=Got P w K mg base "are_prices" 2 ["net","thing"] .sh KI
noncomputable abbrev Dw:Prop:=Got P w K mg base "price_gap" 1 ["net","prices","a","b"] .sh UG
noncomputable abbrev JE:Prop:=Got P w K mg base "is_fair" 3 ["net","thing"] .sh QL
noncomputable abbrev EG:Prop:=Got P w K mg base "prices_from" 3 ["net","place","most"] .sh Lu
noncomputable abbrev Dx:Prop:=Got P w K mg base "is_within" 1 ["length","times","number"] .sh Bu
noncomputable abbrev F2:Prop:=Got P w K mg base "least_beyond" 1 ["times","number"] .sh GP
noncomputable abbrev E8:Prop:=Got P w K mg base "lengths_of" 4 ["net","pairs"] .sh GA
noncomputable abbrev E_:Prop:=Got P w K mg base "first_lost" 4 ["times","pairs","lengths","thin"] .sh NL
noncomputable abbrev DA:Prop:=Got P w K mg base "thinned_for_pairs" 5 ["net","times","pairs"] .sh Xo
noncomputable abbrev Lo:Prop:=Got P w K mg base "shown_of" 4 ["net","thin","a","b"] .sh F7
noncomputable abbrev Ja:Prop:=Got P w K mg base "needed_of" 5 ["net","times","pairs","lengths","less"] .sh IL
noncomputable abbrev Gj:Prop:=Got P w K mg base "pairs_paper" 6 ["net","times","pairs"] .sh F8
noncomputable abbrev H_:Prop:=Got P w K mg base "shows_near" 4 ["net","times","pair","thin","thing"] .sh II
noncomputable abbrev NK:Prop:=Got P w K mg base "is_side" 2 ["net","thing"] .sh KH
noncomputable abbrev Gi:Prop:=Got P w K mg base "shows_apart" 3 ["net","pair","side"] .sh GO
noncomputable abbrev Lp:Prop:=Got P w K mg base "is_shown" 5 ["net","times","pair","thin","thing"] .sh Di
noncomputable abbrev Jd:Prop:=Got P w K mg base "is_needed" 4 ["net","times","pairs","less","thing"] .sh Ea
noncomputable abbrev Je:Prop:=Got P w K mg base "has_shape" 2 ["pairs","thin","paper"] .sh IJ
noncomputable abbrev IB:Prop:=Got P w K mg base "lets_pairs" 6 ["net","times","pairs","thin","paper"] .sh KJ
noncomputable abbrev CQ:Prop:=Got P w K mg base "_law_next" 1 ["_law_feed_here","_law_many"] .sh DB
noncomputable abbrev IF:Prop:=Got P w K mg base "_law_names" 2 ["_law_feed_here","_law_many"] .sh IM
noncomputable abbrev Gk:Prop:=Got P w K mg base "_law_length" 2 ["_law_feed_here","_law_way"] .sh Lx
noncomputable abbrev Lq:Prop:=Got P w K mg base "_law_net" 3 ["_law_feed_here","_law_most","_law_ties"] .sh Oc
noncomputable abbrev FA:Prop:=Got P w K mg base "_law_order" 1 ["_law_ties"] .fr Dg
noncomputable abbrev F4:Prop:=Got P w K mg base "_law_lengths" 1 ["_law_ties","_law_place"] .fr Dh
noncomputable abbrev ID:Prop:=Got P w K mg base "_law_times" 2 ["_law_feed_here"] .sh IH
noncomputable abbrev Cz:Prop:=Got P w K mg base "_law_within" 1 ["_law_length_here","_law_times_here","_law_number"] .sh Bu
noncomputable abbrev DF:Prop:=Got P w K mg base "_law_whole" 1 ["_law_thing"] .sh C8
noncomputable abbrev F5:Prop:=Got P w K mg base "_law_is_thin" 2 ["_law_net_here","_law_thing"] .sh Jg
noncomputable abbrev HD:Prop:=Got P w K mg base "_law_led" 1 ["_law_places","_law_ties","_law_thing","_law_a","_law_b"] .sh Ly
noncomputable abbrev Df:Prop:=Got P w K mg base "_law_is_fair" 2 ["_law_places","_law_ties","_law_thing"] .sh F_
noncomputable abbrev HE:Prop:=Got P w K mg base "_law_gap" 1 ["_law_places","_law_prices","_law_a","_law_b"] .sh IP
noncomputable abbrev IE:Prop:=Got P w K mg base "_law_pairs" 2 ["_law_feed_here","_law_places","_law_most"] .sh Ob
noncomputable abbrev IG:Prop:=Got P w K mg base "_law_keeps" 2 ["_law_net_here","_law_times_here","_law_pairs_here","_law_ties"] .sh Lz
noncomputable abbrev Jf:Prop:=Got P w K mg base "_law_stay" 3 ["_law_net_here","_law_times_here","_law_pairs_here","_law_order_here"] .sh Sm
noncomputable abbrev F6:Prop:=Got P w K mg base "_law_is_side" 1 ["_law_net_here","_law_pair","_law_thing"] .sh IN
noncomputable abbrev FK:Prop:=Got P w K mg base "_law_is_shown" 3 ["_law_net_here","_law_times_here","_law_thin","_law_pair","_law_thing"] .sh EZ
noncomputable abbrev EY:Prop:=Got P w K mg base "_law_is_needed" 3 ["_law_net_here","_law_times_here","_law_pairs_here","_law_ties","_law_thing"] .sh F9
noncomputable abbrev Ls:Prop:=Got P w K mg base "_law_due" 4 ["_law_net_here","_law_times_here","_law_pairs_here","_law_thin","_law_paper"] .sh JF
noncomputable abbrev Lr:Prop:=Got P w K mg base "_law_let" 7 ["_law_net_here","_law_times_here","_law_pairs_here","_law_thin","_law_paper"] .sh Lw
end
section
variable {P:Program}{w:World}{K:Frag}{mg:Str->Option Value}{base:Heap}
variable {f:Addr}{fd:FuncData}
theorem Oz:Ad ["thing"] ["thing"] (AO Gv):=by walk_at "s"
theorem PJ(T:Txt K mg)(F:Fu K "is_whole" Gv f fd):A4 P w K mg base Bw 1 f fd ["thing"] (CO K .sh C8 1) :=
 Cv F Oz (λhr=>(AK (AZ (Br (Bc SD (dv 0) rfl T.Gaa rfl T.Gao (by decide +kernel)) (CG (OQ (Bc Pj (dv 0) rfl T.Gaa rfl T.Gan (by decide +kernel)))))))) JJ
theorem Kk:Ad ["count","thing"] ["count","thing"] (AO D7):=by walk_at "s"
theorem LB(T:Txt K mg)(F:Fu K "is_tuple_of" D7 f fd):A4 P w K mg base Bw 1 f fd ["count","thing"] (CO K .sh B8 2) :=
 Cv F Kk (λhr=>(AK (AZ (Br (Bc kit_tuple (dv 1) rfl T.Gaa rfl T.Gab (by decide +kernel)) (CG (BY HS OY (Ab As Bj rfl T.Gac PySem.boot_len (AN (dv 1) AW)) (dv 0) (Ak _))))))) Ky
theorem Nc:Ad ["things"] ["things"] (AO FV):=by walk_at "s"
theorem N4(T:Txt K mg)(F:Fu K "is_rising" FV f fd):A4 P w K mg base Bw 1 f fd ["things"] (CO K .sh IK 1) :=
 Cv F Nc (λhr=>(AK (AZ (Ab (B7 rfl) F1 rfl T.Gae eW (AN (L1 [("ahead":Str),("behind":Str)] [none,none] (XZ rfl T.Gam (AN (dv 0) (AN (SW Wn Si (dv 0) (J9 AG) J_) AW))) (Bb rfl (Ae (AT (i:=0) (show d_ [("ahead":Str),("behind":Str)] by decide +kernel) rfl (TW rfl)) (Ae (AT (i:=1) (show d_ [("ahead":Str),("behind":Str)] by decide +kernel) rfl (TW rfl)) BI))) BR (BY (D_ hr) Gh (dv 0) (dv 1) (Ak _)) (by kernel_rfl)) AW))))) Np
theorem Qa:Ad ["tie"] ["tie"] (AO Ic):=by walk_at "s"
theorem Qz(T:Txt K mg)(F:Fu K "rank_of" Ic f fd):A4 P w K mg base Bw 1 f fd ["tie"] (CO K .sh Sn 1) :=
 Cv F Qa (λhr=>(AK (AZ (Ay (AF (AQ AL Ah (dv 0) AG) (AF (AQ AL Ah (dv 0) AG) (AF (AQ AL Ah (dv 0) AG) Ac))))))) Qj
theorem Oy:Ad ["ties"] ["ties"] (AO Gu):=by walk_at "s"
theorem PH(T:Txt K mg)(kQ:NI P w K mg base)(F:Fu K "order_of" Gu f fd):A4 P w K mg base Bw 4 f fd ["ties"] (CO K .fr Dg 1) :=
 Cv F Oy (λhr=>(AK (AZ (V3 kQ (hr.mono (by decide)) rfl T.Gad rfl (dv 0))))) O4
theorem kR:Ad ["net","steps","place","a","b","length"] ["net"] (AO Gr):=⟨rfl,rfl,rfl,by decide +kernel,rfl,by decide +kernel,by decide +kernel⟩
theorem PD{f:Ch}{fd:eY}(F:Fun K "steps_of" "steps_of" Gr f fd):A4 P w K mg base Bw 1 f fd ["net"] (CO K .sh Oa 1):=by
 refine F.ok (k:=0) kR (λvs H Q E h=>h.1) (λcdv A outer s H vs Q E hr h=>?_);obtain⟨hl,F0,U,V',M,n,ss,Pd,ra,⟨N,rfl,ok,lp,lt,p⟩,q⟩:=h;obtain⟨dom,fU,uV,vM,fd0,pa⟩:=ra;cases pa with
 | cons r1 pa =>
 cases pa;obtain⟨v,e1,h1⟩:=r1.1;cases e1;obtain⟨an,vs,rfl,hn,v1,r,rfl,hp,v2,r2,rfl,ht,e2⟩:=h1;cases (show r2=[] from e2);obtain⟨ap,us,rfl,hpn,hps⟩:=hp;obtain⟨at_,ws,rfl,htn,hts⟩:=ht;have nd:=kR.nd;have hu:=Hc hr;have szl:=PySem.sizeLine_eq;have lus:us.length=N.ps.length:=by rw [hps.length,Go]
 have lws:ws.length=N.ts.length:=by rw [hts.length,Go]
 refine⟨_,BV (Fb (i:=1) nd rfl (TW rfl) PC)
  (BV (Nu di rfl (VD (FE ix_tup (pv 0) A9 (λ_ _=>rfl))) (HM (i:=2) nd rfl (TW rfl)) (Dr (HK hu (pv 1) (pv 2) PC rfl)))
  (BV (Nu di rfl (VD (FE ix_tup (pv 0) A9 (λ_ _=>rfl))) (VF rfl (HL (HM (i:=3) nd rfl (TW rfl)) (HL (HM (i:=4) nd rfl (TW rfl)) (HL (HM (i:=5) nd rfl (TW rfl)) Ry))))
   (BV (HK hu (J4 hu (pv 1) (pv 3) (λ_ _=>rfl)) (pv 4) (pv 5) rfl) (Dr (HK hu (J4 hu (pv 1) (pv 4) (λ_ _=>rfl)) (pv 3) (pv 5) rfl))))
  (Dr (G2 (Y3 (pv 1)))))),?_⟩
 refine λd hd=>?_;have old0:∀b o,H b=some o->BD H d (.dK []) b=some o:=λb o e=>by rw [Ag (A3 e hd)]; exact e
 have SqN:∀H':Hp,(∀b o,H b=some o->H' b=some o)->SqT K H' an [.ref ap,.ref at_]:=λH' o=>SqT.of (o _ _ hn);have SqP:∀H':Hp,(∀b o,H b=some o->H' b=some o)->SqT K H' ap us:=λH' o=>SqT.of (o _ _ hpn);have SqW:∀H':Hp,(∀b o,H b=some o->H' b=some o)->SqT K H' at_ ws:=λH' o=>SqT.of (o _ _ htn);refine⟨_,rfl,an,_,0,_,rfl,rfl,SqN _ old0,rfl,ap,rfl,⟨_,SqP _ old0⟩,?_⟩;refine SJ (xs:=us) (λi Z H'=>∃(as:List (Str×Ch)) (x2 x3 x4 x5:Option V),Z=[some (.ref an),some (.ref d),x2,x3,x4,x5]/\as.map (·.1)=N.ps.take i/\Stp H d as (λ_=>[]) H') ?_ (λi Z H' hi ⟨as,x2,x3,x4,x5,e,hm,st⟩=>SqP _ st.old) ?_ ?_
 ·exact⟨[],_,_,_,_,rfl,rfl,old0,hd,Al,(λx hx=>by cases hx),fJ,fJ⟩
 ·rintro i x Z H' hx ⟨as,x2,x3,x4,x5,rfl,hm,st⟩
  have hi:i<N.ps.length:=by rw [← lus]; exact(Uf.mp hx).1
  obtain⟨x',hx',hAt⟩:=hps.get (i:=i) (d:=.str N.ps[i]) (by rw [dX,No hi]; rfl);rw [hx] at hx';cases hx';obtain⟨rfl,_⟩:=hAt;intro q hq;have las:as.length<=i:=by have:=congrArg iR hm; rw [Go,g_] at this; omega
  have nq:d≠q:=λe=>by rw [← e,st.top] at hq; cases hq
  have las2:(as.map λx=>((.inr x.1:Key),V.ref x.2)).length=as.length:=Go ..;refine⟨_,rfl,_,rfl,d,_,rfl,DPut.k (k:=.inr N.ps[i]) (by rw [Ag nq]; exact st.top) (by omega),?_⟩;refine⟨as++[(N.ps[i],q)],_,_,_,_,rfl,?_,st.more hq ?_ rfl⟩
  ·rw [fR,hm,List.take_succ,No hi]; rfl
  ·rw [hm]; exact Q3 (Ng ok.rise) hi
 ·rintro Z H' ⟨as,x2,x3,x4,x5,rfl,hm,st⟩
  rw [lus,iY] at hm;refine⟨_,rfl,an,_,1,_,rfl,rfl,SqN _ st.old,rfl,at_,rfl,⟨_,SqW _ st.old⟩,?_⟩;refine SJ (xs:=ws) (λi Z H'=>∃(x2 x3 x4 x5:Option V),Z=[some (.ref an),some (.ref d),x2,x3,x4,x5]/\Stp H d as (λp=>(EN (N.ts.take i) p).map kv) H') ⟨_,_,_,_,rfl,st⟩ (λi Z H' hi ⟨x2,x3,x4,x5,e,st⟩=>SqW _ st.old) ?_ ?_
  ·rintro i x Z H' hx ⟨x2,x3,x4,x5,rfl,st⟩
   have hi:i<N.ts.length:=by rw [← lws]; exact(Uf.mp hx).1
   obtain⟨x',hx',hAt⟩:=hts.get (i:=i) (d:=Ao N.ts[i]) (by rw [dX,No hi]; rfl);rw [hx] at hx';cases hx';have hmem:N.ts[i]∈N.ts:=fW hi;have hsnoc:N.ts.take (i+1)=N.ts.take i++[N.ts[i]]:=by rw [List.take_succ,No hi]; rfl
   have hpre:(N.ts.take (i+1)).Pairwise Bt:=ok.trise.sublist (List.take_sublist _ _);have hlt2:∀s∈N.ts.take (i+1),cs s.a<cs s.b:=λs hs=>(ok.tin s (List.mem_of_mem_take hs)).2.2.1;rw [hsnoc] at hpre hlt2;have new:=Vu hpre hlt2;have ltk:(N.ts.take i).length<=1000:=by rw [g_]; omega
   generalize N.ts[i]=t at hAt hmem hsnoc new;generalize N.ts.take i=ts at hsnoc new st ltk;obtain⟨m1,m2,m3,_⟩:=ok.tin t hmem;have hab:t.a≠t.b:=λe=>by rw [e] at m3; exact g8 _ m3
   obtain⟨ta,tb,tl⟩:=t;obtain⟨tt,us3,rfl,htt,hit⟩:=hAt;obtain⟨va,r3,rfl,⟨rfl,_⟩,vb,r4,rfl,⟨rfl,_⟩,vl,r5,rfl,rfl,e5⟩:=hit;cases (show r5=[] from e5);rw [← hm] at m1 m2;obtain⟨⟨xa,pa⟩,ha,ea⟩:=Rs.mp m1;obtain⟨⟨xb,pb⟩,hb,eb⟩:=Rs.mp m2;have ea':ta=xa:=ea.symm;have eb':tb=xb:=eb.symm;subst ea' eb';clear ea eb;replace hab:ta≠tb:=hab;replace new:tb∉(EN ts ta).map (·.1)/\ta∉(EN ts tb).map (·.1):=new;have ga:=DGet.k (k:=.inr ta) st.top;rw [Jx st.nms ha] at ga;have l1:=R8 ts ta;refine⟨tt,_,rfl,SqT.of (st.old _ _ htt),rfl,_,_,rfl,_,_,rfl,_,_,rfl,rfl,?_⟩;refine⟨_,rfl,_,rfl,_,rfl,d,_,rfl,ga,_,rfl,pa,_,rfl,DPut.k (k:=.inr tb) (st.inn _ ha).2.2 (by show ((EN ts ta).map kv).length<sizeLine; rw [Go]; omega),?_⟩;have st1:=st.put (tb2:=λp=>(EN ts p++if ta=p then [(tb,tl)] else []).map kv) ha (kvs:=putK ((EN ts ta).map kv) (.inr tb) (.int tl)) (by rw [Rt new.1,if_pos rfl]) (λq hq=>by rw [if_neg (fF hq),eO]);have gb:=DGet.k (k:=.inr tb) st1.top;rw [Jx st1.nms hb] at gb;have l2:=R8 ts tb;have ib:=(st1.inn _ hb).2.2;simp only [if_neg hab,eO] at ib;refine⟨_,rfl,_,rfl,_,rfl,d,_,rfl,gb,_,rfl,pb,_,rfl,DPut.k (k:=.inr ta) ib (by rw [Go]; omega),?_⟩;refine⟨_,_,_,_,rfl,st1.put hb ?_ λq hq=>?_⟩
   ·show (EN (N.ts.take (i+1)) tb).map kv=_
    rw [hsnoc,PU,Rt new.2];show ((EN ts tb++((if ta=tb then [(tb,tl)] else [])++if tb=tb then [(ta,tl)] else [])).map kv)=_;rw [if_neg hab,if_pos rfl]; rfl
   ·show (EN (N.ts.take (i+1)) q).map kv=_
    rw [hsnoc,PU];show ((EN ts q++((if ta=q then [(tb,tl)] else [])++if tb=q then [(ta,tl)] else [])).map kv)=_;rw [if_neg (fF hq),eO]
  ·rintro Z H' ⟨x2,x3,x4,x5,rfl,st⟩
   rw [lws,iY] at st
   have old:∀(f:Ch->Obj) b o,H b=some o->G7 H' (as.map (·.2)) f b=some o:=λf b o e=>by
    rw [EQ (λhm=>by obtain⟨x,hx,e2⟩:=Rs.mp hm; have:=(st.inn x hx).1; rw [e2,e] at this; cases this)];exact st.old b o e
   refine⟨_,rfl,(as.map fun(x:Str×Ch)=>x.2),λb hb=>?_,λf=>q (.ref d) (G7 H' (as.map fun(x:Str×Ch)=>x.2) f) (FP N) n (λb o e=>⟨o,old f b o e,λ_=>rfl,λ_ _=>rfl⟩) (λg hg=>?_) (show At K M (G7 H' (as.map fun(x:Str×Ch)=>x.2) f) (FP N) (.ref d) from st.at_ dom hm f) p⟩
   ·obtain⟨x,hx,rfl⟩:=Rs.mp hb
    exact⟨_,(st.inn x hx).2.2⟩
   ·obtain⟨a,r,cells,hf,hcf,hc,rest⟩:=fd0 g hg
    exact⟨a,r,cells,old f _ _ hf,hcf,⟨hc.1,old f _ _ hc.2⟩,rest⟩
theorem Wp:Ad ["net","ties"] ["net","ties"] (AO Qe):=by walk_at "s"
theorem W6(T:Txt K mg)(F:Fu K "only" Qe f fd):A4 P w K mg base Bw 1 f fd ["net","ties"] (CO K .sh Lv 2) :=
 Cv F Wp (λhr=>(AK (AZ (Ay (AF (AQ AL Ah (dv 0) AG) (AF (Bq BM Cb rfl T.Gab gZ (AN (Ab DZ Hy rfl T.Gad gf (AN (J8 1) AW)) AW)) Ac)))))) TB
theorem Nb:Ad ["net","thing"] ["net","thing"] (AO FU):=by walk_at "s"
theorem N3(T:Txt K mg)(kT:E9 P w K mg base)(F:Fu K "is_tie_of" FU f fd):A4 P w K mg base Bw 2 f fd ["net","thing"] (CO K .sh Xn 2) :=
 Cv F Nb (λhr=>(AK (AZ (Br (BY (EA hr) Dv (dv 1) (AQ AL Ah (dv 0) AG) (by with_unfolding_all rfl)) (CG (cg hr kT (AA (AI (AQ AL Ah (dv 1) AG)) AM))))))) Nn
theorem Qb:Ad ["net","thing"] ["net","thing"] (AO Ie):=by walk_at "s"
theorem Q0(T:Txt K mg)(kU:F3 P w K mg base)(kW:Jc P w K mg base)(kX:Bx P w K mg base)(F:Fu K "is_thin" Ie f fd):A4 P w K mg base Bw 3 f fd ["net","thing"] (CO K .sh Jg 2) :=
 Cv F Qb (λhr=>(AH (Az (DTW.dt (BK (Ax (Au (cg hr kX (AA (AI AG) (AA (AI (dv 1)) AM))))) (BQ (Ax (Au (Bc kit_tuple (AQ AL Ah (dv 1) AG) rfl T.Gaa rfl T.Gab (by decide +kernel))))))) (AK (AZ Bg)) Aj)
 (AK (AZ (Br (BY (Qv hr) WJ (AQ AL Ah (dv 1) AG) (AQ AL Ah (dv 0) AG) (Ak _)) (Br (Ab (B7 rfl) F1 rfl T.Gae eW (AN (L1 [("net":Str),("tie":Str)] [some 0,none] (BH (AQ AL Ah (dv 1) AG)) (AT (i:=1) (show d_ [("net":Str),("tie":Str)] by decide +kernel) rfl (TW rfl)) BR (cg hr kW (AA (AI (dv 0)) (AA (AI (dv 1)) AM))) (by kernel_rfl)) AW)) (CG (cg hr kU (AA (AI (AQ AL Ah (dv 1) AG)) AM))))))))) Qp
theorem QZ:Ad ["net","ties"] ["net","ties"] (AO Ib):=by walk_at "s"
theorem Qy(T:Txt K mg)(kY:RT P w K mg base)(F:Fu K "without" Ib f fd):A4 P w K mg base Bw 2 f fd ["net","ties"] (CO K .sh Ce 2) :=
 Cv F QZ (λhr=>(AK (AZ (cg hr kY (AA (AI (dv 0)) (AA (M9 (L1 [("ties":Str),("tie":Str)] [some 1,none] (BH (AQ AL Ah (dv 0) AG)) (AT (i:=1) (show d_ [("ties":Str),("tie":Str)] by decide +kernel) rfl (TW rfl)) (GK (An (GG hr) Dv (dv 1) (dv 0) (by with_unfolding_all rfl))) (dv 1) (by kernel_rfl))) AM)))))) Ni
theorem kZ:Ad ["net","thing","steps","length","here","there"] ["net","thing"] (AO FS):=by walk_at "s"
theorem N1(T:Txt K mg)(kc:HC P w K mg base)(F:Fu K "length_of" FS f fd):A4 P w K mg base Bw 2 f fd ["net","thing"] (CO K .sh Xp 2) :=
 Cv F kZ (λhr=>(AH (Az (DTW.dt (BK (Ax (Au (Bc kit_tuple (dv 1) rfl T.Gaa rfl T.Gab (by decide +kernel)))) (BQ (An HS OY (Ab As Bj rfl T.Gac PySem.boot_len (AN (dv 1) AW)) AG (Ak _))))) (AK (AZ BG)) Aj)
 (AH (Az (Ax (Au (Ab (B7 rfl) F1 rfl T.Gae eW (AN (L1 [("place":Str)] [none] (BH (dv 1)) (AT (i:=0) (show d_ [("place":Str)] by decide +kernel) rfl (TW rfl)) BR (Bc J6 (dv 0) rfl T.Gaa rfl T.Gaj (by decide +kernel)) (by kernel_rfl)) AW)))) (AK (AZ BG)) Aj)
 (AH (Aq (i:=2) kZ.nd rfl (TW rfl) (cg hr kc (AA (AI (dv 0)) AM)))
 (AH (Az (An (EM hr) Hz (AQ AL Ah (dv 1) AG) (dv 2) (by with_unfolding_all rfl)) (AK (AZ BG)) Aj)
 (AH (Aq (i:=3) kZ.nd rfl (TW rfl) AG)
 (AH (Ba di rfl (V1 rfl T.Gam (AF (dv 1) (AF (SW Wn Si (dv 1) (J9 AG) J_) Ac))) (Bb rfl (Ae (AT (i:=4) kZ.nd rfl (TW rfl)) (Ae (AT (i:=5) kZ.nd rfl (TW rfl)) BI))) (AH (Az (An (EM hr) Hz (dv 5) (CL hr (dv 2) (dv 4)) (by with_unfolding_all rfl)) (AK (AZ BG)) Aj)
 (AK (XY (i:=3) kZ.nd rfl (TW rfl) (CL hr (CL hr (dv 2) (dv 4)) (dv 5))))))
 (AK (AZ (dv 3)))))))))) Nj
theorem kd:Ad ["net","a","b","thing","length"] ["net","a","b","thing"] (AO Ck):=by walk_at "s"
theorem HU(T:Txt K mg)(ke:Jb P w K mg base)(F:Fu K "length_between" Ck f fd):A4 P w K mg base Bw 3 f fd ["net","a","b","thing"] (CO K .sh QK 4) :=
 Cv F kd (λhr=>(AH (Aq (i:=4) kd.nd rfl (TW rfl) (cg hr ke (AA (AI (dv 0)) (AA (AI (dv 3)) AM))))
 (AH (Az (DTW.dt (BK (An G3 Lm (dv 4) BG (Ak _)) (BK (An GX MX (AQ AL Ah (dv 3) AG) (dv 1) (Ak _)) (BQ (An GX MX (AQ AL Ah (dv 3) (RF AG)) (dv 2) (Ak _)))))) (AK (AZ BG)) Aj)
 (AK (AZ (dv 4)))))) GR
theorem L6:Ad ["waiting","found"] ["waiting","found"] (AO Eh):=by walk_at "s"
theorem MF(T:Txt K mg)(F:Fu K "nearest_of" Eh f fd):A4 P w K mg base Bw 1 f fd ["waiting","found"] (CO K .sh Sq 2) :=
 Cv F L6 (λhr=>(AK (AZ (AQ AL Ah (Ab (T_ hr) Zi rfl T.Gai boot_min (AN (L1 [("found":Str),("place":Str)] [some 1,none] (BH (J8 0)) (AT (i:=1) (show d_ [("found":Str),("place":Str)] by decide +kernel) rfl (TW rfl)) BR (Ay (AF (AQ AL Ah (CL hr (J8 0) (dv 1)) AG) (AF (dv 1) Ac))) (by kernel_rfl)) AW)) AG)))) MA
theorem kg:Ad ["net","start","steps","found","waiting","place","other","step","length"] ["net","start"] (AO Ek):=by walk_at "s"
theorem MI(T:Txt K mg)(kh:IA P w K mg base)(kc:HC P w K mg base)(F:Fu K "least_ways" Ek f fd):A4 P w K mg base Bw 2 f fd ["net","start"] (CO K .fr HF 2) :=
 Cv F kg (λhr=>(AH (Aq (i:=2) kg.nd rfl (TW rfl) (cg hr kc (AA (AI (dv 0)) AM)))
 (AH (Cy (i:=3) kg.nd rfl (TW rfl) (P0 (dv 1) (Ay (AF AG (AF BG Ac)))))
 (AH (Cy (i:=4) kg.nd rfl (TW rfl) (B6 (AF (dv 1) Ac)))
 (AH (LY di (ZV (J8 4)) (AH (Aq (i:=5) kg.nd rfl (TW rfl) (cg hr kh (AA (M9 (J8 4)) (AA (M9 (J8 3)) AM))))
 (AH (LZ 4 PySem.F.plainAttrs_list PySem.F.slot_list_remove PySem.F.type_list_remove (Tg hr) bD (pv 4) (AF (dv 5) Ac))
 (AK (Ba di rfl (V2 (CL hr (dv 2) (dv 5))) (Bb rfl (Ae (AT (i:=6) kg.nd rfl (TW rfl)) (Ae (AT (i:=7) kg.nd rfl (TW rfl)) BI))) (AH (Aq (i:=8) kg.nd rfl (TW rfl) (BU Bz Cc (AQ AL Ah (CL hr (J8 3) (dv 5)) AG) (dv 7)))
 (AK (Az (An (EM hr) Hz (dv 6) (J8 3) (by with_unfolding_all rfl)) (AH (LZ 4 PySem.F.plainAttrs_list PySem.F.slot_list_append PySem.F.type_list_append DJ QJ (pv 4) (AF (dv 6) Ac))
 (AK (OM (i:=3) hr (pv 3) (dv 6) (Ay (AF (dv 8) (AF (dv 5) Ac)))))) (AK (Az (An (D_ hr) Gh (dv 8) (AQ AL Ah (CL hr (J8 3) (dv 6)) AG) (Ak _)) (AK (OM (i:=3) hr (pv 3) (dv 6) (Ay (AF (dv 8) (AF (dv 5) Ac))))) Aj))))))))))
 (AK (SS 3 (pv 3)))))))) MB
theorem ki:Ad ["net","a","b","found"] ["net","a","b"] (AO Uj):=by walk_at "s"
theorem Y9(T:Txt K mg)(kj:Cd P w K mg base)(F:Fu K "far" Uj f fd):A4 P w K mg base Bw 3 f fd ["net","a","b"] (CO K .sh Od 3) :=
 Cv F ki (λhr=>(AH (Aq (i:=3) ki.nd rfl (TW rfl) (cg hr kj (AA (AI (dv 0)) (AA (AI (dv 1)) AM))))
 (AK (AZ (YE (An (Qw hr) WK (dv 2) (dv 3) (by with_unfolding_all rfl)) (AQ AL Ah (CL hr (dv 3) (dv 2)) AG) BG))))) Ym
theorem kn:Ad ["net","a","b","found","way","place"] ["net","a","b"] (AO Ko):=by walk_at "s"
theorem TZ(T:Txt K mg)(kj:Cd P w K mg base)(F:Fu K "way_of" Ko f fd):A4 P w K mg base Bw 3 f fd ["net","a","b"] (CO K .sh WM 3) :=
 Cv F kn (λhr=>(AH (Aq (i:=3) kn.nd rfl (TW rfl) (cg hr kj (AA (AI (dv 0)) (AA (AI (dv 1)) AM))))
 (AH (Az (An (EM hr) Hz (dv 2) (dv 3) (by with_unfolding_all rfl)) (AK (AZ BG)) Aj)
 (AH (Cy (i:=4) kn.nd rfl (TW rfl) (B6 Ac))
 (AH (Aq (i:=5) kn.nd rfl (TW rfl) (dv 2))
 (AH (LY di (An Ew HA (dv 5) BG (Ak _)) (AH (LZ 4 PySem.F.plainAttrs_list PySem.F.slot_list_append PySem.F.type_list_append DJ QJ (pv 4) (AF (dv 5) Ac))
 (AK (Aq (i:=5) kn.nd rfl (TW rfl) (AQ AL Ah (CL hr (dv 3) (dv 5)) AG)))))
 (AK (AZ (T6 rfl (J8 4) rfl T.Gab rfl T.Gah))))))))) S9
theorem L8:Ad ["net","thing"] ["net","thing"] (AO Em):=by walk_at "s"
theorem MK(T:Txt K mg)(kX:Bx P w K mg base)(kT:E9 P w K mg base)(F:Fu K "are_prices" Em f fd):A4 P w K mg base Bw 2 f fd ["net","thing"] (CO K .sh KI 2) :=
 Cv F L8 (λhr=>(AK (AZ (Br (cg hr kX (AA (AI (Ab As Bj rfl T.Gac PySem.boot_len (AN (AQ AL Ah (dv 0) AG) AW))) (AA (AI (dv 1)) AM))) (CG (Ab (B7 rfl) F1 rfl T.Gae eW (AN (L1 [("price":Str)] [none] (BH (dv 1)) (AT (i:=0) (show d_ [("price":Str)] by decide +kernel) rfl (TW rfl)) BR (Br (cg hr kT (AA (AI (dv 0)) AM)) (CG (BY VN YI (dv 0) AG (Ak _)))) (by kernel_rfl)) AW))))))) Kz
theorem NZ:Ad ["net","prices","a","b"] ["net","prices","a","b"] (AO FQ):=by walk_at "s"
theorem Nz(T:Txt K mg)(F:Fu K "price_gap" FQ f fd):A4 P w K mg base Bw 1 f fd ["net","prices","a","b"] (CO K .sh UG 4) :=
 Cv F NZ (λhr=>(AK (AZ (Ab Lh WL rfl T.Gal boot_abs (AN (BU Eu G_ (AQ AL Ah (dv 1) (JB hr (AQ AL Ah (dv 0) AG) (AN (dv 2) AW))) (AQ AL Ah (dv 1) (JB hr (AQ AL Ah (dv 0) AG) (AN (dv 3) AW)))) AW))))) L_
theorem Qd:Ad ["net","thing"] ["net","thing"] (AO Ih):=by walk_at "s"
theorem Q2(T:Txt K mg)(ko:IC P w K mg base)(kq:Dw P w K mg base)(F:Fu K "is_fair" Ih f fd):A4 P w K mg base Bw 3 f fd ["net","thing"] (CO K .sh QL 2) :=
 Cv F Qd (λhr=>(AH (Az (Ax (Au (cg hr ko (AA (AI (dv 0)) (AA (AI (dv 1)) AM))))) (AK (AZ Bg)) Aj)
 (AK (AZ (Ab (B7 rfl) F1 rfl T.Gae eW (AN (L1 [("net":Str),("thing":Str),("a":Str),("b":Str),("length":Str)] [some 0,some 1,none,none,none] (BH (AQ AL Ah (dv 0) AG)) (Bb rfl (Ae (AT (i:=2) (show d_ [("net":Str),("thing":Str),("a":Str),("b":Str),("length":Str)] by decide +kernel) rfl (TW rfl)) (Ae (AT (i:=3) (show d_ [("net":Str),("thing":Str),("a":Str),("b":Str),("length":Str)] by decide +kernel) rfl (TW rfl)) (Ae (AT (i:=4) (show d_ [("net":Str),("thing":Str),("a":Str),("b":Str),("length":Str)] by decide +kernel) rfl (TW rfl)) BI)))) BR (BY K8 QI (cg hr kq (AA (AI (dv 0)) (AA (AI (dv 1)) (AA (AI (dv 2)) (AA (AI (dv 3)) AM))))) (dv 4) (Ak _)) (by kernel_rfl)) AW)))))) O7
theorem kr:Ad ["net","place","most","found"] ["net","place","most"] (AO D5):=by walk_at "s"
theorem K_(T:Txt K mg)(kj:Cd P w K mg base)(F:Fu K "prices_from" D5 f fd):A4 P w K mg base Bw 3 f fd ["net","place","most"] (CO K .sh Lu 3) :=
 Cv F kr (λhr=>(AH (Aq (i:=3) kr.nd rfl (fe rfl) (cg hr kj (AA (AI (dv 0)) (AA (AI (dv 1)) AM))))
 (AK (AZ (Bq BM Cb rfl T.Gab gZ (AN (L1 [("most":Str),("found":Str),("other":Str)] [some 2,some 3,none] (BH (AQ AL Ah (dv 0) AG)) (AT (i:=2) (show d_ [("most":Str),("found":Str),("other":Str)] by decide +kernel) rfl (TW rfl)) BR (YE (An (Qw hr) WK (dv 2) (dv 1) (by with_unfolding_all rfl)) (Ab (JD rfl) RS rfl T.Gai boot_min (AN (dv 0) (AN (AQ AL Ah (CL hr (dv 1) (dv 2)) AG) AW))) (dv 0)) (by kernel_rfl)) AW)))))) Jk
theorem Na:Ad ["length","times","number"] ["length","times","number"] (AO FT):=by walk_at "s"
theorem N2(T:Txt K mg)(F:Fu K "is_within" FT f fd):A4 P w K mg base Bw 1 f fd ["length","times","number"] (CO K .sh Bu 3) :=
 Cv F Na (λhr=>(AK (AZ (BY K8 QI (BU HQ Ll (dv 0) (AQ AL Ah (dv 1) AG)) (BU HQ Ll (dv 2) (AQ AL Ah (dv 1) AG)) (Ak _))))) Nm
theorem Ji:Ad ["times","number"] ["times","number"] (AO DM):=by walk_at "s"
theorem Jp(T:Txt K mg)(F:Fu K "least_beyond" DM f fd):A4 P w K mg base Bw 1 f fd ["times","number"] (CO K .sh GP 2) :=
 Cv F Ji (λhr=>(AK (AZ (BU Bz Cc (BU HR HB (BU HQ Ll (dv 1) (AQ AL Ah (dv 0) AG)) (AQ AL Ah (dv 0) AG)) AG)))) O8
theorem L7:Ad ["net","pairs"] ["net","pairs"] (AO Ej):=by walk_at "s"
theorem MH(T:Txt K mg)(ku:Sl P w K mg base)(F:Fu K "lengths_of" Ej f fd):A4 P w K mg base Bw 4 f fd ["net","pairs"] (CO K .sh GA 2) :=
 Cv F L7 (λhr=>(AK (AZ (DE.sh (L1 [("net":Str),("a":Str),("b":Str)] [some 0,none,none] (BH (dv 1)) (Bb rfl (Ae (AT (i:=1) (show d_ [("net":Str),("a":Str),("b":Str)] by decide +kernel) rfl (TW rfl)) (Ae (AT (i:=2) (show d_ [("net":Str),("a":Str),("b":Str)] by decide +kernel) rfl (TW rfl)) BI))) BR (cg hr ku (AA (AI (dv 0)) (AA (AI (dv 1)) (AA (AI (dv 2)) AM)))) (by kernel_rfl)))))) Jl
theorem kz:Ad ["times","pairs","lengths","thin","number","length","by_thin"] ["times","pairs","lengths","thin"] (AO El):=by walk_at "s"
theorem MJ(T:Txt K mg)(ku:Sl P w K mg base)(k6:Dx P w K mg base)(F:Fu K "first_lost" El f fd):A4 P w K mg base Bw 4 f fd ["times","pairs","lengths","thin"] (CO K .sh NL 4) :=
 Cv F kz (λhr=>(AH (Ba di rfl (OO rfl T.Gag (dv 2)) (Bb rfl (Ae (AT (i:=4) kz.nd rfl (TW rfl)) (Ae (AT (i:=5) kz.nd rfl (TW rfl)) BI))) (AK (Az (An Ew HA (dv 5) BG (Ak _)) (AH (Aq (i:=6) kz.nd rfl (TW rfl) (cg hr ku (AA (AI (dv 3)) (AA (AI (AQ AL Ah (AQ AL Ah (dv 1) (dv 4)) AG)) (AA (AI (AQ AL Ah (AQ AL Ah (dv 1) (dv 4)) AG)) AM)))))
 (AK (Az (DTW.dt (BK (An G3 Lm (dv 6) BG (Ak _)) (BQ (Ax (Au (cg hr k6 (AA (AI (dv 6)) (AA (AI (dv 0)) (AA (AI (dv 5)) AM))))))))) (AK (AZ (dv 4))) Aj))) Aj)))
 (AK (AZ BG)))) Jo
theorem k7:Ad ["net","times","pairs","lengths","thin","tie","less"] ["net","times","pairs"] (AO CD):=by walk_at "s"
theorem Fe(T:Txt K mg)(k8:E_ P w K mg base)(k9:E8 P w K mg base)(kY:RT P w K mg base)(k_:E7 P w K mg base)(lA:GN P w K mg base)(F:Fu K "thinned_for_pairs" CD f fd):A4 P w K mg base Bw 5 f fd ["net","times","pairs"] (CO K .sh Xo 3) :=
 Cv F k7 (λhr=>(AH (Aq (i:=3) k7.nd rfl (TW rfl) (cg hr k9 (AA (AI (dv 0)) (AA (AI (dv 2)) AM))))
 (AH (Aq (i:=4) k7.nd rfl (TW rfl) (cg hr kY (AA (AI (dv 0)) (AA (M9 (AQ AL Ah (dv 0) AG)) AM))))
 (AH (Ba di rfl (ZW rfl T.Gah (cg hr k_ (AA (AI (AQ AL Ah (dv 0) AG)) AM))) (AT (i:=5) k7.nd rfl (TW rfl)) (AH (Aq (i:=6) k7.nd rfl (TW rfl) (cg hr lA (AA (AI (dv 4)) (AA (AI (B6 (AF (dv 5) Ac))) AM))))
 (AK (Az (An G3 Lm (cg hr k8 (AA (AI (dv 1)) (AA (AI (dv 2)) (AA (AI (dv 3)) (AA (AI (dv 6)) AM))))) BG (Ak _)) (AK (Aq (i:=4) k7.nd rfl (TW rfl) (dv 6))) Aj))))
 (AK (AZ (dv 4))))))) Uq
theorem lB:Ad ["net","thin","a","b","length"] ["net","thin","a","b"] (AO Gs):=by walk_at "s"
theorem PF(T:Txt K mg)(ku:Sl P w K mg base)(kj:Cd P w K mg base)(lC:EG P w K mg base)(lD:Ln P w K mg base)(F:Fu K "shown_of" Gs f fd):A4 P w K mg base Bw 4 f fd ["net","thin","a","b"] (CO K .sh F7 4) :=
 Cv F lB (λhr=>(AH (Aq (i:=4) lB.nd rfl (TW rfl) (cg hr ku (AA (AI (dv 0)) (AA (AI (dv 2)) (AA (AI (dv 3)) AM)))))
 (AH (Az (An G3 Lm (dv 4) BG (Ak _)) (AK (AZ (Ay (AF A6 (AF (Bq BM Cb rfl T.Gab gZ (AN (Ab (RK rfl) Xm rfl T.Gad gf (AN (cg hr kj (AA (AI (dv 0)) (AA (AI (dv 2)) AM))) AW)) AW)) Ac))))) Aj)
 (AK (AZ (Ay (AF A6 (AF (cg hr lD (AA (AI (dv 1)) (AA (AI (dv 2)) (AA (AI (dv 3)) AM)))) (AF (cg hr lC (AA (AI (dv 0)) (AA (AI (dv 2)) (AA (AI (dv 4)) AM)))) Ac))))))))) Qh
theorem lE:Ad ["net","times","pairs","lengths","less","number","a","b"] ["net","times","pairs","lengths","less"] (AO FR):=by walk_at "s"
theorem N0(T:Txt K mg)(k8:E_ P w K mg base)(lF:F2 P w K mg base)(lC:EG P w K mg base)(lD:Ln P w K mg base)(F:Fu K "needed_of" FR f fd):A4 P w K mg base Bw 5 f fd ["net","times","pairs","lengths","less"] (CO K .sh IL 5) :=
 Cv F lE (λhr=>(AH (Aq (i:=5) lE.nd rfl (TW rfl) (cg hr k8 (AA (AI (dv 1)) (AA (AI (dv 2)) (AA (AI (dv 3)) (AA (AI (dv 4)) AM))))))
 (AH (Aq (i:=6) lE.nd rfl (TW rfl) (AQ AL Ah (AQ AL Ah (dv 2) (dv 5)) AG))
 (AH (Aq (i:=7) lE.nd rfl (TW rfl) (AQ AL Ah (AQ AL Ah (dv 2) (dv 5)) AG))
 (AK (AZ (Ay (AF (dv 5) (AF (cg hr lD (AA (AI (dv 0)) (AA (AI (dv 6)) (AA (AI (dv 7)) AM)))) (AF (cg hr lC (AA (AI (dv 4)) (AA (AI (dv 6)) (AA (AI (cg hr lF (AA (AI (dv 1)) (AA (AI (AQ AL Ah (dv 3) (dv 5))) AM)))) AM)))) Ac)))))))))) TC
theorem lG:Ad ["net","times","pairs","thin","lengths","shown","needed"] ["net","times","pairs"] (AO D6):=by walk_at "s"
theorem LA(T:Txt K mg)(k9:E8 P w K mg base)(lH:Ja P w K mg base)(k_:E7 P w K mg base)(lI:Lo P w K mg base)(lJ:DA P w K mg base)(lA:GN P w K mg base)(F:Fu K "pairs_paper" D6 f fd):A4 P w K mg base Bw 6 f fd ["net","times","pairs"] (CO K .sh F8 3) :=
 Cv F lG (λhr=>(AH (Aq (i:=3) lG.nd rfl (fe rfl) (cg hr lJ (AA (AI (dv 0)) (AA (AI (dv 1)) (AA (AI (dv 2)) AM)))))
 (AH (Aq (i:=4) lG.nd rfl (fe rfl) (cg hr k9 (AA (AI (dv 0)) (AA (AI (dv 2)) AM))))
 (AH (OL (i:=5) lG.nd rfl (TW rfl) rfl [("net":Str),("thin":Str),("a":Str),("b":Str)] [some 0,some 3,none,none] (BH (dv 2)) (λ_ _ _ _ _=>(Bb rfl (Ae (AT (i:=2) (show d_ [("net":Str),("thin":Str),("a":Str),("b":Str)] by decide +kernel) rfl (TW rfl)) (Ae (AT (i:=3) (show d_ [("net":Str),("thin":Str),("a":Str),("b":Str)] by decide +kernel) rfl (TW rfl)) BI)))) (λ_ _ _ _ _=>BR) (λ_ _ _ _ _=>(cg hr lI (AA (AI (dv 0)) (AA (AI (dv 1)) (AA (AI (dv 2)) (AA (AI (dv 3)) AM)))))) (by kernel_rfl))
 (AH (OL (i:=6) lG.nd rfl (TW rfl) rfl [("net":Str),("times":Str),("pairs":Str),("lengths":Str),("thin":Str),("tie":Str)] [some 0,some 1,some 2,some 4,some 3,none] (BH (cg hr k_ (AA (AI (AQ AL Ah (dv 3) AG)) AM))) (λ_ _ _ _ _=>(AT (i:=5) (show d_ [("net":Str),("times":Str),("pairs":Str),("lengths":Str),("thin":Str),("tie":Str)] by decide +kernel) rfl (TW rfl))) (λ_ _ _ _ _=>BR) (λ_ _ _ _ _=>(cg hr lH (AA (AI (dv 0)) (AA (AI (dv 1)) (AA (AI (dv 2)) (AA (AI (dv 3)) (AA (AI (cg hr lA (AA (AI (dv 4)) (AA (AI (B6 (AF (dv 5) Ac))) AM)))) AM))))))) (by kernel_rfl))
 (AK (AZ (Ay (AF (Bq BM Cb rfl T.Gab gZ (AN (dv 5) AW)) (AF (Bq BM Cb rfl T.Gab gZ (AN (dv 6) AW)) Ac)))))))))) Qk
theorem lK:Ad ["net","times","pair","thin","thing","length"] ["net","times","pair","thin","thing"] (AO Eg):=by walk_at "s"
theorem ME(T:Txt K mg)(lL:JE P w K mg base)(k6:Dx P w K mg base)(lM:Cu P w K mg base)(kq:Dw P w K mg base)(F:Fu K "shows_near" Eg f fd):A4 P w K mg base Bw 4 f fd ["net","times","pair","thin","thing"] (CO K .sh II 5) :=
 Cv F lK (λhr=>(AH (Aq (i:=5) lK.nd rfl (TW rfl) (cg hr lM (AA (AI (dv 3)) (AA (AI (AQ AL Ah (dv 2) AG)) (AA (AI (AQ AL Ah (dv 2) AG)) (AA (AI (AQ AL Ah (dv 4) AG)) AM))))))
 (AH (Az (DTW.dt (BK (An G3 Lm (dv 5) BG (Ak _)) (BQ (Ax (Au (cg hr lL (AA (AI (dv 0)) (AA (AI (AQ AL Ah (dv 4) AG)) AM)))))))) (AK (AZ Bg)) Aj)
 (AK (AZ (cg hr k6 (AA (AI (dv 5)) (AA (AI (dv 1)) (AA (AI (cg hr kq (AA (AI (dv 0)) (AA (AI (AQ AL Ah (dv 4) AG)) (AA (AI (AQ AL Ah (dv 2) AG)) (AA (AI (AQ AL Ah (dv 2) AG)) AM)))))) AM))))))))) Qg
theorem Qc:Ad ["net","thing"] ["net","thing"] (AO Ig):=by walk_at "s"
theorem Q1(T:Txt K mg)(kU:F3 P w K mg base)(F:Fu K "is_side" Ig f fd):A4 P w K mg base Bw 2 f fd ["net","thing"] (CO K .sh KH 2) :=
 Cv F Qc (λhr=>(AK (AZ (Br (Bc kit_tuple (dv 1) rfl T.Gaa rfl T.Gab (by decide +kernel)) (Br (Ab (B7 rfl) F1 rfl T.Gae eW (AN (L1 [("net":Str),("place":Str)] [some 0,none] (BH (dv 1)) (AT (i:=1) (show d_ [("net":Str),("place":Str)] by decide +kernel) rfl (TW rfl)) BR (BY (EA hr) Dv (dv 1) (AQ AL Ah (dv 0) AG) (by with_unfolding_all rfl)) (by kernel_rfl)) AW)) (CG (cg hr kU (AA (AI (dv 1)) AM)))))))) S_
theorem Kj:Ad ["net","pair","side"] ["net","pair","side"] (AO D4):=by walk_at "s"
theorem K9(T:Txt K mg)(lN:NK P w K mg base)(F:Fu K "shows_apart" D4 f fd):A4 P w K mg base Bw 3 f fd ["net","pair","side"] (CO K .sh GO 3) :=
 Cv F Kj (λhr=>(AH (Az (DTW.dt (BK (Ax (Au (cg hr lN (AA (AI (dv 0)) (AA (AI (dv 2)) AM))))) (BK (An (GG hr) Dv (AQ AL Ah (dv 1) AG) (dv 2) (by with_unfolding_all rfl)) (BQ (An (EA hr) Dv (AQ AL Ah (dv 1) AG) (dv 2) (by with_unfolding_all rfl)))))) (AK (AZ Bg)) Aj)
 (AK (AZ (Ab (B7 rfl) F1 rfl T.Gae eW (AN (L1 [("side":Str),("a":Str),("b":Str),("length":Str)] [some 2,none,none,none] (BH (AQ AL Ah (dv 0) AG)) (Bb rfl (Ae (AT (i:=1) (show d_ [("side":Str),("a":Str),("b":Str),("length":Str)] by decide +kernel) rfl (TW rfl)) (Ae (AT (i:=2) (show d_ [("side":Str),("a":Str),("b":Str),("length":Str)] by decide +kernel) rfl (TW rfl)) (Ae (AT (i:=3) (show d_ [("side":Str),("a":Str),("b":Str),("length":Str)] by decide +kernel) rfl (TW rfl)) BI)))) BR (BY (Qv hr) WJ (BY (EA hr) Dv (dv 1) (dv 0) (by with_unfolding_all rfl)) (BY (EA hr) Dv (dv 2) (dv 0) (by with_unfolding_all rfl)) (Ak _)) (by kernel_rfl)) AW)))))) O3
theorem O0:Ad ["net","times","pair","thin","thing"] ["net","times","pair","thin","thing"] (AO Gw):=by walk_at "s"
theorem PK(T:Txt K mg)(kX:Bx P w K mg base)(lO:Gi P w K mg base)(lP:H_ P w K mg base)(F:Fu K "is_shown" Gw f fd):A4 P w K mg base Bw 5 f fd ["net","times","pair","thin","thing"] (CO K .sh Di 5) :=
 Cv F O0 (λhr=>(AH (Az (DTW.dt (Vw (Au (cg hr kX (AA (AI AG) (AA (AI (dv 4)) AM)))) (SQ (An HS OY (AQ AL Ah (dv 4) AG) A6 (Ak _))))) (AK (AZ (cg hr lP (AA (AI (dv 0)) (AA (AI (dv 1)) (AA (AI (dv 2)) (AA (AI (dv 3)) (AA (AI (dv 4)) AM)))))))) Aj)
 (AK (AZ (Br (cg hr kX (AA (AI AG) (AA (AI (dv 4)) AM))) (Br (BY HS OY (AQ AL Ah (dv 4) AG) A6 (Ak _)) (CG (cg hr lO (AA (AI (dv 0)) (AA (AI (dv 2)) (AA (AI (AQ AL Ah (dv 4) AG)) AM))))))))))) Nl
theorem lQ:Ad ["net","times","pairs","less","thing","a","b","length"] ["net","times","pairs","less","thing"] (AO FW):=by walk_at "s"
theorem N5(T:Txt K mg)(lL:JE P w K mg base)(kX:Bx P w K mg base)(kT:E9 P w K mg base)(k6:Dx P w K mg base)(lM:Cu P w K mg base)(kq:Dw P w K mg base)(F:Fu K "is_needed" FW f fd):A4 P w K mg base Bw 4 f fd ["net","times","pairs","less","thing"] (CO K .sh Ea 5) :=
 Cv F lQ (λhr=>(AH (Az (DTW.dt (BK (Ax (Au (cg hr kX (AA (AI AG) (AA (AI (dv 4)) AM))))) (BK (Ax (Au (cg hr kT (AA (AI (AQ AL Ah (dv 4) AG)) AM)))) (BQ (Ax (Px K8 QI (D_ hr) Gh AG (AQ AL Ah (dv 4) AG) (Ab As Bj rfl T.Gac PySem.boot_len (AN (dv 2) AW)))))))) (AK (AZ Bg)) Aj)
 (AH (Aq (i:=5) lQ.nd rfl (TW rfl) (AQ AL Ah (AQ AL Ah (dv 2) (AQ AL Ah (dv 4) AG)) AG))
 (AH (Aq (i:=6) lQ.nd rfl (TW rfl) (AQ AL Ah (AQ AL Ah (dv 2) (AQ AL Ah (dv 4) AG)) AG))
 (AH (Aq (i:=7) lQ.nd rfl (TW rfl) (cg hr lM (AA (AI (dv 0)) (AA (AI (dv 5)) (AA (AI (dv 6)) (AA (AI (AQ AL Ah (dv 4) AG)) AM))))))
 (AH (Az (DTW.dt (BK (An G3 Lm (dv 7) BG (Ak _)) (BQ (Ax (Au (cg hr lL (AA (AI (dv 3)) (AA (AI (AQ AL Ah (dv 4) AG)) AM)))))))) (AK (AZ Bg)) Aj)
 (AK (AZ (OQ (cg hr k6 (AA (AI (cg hr kq (AA (AI (dv 0)) (AA (AI (AQ AL Ah (dv 4) AG)) (AA (AI (dv 5)) (AA (AI (dv 6)) AM)))))) (AA (AI (dv 1)) (AA (AI (dv 7)) AM))))))))))))) O6
theorem Nd:Ad ["pairs","thin","paper"] ["pairs","thin","paper"] (AO FX):=by walk_at "s"
theorem N6(T:Txt K mg)(kX:Bx P w K mg base)(F:Fu K "has_shape" FX f fd):A4 P w K mg base Bw 2 f fd ["pairs","thin","paper"] (CO K .sh IJ 3) :=
 Cv F Nd (λhr=>(AK (AZ (Br (cg hr kX (AA (AI AG) (AA (AI (dv 2)) AM))) (Br (cg hr kX (AA (AI (Ab As Bj rfl T.Gac PySem.boot_len (AN (dv 0) AW))) (AA (AI (AQ AL Ah (dv 2) AG)) AM))) (CG (cg hr kX (AA (AI (Ab As Bj rfl T.Gac PySem.boot_len (AN (AQ AL Ah (dv 1) AG) AW))) (AA (AI (AQ AL Ah (dv 2) AG)) AM))))))))) Qi
theorem lR:Ad ["net","times","pairs","thin","paper","number","pair","tie"] ["net","times","pairs","thin","paper"] (AO Ei):=by walk_at "s"
theorem MG(T:Txt K mg)(lS:Je P w K mg base)(lT:Jd P w K mg base)(lU:Lp P w K mg base)(lV:NJ P w K mg base)(k_:E7 P w K mg base)(lA:GN P w K mg base)(F:Fu K "lets_pairs" Ei f fd):A4 P w K mg base Bw 6 f fd ["net","times","pairs","thin","paper"] (CO K .sh KJ 5) :=
 Cv F lR (λhr=>(AH (Az (DTW.dt (BK (Ax (Au (cg hr lV (AA (AI (dv 0)) (AA (AI (dv 3)) AM))))) (BQ (Ax (Au (cg hr lS (AA (AI (dv 2)) (AA (AI (dv 3)) (AA (AI (dv 4)) AM))))))))) (AK La) Aj)
 (AH (Ba di rfl (OO rfl T.Gag (dv 2)) (Bb rfl (Ae (AT (i:=5) lR.nd rfl (TW rfl)) (Ae (AT (i:=6) lR.nd rfl (TW rfl)) BI))) (AK (Az (Ax (Au (cg hr lU (AA (AI (dv 0)) (AA (AI (dv 1)) (AA (AI (dv 6)) (AA (AI (dv 3)) (AA (AI (AQ AL Ah (AQ AL Ah (dv 4) AG) (dv 5))) AM)))))))) (AK La) Aj)))
 (AH (Ba di rfl (OO rfl T.Gag (cg hr k_ (AA (AI (AQ AL Ah (dv 3) AG)) AM))) (Bb rfl (Ae (AT (i:=5) lR.nd rfl (TW rfl)) (Ae (AT (i:=7) lR.nd rfl (TW rfl)) BI))) (AK (Az (Ax (Au (cg hr lT (AA (AI (dv 0)) (AA (AI (dv 1)) (AA (AI (dv 2)) (AA (AI (cg hr lA (AA (AI (dv 3)) (AA (AI (B6 (AF (dv 7) Ac))) AM)))) (AA (AI (AQ AL Ah (AQ AL Ah (dv 4) AG) (dv 5))) AM)))))))) (AK La) Aj)))
 (AK (AZ Bg)))))) TF
theorem lW:Ad ["_law_feed_here","_law_many","_law_some","_law_first"] ["_law_feed_here","_law_many"] (AO Es):=by walk_at "s"
theorem MP(T:Txt K mg)(lX:CQ P w K mg base)(F:Fu K "_law_names" Es f fd):A4 P w K mg base Bw 2 f fd ["_law_feed_here","_law_many"] (CO K .sh IM 2) :=
 Cv F lW (λhr=>(AH (Aq (i:=2) lW.nd rfl (fe rfl) (B6 (AF A6 (AF A6 (AF A6 (AF A6 (AF A6 (AF A6 (AF A6 (AF A6 (AF A6 (AF A6 (AF A6 (AF A6 Ac))))))))))))))
 (AH (Aq (i:=2) lW.nd rfl (fe rfl) (BU Bz Cc (dv 2) (B6 (AF A6 (AF A6 (AF A6 (AF A6 (AF A6 (AF A6 (AF A6 (AF A6 (AF A6 (AF A6 (AF A6 (AF A6 Ac)))))))))))))))
 (AH (Aq (i:=3) lW.nd rfl (fe rfl) (cg hr lX (AA (Cg 0) (AA (AI AG) AM))))
 (AK (AZ (Bq BM Cb rfl T.Gab gZ (AN (Ab RJ Xl rfl T.Gad gf (AN (L1 [("_law_some":Str),("_law_first":Str),("_law_k":Str)] [some 2,some 3,none] (DI.c (Ct rfl T.Gaf (AN (dv 1) AW))) (AT (i:=2) (show d_ [("_law_some":Str),("_law_first":Str),("_law_k":Str)] by decide +kernel) rfl (TW rfl)) BR (AQ AL Ah (dv 0) (BU Fd HB (BU Bz Cc (dv 1) (dv 2)) AG)) (by kernel_rfl)) AW)) AW)))))))) Kw
theorem Km:Ad ["_law_feed_here","_law_way"] ["_law_feed_here","_law_way"] (AO D9):=by walk_at "s"
theorem LD(T:Txt K mg)(lX:CQ P w K mg base)(F:Fu K "_law_length" D9 f fd):A4 P w K mg base Bw 2 f fd ["_law_feed_here","_law_way"] (CO K .sh Lx 2) :=
 Cv F Km (λhr=>(AH (Az (An (D_ hr) Gh (dv 1) AG (Ak _)) (AK (AZ (BU Bz Cc AG (cg hr lX (AA (Cg 0) (AA (AI (AQ AL Ah (B6 (AF AG (AF AG (AF AG Ac)))) (dv 1))) AM)))))) Aj)
 (AH (Az (An HS OY (dv 1) AG (Ak _)) (AK (AZ (BU Bz Cc AG (cg hr lX (AA (Cg 0) (AA (AI AG) AM)))))) Aj)
 (AK (AZ (BU Eu G_ (BU Ny HB AG AG) (cg hr lX (AA (Cg 0) (AA (AI AG) AM))))))))) Jn
theorem lY:Ad ["_law_feed_here","_law_most","_law_ties","_law_places","_law_free","_law_a","_law_way","_law_many","_law_found","_law_k","_law_b"] ["_law_feed_here","_law_most","_law_ties"] (AO Gx):=by walk_at "s"
theorem PL(T:Txt K mg)(lZ:Gk P w K mg base)(lc:IF P w K mg base)(lX:CQ P w K mg base)(F:Fu K "_law_net" Gx f fd):A4 P w K mg base Bw 3 f fd ["_law_feed_here","_law_most","_law_ties"] (CO K .sh Oc 3) :=
 Cv F lY (λhr=>(AH (Aq (i:=3) lY.nd rfl (TW rfl) (cg hr lc (AA (Cg 0) (AA (AI (BU Bz Cc AG (cg hr lX (AA (Cg 0) (AA (AI (BU Eu G_ (dv 1) AG)) AM))))) AM))))
 (AH (Cy (i:=4) lY.nd rfl (TW rfl) (B6 Ac))
 (AH (Ba di rfl (ED (dv 3)) (AT (i:=5) lY.nd rfl (fe rfl)) (AK (LZ 4 PySem.F.plainAttrs_list PySem.F.slot_list_extend PySem.F.type_list_extend Mm YJ (pv 4) (AF (L1 [("_law_a":Str),("_law_b":Str)] [some 5,none] (BH (dv 3)) (AT (i:=1) (show d_ [("_law_a":Str),("_law_b":Str)] by decide +kernel) rfl (TW rfl)) (GK (An (D_ hr) Gh (dv 0) (dv 1) (Ak _))) (Ay (AF (dv 0) (AF (dv 1) Ac))) (by kernel_rfl)) Ac))))
 (AH (Aq (i:=6) lY.nd rfl (TW rfl) (cg hr lX (AA (Cg 0) (AA (AI AG) AM))))
 (AH (Aq (i:=7) lY.nd rfl (TW rfl) (BU Eu G_ (dv 2) (cg hr lX (AA (Cg 0) (AA (AI (BU Bz Cc (BU HR HB (dv 2) AG) AG)) AM)))))
 (AH (Az (An HS OY (cg hr lX (AA (Cg 0) (AA (AI AG) AM))) AG (Ak _)) (AK (Aq (i:=7) lY.nd rfl (TW rfl) (cg hr lX (AA (Cg 0) (AA (AI AG) AM))))) Aj)
 (AH (Cy (i:=8) lY.nd rfl (TW rfl) (B6 Ac))
 (AH (Ba di rfl (Ct rfl T.Gaf (AN (Ab (JD rfl) RS rfl T.Gai boot_min (AN (dv 7) (AN (Ab As Bj rfl T.Gac PySem.boot_len (AN (J8 4) AW)) AW))) AW)) (AT (i:=9) lY.nd rfl (TW rfl)) (AH (XW (i:=4) (pv 4) (cg hr lX (AA (Cg 0) (AA (AI (Ab As Bj rfl T.Gac PySem.boot_len (AN (J8 4) AW))) AM))) (Bb rfl (Ae (AT (i:=5) lY.nd rfl (fe rfl)) (Ae (AT (i:=10) lY.nd rfl (TW rfl)) BI))))
 (AK (LZ 8 PySem.F.plainAttrs_list PySem.F.slot_list_append PySem.F.type_list_append DJ QJ (pv 8) (AF (Ay (AF (dv 5) (AF (dv 10) (AF (cg hr lZ (AA (Cg 0) (AA (AI (dv 6)) AM))) Ac)))) Ac)))))
 (AK (AZ (Ay (AF (dv 3) (AF (Bq BM Cb rfl T.Gab gZ (AN (Ab DZ Hy rfl T.Gad gf (AN (J8 8) AW)) AW)) Ac)))))))))))))) Nk
theorem lf:Ad ["_law_ties","_law_some"] ["_law_ties"] (AO Er):=by walk_at "s"
theorem MO(T:Txt K mg)(F:Fu K "_law_order" Er f fd):A4 P w K mg base Bw 1 f fd ["_law_ties"] (CO K .fr Dg 1) :=
 Cv F lf (λhr=>(AH (Aq (i:=1) lf.nd rfl (TW rfl) (Ab DZ Hy rfl T.Gad gf (AN (L1 [("_law_tie":Str)] [none] (BH (dv 0)) (AT (i:=0) (show d_ [("_law_tie":Str)] by decide +kernel) rfl (TW rfl)) BR (Ay (AF (AQ AL Ah (dv 0) AG) (AF (AQ AL Ah (dv 0) AG) (AF (AQ AL Ah (dv 0) AG) Ac)))) (by kernel_rfl)) AW)))
 (AK (AZ (L1 [("_law_length_here":Str),("_law_a":Str),("_law_b":Str)] [none,none,none] (BH (dv 1)) (Bb rfl (Ae (AT (i:=0) (show d_ [("_law_length_here":Str),("_law_a":Str),("_law_b":Str)] by decide +kernel) rfl (TW rfl)) (Ae (AT (i:=1) (show d_ [("_law_length_here":Str),("_law_a":Str),("_law_b":Str)] by decide +kernel) rfl (TW rfl)) (Ae (AT (i:=2) (show d_ [("_law_length_here":Str),("_law_a":Str),("_law_b":Str)] by decide +kernel) rfl (TW rfl)) BI)))) BR (Ay (AF (dv 1) (AF (dv 2) (AF (dv 0) Ac)))) (by kernel_rfl)))))) Kv
theorem lg:Ad ["_law_ties","_law_place","_law_known","_law_grew","_law_a","_law_b","_law_length_here","_law_one","_law_other"] ["_law_ties","_law_place"] (AO DN):=by walk_at "s"
theorem Jq(T:Txt K mg)(F:Fu K "_law_lengths" DN f fd):A4 P w K mg base Bw 1 f fd ["_law_ties","_law_place"] (CO K .fr Dh 2) :=
 Cv F lg (λhr=>(AH (Cy (i:=2) lg.nd rfl (TW rfl) (P0 (dv 1) AG))
 (AH (Aq (i:=3) lg.nd rfl (TW rfl) Bg)
 (AH (LY di (Au (dv 3)) (AH (Aq (i:=3) lg.nd rfl (TW rfl) Bg)
 (AK (XX di rfl (pv 0) (Bb rfl (Ae (AT (i:=4) lg.nd rfl (TW rfl)) (Ae (AT (i:=5) lg.nd rfl (TW rfl)) (Ae (AT (i:=6) lg.nd rfl (TW rfl)) BI)))) (AK (Ba di rfl (ED (B6 (AF (Ay (AF (dv 4) (AF (dv 5) Ac))) (AF (Ay (AF (dv 5) (AF (dv 4) Ac))) Ac)))) (Bb rfl (Ae (AT (i:=7) lg.nd rfl (TW rfl)) (Ae (AT (i:=8) lg.nd rfl (TW rfl)) BI))) (AK (Az (DTW.dt (Vw (An (Qw hr) WK (dv 7) (J8 2) (by with_unfolding_all rfl)) (SQ (An (D_ hr) Gh (BU Bz Cc (CL hr (J8 2) (dv 7)) (dv 6)) (Xc hr (J8 2) (dv 8) (BU Ny HB AG AG)) (Ak _))))) (AH (OM (i:=2) hr (pv 2) (dv 8) (BU Bz Cc (CL hr (J8 2) (dv 7)) (dv 6)))
 (AK (Aq (i:=3) lg.nd rfl (TW rfl) Bg))) Aj))))))))
 (AK (SS 2 (pv 2))))))) Ii
theorem lh:Ad ["_law_feed_here","_law_some"] ["_law_feed_here"] (AO Eo):=by walk_at "s"
theorem MM(T:Txt K mg)(lX:CQ P w K mg base)(F:Fu K "_law_times" Eo f fd):A4 P w K mg base Bw 2 f fd ["_law_feed_here"] (CO K .sh IH 1) :=
 Cv F lh (λhr=>(AH (Aq (i:=1) lh.nd rfl (TW rfl) (B6 (AF (Ay (AF AG (AF AG Ac))) (AF (Ay (AF AG (AF AG Ac))) (AF (Ay (AF AG (AF AG Ac))) (AF (Ay (AF AG (AF AG Ac))) (AF (Ay (AF AG (AF AG Ac))) (AF (Ay (AF AG (AF AG Ac))) (AF (Ay (AF (BU Ny HB AG AG) (AF AG Ac))) (AF (Ay (AF AG (AF AG Ac))) (AF (Ay (AF AG (AF AG Ac))) Ac)))))))))))
 (AK (AZ (AQ AL Ah (dv 1) (cg hr lX (AA (Cg 0) (AA (AI AG) AM)))))))) Kt
theorem Kl:Ad ["_law_length_here","_law_times_here","_law_number"] ["_law_length_here","_law_times_here","_law_number"] (AO D8):=by walk_at "s"
theorem LC(T:Txt K mg)(F:Fu K "_law_within" D8 f fd):A4 P w K mg base Bw 1 f fd ["_law_length_here","_law_times_here","_law_number"] (CO K .sh Bu 3) :=
 Cv F Kl (λhr=>(AK (AZ (BY K8 QI (BU HQ Ll (dv 0) (AQ AL Ah (dv 1) AG)) (BU HQ Ll (dv 2) (AQ AL Ah (dv 1) AG)) (Ak _))))) Jm
theorem L9:Ad ["_law_thing"] ["_law_thing"] (AO En):=by walk_at "s"
theorem ML(T:Txt K mg)(F:Fu K "_law_whole" En f fd):A4 P w K mg base Bw 1 f fd ["_law_thing"] (CO K .sh C8 1) :=
 Cv F L9 (λhr=>(AK (AZ (Br (Bc SD (dv 0) rfl T.Gaa rfl T.Gao (by decide +kernel)) (CG (OQ (Bc Pj (dv 0) rfl T.Gaa rfl T.Gan (by decide +kernel)))))))) JJ
theorem li:Ad ["_law_net_here","_law_thing","_law_tie"] ["_law_net_here","_law_thing"] (AO DP):=by walk_at "s"
theorem Jr(T:Txt K mg)(lj:DF P w K mg base)(F:Fu K "_law_is_thin" DP f fd):A4 P w K mg base Bw 2 f fd ["_law_net_here","_law_thing"] (CO K .sh Jg 2) :=
 Cv F li (λhr=>(AH (Az (DTW.dt (BK (Ax (Au (Bc kit_tuple (dv 1) rfl T.Gaa rfl T.Gab (by decide +kernel)))) (BK (An (Fc hr) JZ (Ab As Bj rfl T.Gac PySem.boot_len (AN (dv 1) AW)) AG (Ak _)) (BK (An (Fc hr) JZ (AQ AL Ah (dv 1) AG) (AQ AL Ah (dv 0) AG) (Ak _)) (BQ (Ax (Au (Bc kit_tuple (AQ AL Ah (dv 1) AG) rfl T.Gaa rfl T.Gab (by decide +kernel))))))))) (AK (AZ Bg)) Aj)
 (AH (Ba di rfl (ED (AQ AL Ah (dv 1) AG)) (AT (i:=2) li.nd rfl (TW rfl)) (AK (Az (DTW.dt (BK (Ax (Au (Bc kit_tuple (dv 2) rfl T.Gaa rfl T.Gab (by decide +kernel)))) (BK (An (Fc hr) JZ (Ab As Bj rfl T.Gac PySem.boot_len (AN (dv 2) AW)) AG (Ak _)) (BK (Ax (Au (cg hr lj (AA (AI (AQ AL Ah (dv 2) AG)) AM)))) (BQ (An (GG hr) Dv (dv 2) (AQ AL Ah (dv 0) AG) (by with_unfolding_all rfl))))))) (AK (AZ Bg)) Aj)))
 (AK (AZ (Ab (B7 rfl) F1 rfl T.Gae eW (AN (L1 [("_law_thing":Str),("_law_k":Str)] [some 1,none] (DI.c (Ct rfl T.Gaf (AN (BU Eu G_ (Ab As Bj rfl T.Gac PySem.boot_len (AN (AQ AL Ah (dv 1) AG) AW)) AG) AW))) (AT (i:=1) (show d_ [("_law_thing":Str),("_law_k":Str)] by decide +kernel) rfl (TW rfl)) BR (BY (D_ hr) Gh (AQ AL Ah (AQ AL Ah (dv 0) AG) (dv 1)) (AQ AL Ah (AQ AL Ah (dv 0) AG) (BU Bz Cc (dv 1) AG)) (Ak _)) (by kernel_rfl)) AW))))))) Ij
theorem ll:Ad ["_law_places","_law_ties","_law_thing","_law_a","_law_b","_law_lengths_here","_law_one","_law_other","_law_length_here","_law_along"] ["_law_places","_law_ties","_law_thing","_law_a","_law_b"] (AO Gz):=by walk_at "s"
theorem PN(T:Txt K mg)(F:Fu K "_law_led" Gz f fd):A4 P w K mg base Bw 1 f fd ["_law_places","_law_ties","_law_thing","_law_a","_law_b"] (CO K .sh Ly 5) :=
 Cv F ll (λhr=>(AH (Az (DTW.dt (BK (Ax (Au (Bc kit_tuple (dv 2) rfl T.Gaa rfl T.Gab (by decide +kernel)))) (BQ (An HS OY (Ab As Bj rfl T.Gac PySem.boot_len (AN (dv 2) AW)) AG (Ak _))))) (AK (AZ BG)) Aj)
 (AH (Az (DTW.dt (BK (Ax (Au (Ab (B7 rfl) F1 rfl T.Gae eW (AN (L1 [("_law_places":Str),("_law_one":Str)] [some 0,none] (BH (dv 2)) (AT (i:=1) (show d_ [("_law_places":Str),("_law_one":Str)] by decide +kernel) rfl (TW rfl)) BR (Br (Bc J6 (dv 1) rfl T.Gaa rfl T.Gaj (by decide +kernel)) (CG (BY (EA hr) Dv (dv 1) (dv 0) (by with_unfolding_all rfl)))) (by kernel_rfl)) AW)))) (BK (An GX MX (AQ AL Ah (dv 2) AG) (dv 3) (Ak _)) (BQ (An GX MX (AQ AL Ah (dv 2) (RF AG)) (dv 4) (Ak _)))))) (AK (AZ BG)) Aj)
 (AH (Cy (i:=5) ll.nd rfl (TW rfl) V5)
 (AH (Ba di rfl (ED (dv 1)) (Bb rfl (Ae (AT (i:=6) ll.nd rfl (TW rfl)) (Ae (AT (i:=7) ll.nd rfl (TW rfl)) (Ae (AT (i:=8) ll.nd rfl (TW rfl)) BI)))) (AH (SR (i:=5) hr (pv 5) (Ay (AF (dv 6) (AF (dv 7) Ac))) (dv 8))
 (AK (SR (i:=5) hr (pv 5) (Ay (AF (dv 7) (AF (dv 6) Ac))) (dv 8)))))
 (AH (Aq (i:=9) ll.nd rfl (TW rfl) AG)
 (AH (Ba di rfl (V1 rfl T.Gam (AF (dv 2) (AF (SW Wn Si (dv 2) (J9 AG) J_) Ac))) (Bb rfl (Ae (AT (i:=6) ll.nd rfl (TW rfl)) (Ae (AT (i:=7) ll.nd rfl (TW rfl)) BI))) (AH (Az (An (EM hr) WG (Ay (AF (dv 6) (AF (dv 7) Ac))) (J8 5) (by with_unfolding_all rfl)) (AK (AZ BG)) Aj)
 (AK (Aq (i:=9) ll.nd rfl (TW rfl) (BU Bz Cc (dv 9) (Xa hr (J8 5) (Ay (AF (dv 6) (AF (dv 7) Ac)))))))))
 (AK (AZ (dv 9)))))))))) Us
theorem lm:Ad ["_law_places","_law_ties","_law_thing","_law_a","_law_b","_law_length_here"] ["_law_places","_law_ties","_law_thing"] (AO DR):=by walk_at "s"
theorem Jt(T:Txt K mg)(lj:DF P w K mg base)(F:Fu K "_law_is_fair" DR f fd):A4 P w K mg base Bw 2 f fd ["_law_places","_law_ties","_law_thing"] (CO K .sh F_ 3) :=
 Cv F lm (λhr=>(AH (Az (DTW.dt (BK (Ax (Au (Bc kit_tuple (dv 2) rfl T.Gaa rfl T.Gab (by decide +kernel)))) (BQ (An GX MX (Ab As Bj rfl T.Gac PySem.boot_len (AN (dv 2) AW)) (Ab As Bj rfl T.Gac PySem.boot_len (AN (dv 0) AW)) (Ak _))))) (AK (AZ Bg)) Aj)
 (AH (Az (Ax (Au (Ab (B7 rfl) F1 rfl T.Gae eW (AN (L1 [("_law_one":Str)] [none] (BH (dv 2)) (AT (i:=0) (show d_ [("_law_one":Str)] by decide +kernel) rfl (TW rfl)) BR (Br (cg hr lj (AA (AI (dv 0)) AM)) (CG (BY VN YI (dv 0) AG (Ak _)))) (by kernel_rfl)) AW)))) (AK (AZ Bg)) Aj)
 (AH (Ba di rfl (ED (dv 1)) (Bb rfl (Ae (AT (i:=3) lm.nd rfl (TW rfl)) (Ae (AT (i:=4) lm.nd rfl (TW rfl)) (Ae (AT (i:=5) lm.nd rfl (TW rfl)) BI)))) (AK (Az (An Y7 bF (Ab Lh WL rfl T.Gal boot_abs (AN (BU Eu G_ (AQ AL Ah (dv 2) (JB hr (dv 0) (AN (dv 3) AW))) (AQ AL Ah (dv 2) (JB hr (dv 0) (AN (dv 4) AW)))) AW)) (dv 5) (Ak _)) (AK (AZ Bg)) Aj)))
 (AK (AZ Bg)))))) Qn
theorem O1:Ad ["_law_places","_law_prices","_law_a","_law_b"] ["_law_places","_law_prices","_law_a","_law_b"] (AO G0):=by walk_at "s"
theorem PP(T:Txt K mg)(F:Fu K "_law_gap" G0 f fd):A4 P w K mg base Bw 1 f fd ["_law_places","_law_prices","_law_a","_law_b"] (CO K .sh IP 4) :=
 Cv F O1 (λhr=>(AK (AZ (Ab Lh WL rfl T.Gal boot_abs (AN (BU Eu G_ (AQ AL Ah (dv 1) (JB hr (dv 0) (AN (dv 2) AW))) (AQ AL Ah (dv 1) (JB hr (dv 0) (AN (dv 3) AW)))) AW))))) TD
theorem ln:Ad ["_law_feed_here","_law_places","_law_most","_law_free","_law_a","_law_found","_law_k"] ["_law_feed_here","_law_places","_law_most"] (AO Ep):=by walk_at "s"
theorem MN(T:Txt K mg)(lX:CQ P w K mg base)(F:Fu K "_law_pairs" Ep f fd):A4 P w K mg base Bw 2 f fd ["_law_feed_here","_law_places","_law_most"] (CO K .sh Ob 3) :=
 Cv F ln (λhr=>(AH (Cy (i:=3) ln.nd rfl (TW rfl) (B6 Ac))
 (AH (Ba di rfl (ED (dv 1)) (AT (i:=4) ln.nd rfl (fe rfl)) (AK (LZ 3 PySem.F.plainAttrs_list PySem.F.slot_list_extend PySem.F.type_list_extend Mm YJ (pv 3) (AF (L1 [("_law_a":Str),("_law_b":Str)] [some 4,none] (BH (dv 1)) (AT (i:=1) (show d_ [("_law_a":Str),("_law_b":Str)] by decide +kernel) rfl (TW rfl)) (GK (An (D_ hr) Gh (dv 0) (dv 1) (Ak _))) (Ay (AF (dv 0) (AF (dv 1) Ac))) (by kernel_rfl)) Ac))))
 (AH (Cy (i:=5) ln.nd rfl (TW rfl) (B6 Ac))
 (AH (Ba di rfl (Ct rfl T.Gaf (AN (Ab (JD rfl) RS rfl T.Gai boot_min (AN (cg hr lX (AA (Cg 0) (AA (AI (BU Bz Cc (dv 2) AG)) AM))) (AN (Ab As Bj rfl T.Gac PySem.boot_len (AN (J8 3) AW)) AW))) AW)) (AT (i:=6) ln.nd rfl (TW rfl)) (AK (T4 (j:=5) (i:=3) (pv 5) (pv 3) (cg hr lX (AA (Cg 0) (AA (AI (Ab As Bj rfl T.Gac PySem.boot_len (AN (J8 3) AW))) AM))))))
 (AK (AZ (Bq BM Cb rfl T.Gab gZ (AN (Ab DZ Hy rfl T.Gad gf (AN (J8 5) AW)) AW))))))))) Ku
theorem lq:Ad ["_law_net_here","_law_times_here","_law_pairs_here","_law_ties","_law_a","_law_b","_law_length_here","_law_own"] ["_law_net_here","_law_times_here","_law_pairs_here","_law_ties"] (AO Et):=by walk_at "s"
theorem MQ(T:Txt K mg)(lr:F4 P w K mg base)(lu:Cz P w K mg base)(F:Fu K "_law_keeps" Et f fd):A4 P w K mg base Bw 2 f fd ["_law_net_here","_law_times_here","_law_pairs_here","_law_ties"] (CO K .sh Lz 4) :=
 Cv F lq (λhr=>(AH (Ba di rfl (ED (dv 2)) (Bb rfl (Ae (AT (i:=4) lq.nd rfl (TW rfl)) (Ae (AT (i:=5) lq.nd rfl (TW rfl)) BI))) (AH (Aq (i:=6) lq.nd rfl (TW rfl) (SX hr (cg hr lr (AA (M9 (AQ AL Ah (dv 0) AG)) (AA (AI (dv 4)) AM))) (dv 5)))
 (AK (Az (An Ew HA (dv 6) BG (Ak _)) (AH (Aq (i:=7) lq.nd rfl (TW rfl) (SX hr (cg hr lr (AA (M9 (dv 3)) (AA (AI (dv 4)) AM))) (dv 5)))
 (AK (Az (DTW.dt (BK (An G3 Lm (dv 7) BG (Ak _)) (BQ (Ax (Au (cg hr lu (AA (AI (dv 7)) (AA (AI (dv 1)) (AA (AI (dv 6)) AM))))))))) (AK (AZ Bg)) Aj))) Aj))))
 (AK (AZ Bg)))) Kx
theorem lv:Ad ["_law_net_here","_law_times_here","_law_pairs_here","_law_order_here","_law_kept","_law_tie","_law_rest"] ["_law_net_here","_law_times_here","_law_pairs_here","_law_order_here"] (AO FY):=by walk_at "s"
theorem N7(T:Txt K mg)(lw:IG P w K mg base)(F:Fu K "_law_stay" FY f fd):A4 P w K mg base Bw 3 f fd ["_law_net_here","_law_times_here","_law_pairs_here","_law_order_here"] (CO K .sh Sm 4) :=
 Cv F lv (λhr=>(AH (Aq (i:=4) lv.nd rfl (TW rfl) (Bq E4 Sj rfl T.Gak boot_list (AN (AQ AL Ah (dv 0) AG) AW)))
 (AH (Ba di rfl (ED (dv 3)) (AT (i:=5) lv.nd rfl (fe rfl)) (AH (OL (i:=6) lv.nd rfl (TW rfl) rfl [("_law_tie":Str),("_law_one":Str)] [some 5,none] (BH (dv 4)) (λ_ _ _ _ _=>(AT (i:=1) (show d_ [("_law_tie":Str),("_law_one":Str)] by decide +kernel) rfl (TW rfl))) (λ_ _ _ _ _=>(GK (An (Fc hr) JZ (dv 1) (dv 0) (Ak _)))) (λ_ _ _ _ _=>(dv 1)) (by kernel_rfl))
 (AK (Az (Au (cg hr lw (AA (AI (dv 0)) (AA (AI (dv 1)) (AA (AI (dv 2)) (AA (AI (dv 6)) AM)))))) (AK (Aq (i:=4) lv.nd rfl (TW rfl) (dv 6))) Aj))))
 (AK (AZ (Ay (AF (AQ AL Ah (dv 0) AG) (AF (Bq BM Cb rfl T.Gab gZ (AN (Ab DZ Hy rfl T.Gad gf (AN (dv 4) AW)) AW)) Ac)))))))) MC
theorem Jj:Ad ["_law_net_here","_law_pair","_law_thing"] ["_law_net_here","_law_pair","_law_thing"] (AO DQ):=by walk_at "s"
theorem Js(T:Txt K mg)(F:Fu K "_law_is_side" DQ f fd):A4 P w K mg base Bw 1 f fd ["_law_net_here","_law_pair","_law_thing"] (CO K .sh IN 3) :=
 Cv F Jj (λhr=>(AH (Az (DTW.dt (BK (Ax (Au (Bc kit_tuple (dv 2) rfl T.Gaa rfl T.Gab (by decide +kernel)))) (BQ (Ax (Au (Ab (B7 rfl) F1 rfl T.Gae eW (AN (L1 [("_law_net_here":Str),("_law_one":Str)] [some 0,none] (BH (dv 2)) (AT (i:=1) (show d_ [("_law_net_here":Str),("_law_one":Str)] by decide +kernel) rfl (TW rfl)) BR (Br (Bc J6 (dv 1) rfl T.Gaa rfl T.Gaj (by decide +kernel)) (CG (BY (EA hr) Dv (dv 1) (AQ AL Ah (dv 0) AG) (by with_unfolding_all rfl)))) (by kernel_rfl)) AW))))))) (AK (AZ Bg)) Aj)
 (AH (Az (DTW.dt (BK (An (Fc hr) JZ (Bq E4 Sj rfl T.Gak boot_list (AN (dv 2) AW)) (Ab RI Xk rfl T.Gad gf (AN (dv 2) AW)) (Ak _)) (BQ (An (Fc hr) JZ (T7 rfl (dv 2) rfl T.Gac rfl T.Gap) (Ab As Bj rfl T.Gac PySem.boot_len (AN (dv 2) AW)) (Ak _))))) (AK (AZ Bg)) Aj)
 (AH (Az (DTW.dt (BK (An (GG hr) Dv (AQ AL Ah (dv 1) AG) (dv 2) (by with_unfolding_all rfl)) (BQ (An (EA hr) Dv (AQ AL Ah (dv 1) AG) (dv 2) (by with_unfolding_all rfl))))) (AK (AZ Bg)) Aj)
 (AK (AZ (BY (Qv hr) WJ (L1 [("_law_thing":Str),("_law_tie":Str)] [some 2,none] (BH (AQ AL Ah (dv 0) AG)) (AT (i:=1) (show d_ [("_law_thing":Str),("_law_tie":Str)] by decide +kernel) rfl (TW rfl)) (GK (An (Fc hr) JZ (BY (EA hr) Dv (AQ AL Ah (dv 1) AG) (dv 0) (by with_unfolding_all rfl)) (BY (EA hr) Dv (AQ AL Ah (dv 1) AG) (dv 0) (by with_unfolding_all rfl)) (Ak _))) (dv 1) (by kernel_rfl)) (B6 Ac) (Ak _)))))))) Ql
theorem lz:Ad ["_law_net_here","_law_times_here","_law_thin","_law_pair","_law_thing","_law_a","_law_b","_law_length_here","_law_differ"] ["_law_net_here","_law_times_here","_law_thin","_law_pair","_law_thing"] (AO C6):=by walk_at "s"
theorem Io(T:Txt K mg)(l7:HE P w K mg base)(l8:Df P w K mg base)(l9:F6 P w K mg base)(l_:HD P w K mg base)(lu:Cz P w K mg base)(F:Fu K "_law_is_shown" C6 f fd):A4 P w K mg base Bw 3 f fd ["_law_net_here","_law_times_here","_law_thin","_law_pair","_law_thing"] (CO K .sh EZ 5) :=
 Cv F lz (λhr=>(AH (Az (DTW.dt (BK (Ax (Au (Bc kit_tuple (dv 4) rfl T.Gaa rfl T.Gab (by decide +kernel)))) (BK (An (D_ hr) Gh (Ab As Bj rfl T.Gac PySem.boot_len (AN (dv 4) AW)) AG (Ak _)) (BQ (Ax (Au (Bc J6 (AQ AL Ah (dv 4) AG) rfl T.Gaa rfl T.Gaj (by decide +kernel)))))))) (AK (AZ Bg)) Aj)
 (AH (Az (An HS OY (AQ AL Ah (dv 4) AG) A6 (Ak _)) (AK (AZ (Br (BY HS OY (Ab As Bj rfl T.Gac PySem.boot_len (AN (dv 4) AW)) AG (Ak _)) (CG (cg hr l9 (AA (AI (dv 0)) (AA (AI (dv 3)) (AA (AI (AQ AL Ah (dv 4) AG)) AM)))))))) Aj)
 (AH (Az (DTW.dt (BK (An GX MX (AQ AL Ah (dv 4) AG) A6 (Ak _)) (BK (An GX MX (Ab As Bj rfl T.Gac PySem.boot_len (AN (dv 4) AW)) AG (Ak _)) (BQ (Ax (Au (cg hr l8 (AA (AI (AQ AL Ah (dv 0) AG)) (AA (AI (AQ AL Ah (dv 0) AG)) (AA (AI (AQ AL Ah (dv 4) AG)) AM)))))))))) (AK (AZ Bg)) Aj)
 (AH (Vy (dv 3) (Bb rfl (Ae (AT (i:=5) lz.nd rfl (TW rfl)) (Ae (AT (i:=6) lz.nd rfl (TW rfl)) BI))))
 (AH (Aq (i:=7) lz.nd rfl (TW rfl) (cg hr l_ (AA (AI (AQ AL Ah (dv 0) AG)) (AA (AI (AQ AL Ah (dv 2) AG)) (AA (AI (AQ AL Ah (dv 4) AG)) (AA (AI (dv 5)) (AA (AI (dv 6)) AM)))))))
 (AH (Aq (i:=8) lz.nd rfl (TW rfl) (cg hr l7 (AA (AI (AQ AL Ah (dv 0) AG)) (AA (AI (AQ AL Ah (dv 4) AG)) (AA (AI (dv 5)) (AA (AI (dv 6)) AM))))))
 (AK (AZ (Br (BY Ew HA (dv 7) BG (Ak _)) (CG (cg hr lu (AA (AI (dv 7)) (AA (AI (dv 1)) (AA (AI (dv 8)) AM))))))))))))))) O5
theorem mB:Ad ["_law_net_here","_law_times_here","_law_pairs_here","_law_ties","_law_thing","_law_a","_law_b","_law_length_here","_law_differ"] ["_law_net_here","_law_times_here","_law_pairs_here","_law_ties","_law_thing"] (AO Co):=by walk_at "s"
theorem HV(T:Txt K mg)(l7:HE P w K mg base)(l8:Df P w K mg base)(l_:HD P w K mg base)(lj:DF P w K mg base)(lu:Cz P w K mg base)(F:Fu K "_law_is_needed" Co f fd):A4 P w K mg base Bw 3 f fd ["_law_net_here","_law_times_here","_law_pairs_here","_law_ties","_law_thing"] (CO K .sh F9 5) :=
 Cv F mB (λhr=>(AH (Az (DTW.dt (BK (Ax (Au (Bc kit_tuple (dv 4) rfl T.Gaa rfl T.Gab (by decide +kernel)))) (BK (An GX MX (Ab As Bj rfl T.Gac PySem.boot_len (AN (dv 4) AW)) AG (Ak _)) (BQ (Ax (Au (cg hr lj (AA (AI (AQ AL Ah (dv 4) AG)) AM)))))))) (AK (AZ Bg)) Aj)
 (AH (Az (DTW.dt (BK (Ax (Px K8 QI (D_ hr) Gh AG (AQ AL Ah (dv 4) AG) (Ab As Bj rfl T.Gac PySem.boot_len (AN (dv 2) AW)))) (BQ (Ax (Au (cg hr l8 (AA (AI (AQ AL Ah (dv 0) AG)) (AA (AI (dv 3)) (AA (AI (AQ AL Ah (dv 4) AG)) AM))))))))) (AK (AZ Bg)) Aj)
 (AH (Vy (AQ AL Ah (dv 2) (AQ AL Ah (dv 4) AG)) (Bb rfl (Ae (AT (i:=5) mB.nd rfl (TW rfl)) (Ae (AT (i:=6) mB.nd rfl (TW rfl)) BI))))
 (AH (Aq (i:=7) mB.nd rfl (TW rfl) (cg hr l_ (AA (AI (AQ AL Ah (dv 0) AG)) (AA (AI (AQ AL Ah (dv 0) AG)) (AA (AI (AQ AL Ah (dv 4) AG)) (AA (AI (dv 5)) (AA (AI (dv 6)) AM)))))))
 (AH (Aq (i:=8) mB.nd rfl (TW rfl) (cg hr l7 (AA (AI (AQ AL Ah (dv 0) AG)) (AA (AI (AQ AL Ah (dv 4) AG)) (AA (AI (dv 5)) (AA (AI (dv 6)) AM))))))
 (AK (AZ (Br (BY Ew HA (dv 7) BG (Ak _)) (CG (OQ (cg hr lu (AA (AI (dv 8)) (AA (AI (dv 1)) (AA (AI (dv 7)) AM))))))))))))))) Qm
theorem mC:Ad ["_law_net_here","_law_times_here","_law_pairs_here","_law_thin","_law_paper","_law_part","_law_many","_law_k","_law_order_here"] ["_law_net_here","_law_times_here","_law_pairs_here","_law_thin","_law_paper"] (AO G1):=by walk_at "s"
theorem PQ(T:Txt K mg)(mE:EY P w K mg base)(mF:FK P w K mg base)(mG:F5 P w K mg base)(mH:FA P w K mg base)(F:Fu K "_law_due" G1 f fd):A4 P w K mg base Bw 4 f fd ["_law_net_here","_law_times_here","_law_pairs_here","_law_thin","_law_paper"] (CO K .sh JF 5) :=
 Cv F mC (λhr=>(AH (Az (DTW.dt (BK (Ax (Au (cg hr mG (AA (AI (dv 0)) (AA (AI (dv 3)) AM))))) (BK (Ax (Au (Bc kit_tuple (dv 4) rfl T.Gaa rfl T.Gab (by decide +kernel)))) (BQ (An GX MX (Ab As Bj rfl T.Gac PySem.boot_len (AN (dv 4) AW)) AG (Ak _)))))) (AK (AZ (Ay (AF A6 (AF AG Ac))))) Aj)
 (AH (Ba di rfl (ED (B6 (AF (Ay (AF (AQ AL Ah (dv 4) AG) (AF (Ab As Bj rfl T.Gac PySem.boot_len (AN (dv 2) AW)) Ac))) (AF (Ay (AF (AQ AL Ah (dv 4) AG) (AF (Ab As Bj rfl T.Gac PySem.boot_len (AN (AQ AL Ah (dv 3) AG) AW)) Ac))) Ac)))) (Bb rfl (Ae (AT (i:=5) mC.nd rfl (TW rfl)) (Ae (AT (i:=6) mC.nd rfl (TW rfl)) BI))) (AK (Az (DTW.dt (BK (Ax (Au (Bc kit_tuple (dv 5) rfl T.Gaa rfl T.Gab (by decide +kernel)))) (BQ (An GX MX (Ab As Bj rfl T.Gac PySem.boot_len (AN (dv 5) AW)) (dv 6) (Ak _))))) (AK (AZ (Ay (AF A6 (AF AG Ac))))) Aj)))
 (AH (Ba di rfl (Ct rfl T.Gaf (AN (Ab As Bj rfl T.Gac PySem.boot_len (AN (dv 2) AW)) AW)) (AT (i:=7) mC.nd rfl (fe rfl)) (AK (Az (Ax (Au (cg hr mF (AA (AI (dv 0)) (AA (AI (dv 1)) (AA (AI (dv 3)) (AA (AI (AQ AL Ah (dv 2) (dv 7))) (AA (AI (AQ AL Ah (AQ AL Ah (dv 4) AG) (dv 7))) AM)))))))) (AK (AZ (Ay (AF A6 (AF (dv 7) Ac))))) Aj)))
 (AH (Aq (i:=8) mC.nd rfl (fe rfl) (cg hr mH (AA (AI (AQ AL Ah (dv 3) AG)) AM)))
 (AH (Ba di rfl (Ct rfl T.Gaf (AN (Ab As Bj rfl T.Gac PySem.boot_len (AN (dv 8) AW)) AW)) (AT (i:=7) mC.nd rfl (fe rfl)) (AK (Az (Ax (Au (cg hr mE (AA (AI (dv 0)) (AA (AI (dv 1)) (AA (AI (dv 2)) (AA (AI (L1 [("_law_order_here":Str),("_law_k":Str),("_law_tie":Str)] [some 8,some 7,none] (BH (AQ AL Ah (dv 3) AG)) (AT (i:=2) (show d_ [("_law_order_here":Str),("_law_k":Str),("_law_tie":Str)] by decide +kernel) rfl (TW rfl)) (GK (An (Fc hr) JZ (dv 2) (AQ AL Ah (dv 0) (dv 1)) (Ak _))) (dv 2) (by kernel_rfl))) (AA (AI (AQ AL Ah (AQ AL Ah (dv 4) AG) (dv 7))) AM)))))))) (AK (AZ (Ay (AF A6 (AF (dv 7) Ac))))) Aj)))
 (AK (AZ BG)))))))) Ut
theorem mI:Ad ["_law_net_here","_law_times_here","_law_pairs_here","_law_thin","_law_paper","_law_found"] ["_law_net_here","_law_times_here","_law_pairs_here","_law_thin","_law_paper"] (AO Gy):=by walk_at "s"
theorem PM(T:Txt K mg)(mJ:IB P w K mg base)(F:Fu K "_law_let" Gy f fd):A4 P w K mg base Bw 7 f fd ["_law_net_here","_law_times_here","_law_pairs_here","_law_thin","_law_paper"] (CO K .sh Lw 5) :=
 Cv F mI (λhr=>(AH (Aq (i:=5) mI.nd rfl (TW rfl) A6)
 (AH (XU (λ_ _ h=>h) (AK (Az (An Y6 bE (cg hr mJ (AA (AI (dv 0)) (AA (AI (dv 1)) (AA (AI (dv 2)) (AA (AI (dv 3)) (AA (AI (dv 4)) AM)))))) Bg (Ak _)) (AK (Aq (i:=5) mI.nd rfl (TW rfl) BG)) Aj)))
 (AK (AZ (dv 5)))))) Ur
end
section
variable {P:Program}{w:World}{K:Frag}{mg:Str->Option Value}{base:Heap}
theorem Nf:Ad ["_law_script"] ["_law_script"] (AO FZ):=by constructor <;> first | rfl | decide +kernel
theorem N8{f:Ch}{fd:eY}(T:Txt K mg)(F:Fun K "_law_feed" "_law_feed" FZ f fd):A4 P w K mg base Bw 1 f fd ["_law_script"] (NV K):=by
 refine F.ok Nf (λvs H Q E h=>?_) (λcdv A outer s H vs Q E hr h=>?_)
 ·obtain⟨a,ns,rfl,_⟩:=h
  rfl
 ·obtain⟨a,ns,rfl,⟨hl,hS⟩,q⟩:=h
  refine⟨_,Dr (G2 (Qu (Bl (Mj E4 rfl T.Gak boot_list (Bl (O_ sl_list (pv 0) Rx (Rv A9)) CW)) (Bl A9 (Bl A9 CW))))),?_⟩;refine⟨_,rfl,63,rfl,a,_,rfl,hS,λp hp=>⟨p,_,rfl,.inl (SqL.of Al),λc hc=>⟨by show 3<=sizeLine; decide,λg hg=>?_⟩⟩⟩;rw [bA hl] at hg ⊢;have ncg:c≠g:=λz=>by rw [← z,Al] at hg; cases hg
  exact q c g _ ncg (by rw [Ag ncg,Al]) Al
theorem mL:Ad ["_law_script","_law_feed_here","_law_some","_law_k","_law_net_here","_law_times_here","_law_pairs_here","_law_thin","_law_paper"] ["_law_script"] (AO Kp):=by walk_at "s"
theorem Y8{f ff:Ch}{fd fdf:eY}(T:Txt K mg)(Gf:A4 P w K mg base Bw 1 ff fdf ["_law_script"] (NV K))(mf:mg "_law_feed"=some (.ref ff))(kf:keepIn K (.ref ff)=true)(bf:Binds K fdf ["_law_script"] [])
  (mM:Ls P w K mg base) (mN:Lr P w K mg base) (mO:Lq P w K mg base) (mH:FA P w K mg base) (mP:IE P w K mg base) (mQ:Jf P w K mg base) (mR:ID P w K mg base) (mS:Gj P w K mg base) (F:Fun K "law" "law" Kp f fd):A4 P w K mg base Bw 8 f fd ["_law_script"] (Ow K):=by
 exact aq (n0:=3000) F mL rfl (by decide) (λcdv A outer s H E hr=>Fb (i:=1) mL.nd rfl (TW rfl) (Rz Gf (hr.mono (by decide)) rfl mf kf bf .nil X6 (Bl (pv 0) CW)))
  (λcdv A outer s H E hr=>(AH (Cy (i:=2) mL.nd rfl (TW rfl) (B6 Ac))
 (AH (Ba di rfl (Ct rfl T.Gaf (AN AG AW)) (AT (i:=3) mL.nd rfl (TW rfl)) (AH (Aq (i:=4) mL.nd rfl (TW rfl) (cg hr mO (AA (Cg 1) (AA (AI AG) (AA (AI AG) AM)))))
 (AH (Aq (i:=5) mL.nd rfl (TW rfl) (cg hr mR (AA (Cg 1) AM)))
 (AH (Aq (i:=6) mL.nd rfl (TW rfl) (cg hr mP (AA (Cg 1) (AA (AI (AQ AL Ah (dv 4) AG)) (AA (AI AG) AM)))))
 (AK (LZ 2 PySem.F.plainAttrs_list PySem.F.slot_list_append PySem.F.type_list_append DJ QJ (pv 2) (AF (Ay (AF (dv 4) (AF (dv 5) (AF (dv 6) (AF (cg hr mQ (AA (AI (dv 4)) (AA (AI (dv 5)) (AA (AI (dv 6)) (AA (AI (ZY (cg hr mH (AA (AI (AQ AL Ah (dv 4) AG)) AM)) (RF AG))) AM))))) Ac))))) Ac)))))))
 (AH (Ba di rfl (ED (BU Bz Cc (J8 2) (SW Wn Si (J8 2) J_ (J9 AG)))) (Bb rfl (Ae (AT (i:=4) mL.nd rfl (TW rfl)) (Ae (AT (i:=5) mL.nd rfl (TW rfl)) (Ae (AT (i:=6) mL.nd rfl (TW rfl)) (Ae (AT (i:=7) mL.nd rfl (TW rfl)) BI))))) (AH (Aq (i:=8) mL.nd rfl (TW rfl) (cg hr mS (AA (AI (dv 4)) (AA (AI (dv 5)) (AA (AI (dv 6)) AM)))))
 (AH (Az (An Ew HA (cg hr mM (AA (AI (dv 4)) (AA (AI (dv 5)) (AA (AI (dv 6)) (AA (AI (dv 7)) (AA (AI (dv 8)) AM)))))) BG (Ak _)) (AK (AZ Bg)) Aj)
 (AK (Az (An Ew HA (cg hr mN (AA (AI (dv 4)) (AA (AI (dv 5)) (AA (AI (dv 6)) (AA (AI (dv 7)) (AA (AI (dv 8)) AM)))))) BG (Ak _)) (AK (AZ Bg)) Aj)))))
 (AK (AZ Bg)))))) Qo
end
theorem G5{β:Type}{n:Nat}(g k:List Db->β)(us:List Db)(h:us.length=n+1)(c:∀(a:Db) (r:List Db),r.length=n->g (a::r)=k (a::r)):g us=k us:=by
 cases us with
 | nil=>cases h
 | cons a r=>exact c a r (Nat.succ.inj h)
theorem len0{β:Type}(g k:List Db->β)(us:List Db)(h:us.length=0)(c:g []=k []):g us=k us:=by
 cases us with
 | nil=>exact c
 | cons a r=>cases h
theorem cq{d:eY}{ps:List Str}(c:∀a0:Db,bindArgs d ⟨[a0],[]⟩=pure (ps.zip [a0]))(us:List Db)(h:us.length=1):bindArgs d ⟨us,[]⟩=pure (ps.zip us):=G5 (λr=>bindArgs d ⟨r,[]⟩) (λr=>pure (ps.zip (r))) us h λa0 r h=>len0 (λr=>bindArgs d ⟨a0::r,[]⟩) (λr=>pure (ps.zip (a0::r))) r h (c a0)
theorem dJ{d:eY}{ps:List Str}(c:∀a0 a1:Db,bindArgs d ⟨[a0,a1],[]⟩=pure (ps.zip [a0,a1]))(us:List Db)(h:us.length=2):bindArgs d ⟨us,[]⟩=pure (ps.zip us):=G5 (λr=>bindArgs d ⟨r,[]⟩) (λr=>pure (ps.zip (r))) us h λa0 r h=>G5 (λr=>bindArgs d ⟨a0::r,[]⟩) (λr=>pure (ps.zip (a0::r))) r h λa1 r h=>len0 (λr=>bindArgs d ⟨a0::a1::r,[]⟩) (λr=>pure (ps.zip (a0::a1::r))) r h (c a0 a1)
theorem dI{d:eY}{ps:List Str}(c:∀a0 a1 a2:Db,bindArgs d ⟨[a0,a1,a2],[]⟩=pure (ps.zip [a0,a1,a2]))(us:List Db)(h:us.length=3):bindArgs d ⟨us,[]⟩=pure (ps.zip us):=G5 (λr=>bindArgs d ⟨r,[]⟩) (λr=>pure (ps.zip (r))) us h λa0 r h=>G5 (λr=>bindArgs d ⟨a0::r,[]⟩) (λr=>pure (ps.zip (a0::r))) r h λa1 r h=>G5 (λr=>bindArgs d ⟨a0::a1::r,[]⟩) (λr=>pure (ps.zip (a0::a1::r))) r h λa2 r h=>len0 (λr=>bindArgs d ⟨a0::a1::a2::r,[]⟩) (λr=>pure (ps.zip (a0::a1::a2::r))) r h (c a0 a1 a2)
theorem dH{d:eY}{ps:List Str}(c:∀a0 a1 a2 a3:Db,bindArgs d ⟨[a0,a1,a2,a3],[]⟩=pure (ps.zip [a0,a1,a2,a3]))(us:List Db)(h:us.length=4):bindArgs d ⟨us,[]⟩=pure (ps.zip us):=G5 (λr=>bindArgs d ⟨r,[]⟩) (λr=>pure (ps.zip (r))) us h λa0 r h=>G5 (λr=>bindArgs d ⟨a0::r,[]⟩) (λr=>pure (ps.zip (a0::r))) r h λa1 r h=>G5 (λr=>bindArgs d ⟨a0::a1::r,[]⟩) (λr=>pure (ps.zip (a0::a1::r))) r h λa2 r h=>G5 (λr=>bindArgs d ⟨a0::a1::a2::r,[]⟩) (λr=>pure (ps.zip (a0::a1::a2::r))) r h λa3 r h=>len0 (λr=>bindArgs d ⟨a0::a1::a2::a3::r,[]⟩) (λr=>pure (ps.zip (a0::a1::a2::a3::r))) r h (c a0 a1 a2 a3)
theorem dG{d:eY}{ps:List Str}(c:∀a0 a1 a2 a3 a4:Db,bindArgs d ⟨[a0,a1,a2,a3,a4],[]⟩=pure (ps.zip [a0,a1,a2,a3,a4]))(us:List Db)(h:us.length=5):bindArgs d ⟨us,[]⟩=pure (ps.zip us):=G5 (λr=>bindArgs d ⟨r,[]⟩) (λr=>pure (ps.zip (r))) us h λa0 r h=>G5 (λr=>bindArgs d ⟨a0::r,[]⟩) (λr=>pure (ps.zip (a0::r))) r h λa1 r h=>G5 (λr=>bindArgs d ⟨a0::a1::r,[]⟩) (λr=>pure (ps.zip (a0::a1::r))) r h λa2 r h=>G5 (λr=>bindArgs d ⟨a0::a1::a2::r,[]⟩) (λr=>pure (ps.zip (a0::a1::a2::r))) r h λa3 r h=>G5 (λr=>bindArgs d ⟨a0::a1::a2::a3::r,[]⟩) (λr=>pure (ps.zip (a0::a1::a2::a3::r))) r h λa4 r h=>len0 (λr=>bindArgs d ⟨a0::a1::a2::a3::a4::r,[]⟩) (λr=>pure (ps.zip (a0::a1::a2::a3::a4::r))) r h (c a0 a1 a2 a3 a4)
noncomputable def Ht(K:Frag)(x:Str)(st:eA):Prop:=∃(f:Ch) (oc:Db) (od an:Option Ch) (sl:Array (Option Db)) (kV dc pm cd ct:Db),nsIn K mainGlobals x=some (some (.ref f))/\K.lookup f=some ⟨oc,od,.func (fnOf x x (Dt st) (CK st) (AO st) .none kV dc pm an cd ct),sl⟩/\codeIn K cd x=true/\keepIn K (.ref f)=true
noncomputable def Hn(K:Frag)(x:Str):Prop:=nsIn K mainGlobals x=some none
theorem Ht.mk{K:Frag}{x:Str}{st:eA}{f:Ch}{oc:Db}{od an:Option Ch}{sl:Array (Option Db)}{kV dc pm cd ct:Db}(a:nsIn K mainGlobals x=some (some (.ref f)))(l:K.lookup f=some ⟨oc,od,.func (fnOf x x (Dt st) (CK st) (AO st) .none kV dc pm an cd ct),sl⟩)(c:codeIn K cd x=true)(k:keepIn K (.ref f)=true):Ht K x st:=⟨f,oc,od,an,sl,kV,dc,pm,cd,ct,a,l,c,k⟩
theorem Hn.mk{K:Frag}{x:Str}(a:nsIn K mainGlobals x=some none):Hn K x:=a
section
variable {P:Program}{w:World}{K:Frag}{mg:Str->Option Value}{h base:Heap}{x:Str}{st:Stmt}
theorem Ht.fn(X:K.In h)(G:h.Ns mainGlobals mg)(H:Ht K x st):∃f fd,mg x=some (.ref f)/\Fun K x x st f fd:=by
 obtain⟨f,oc,od,an,sl,kV,dc,pm,cd,ct,a,l,c,k⟩:=H;exact⟨f,_,mg_of X G a,Vl (st:=st) l c k⟩
theorem Ht.got{k:Nat}{ps:List Str}{κ:Kd}{W:W2}(X:K.In h)(G:h.Ns mainGlobals mg)(H:Ht K x st)(hW:∀ss n P,W ss n P->ss.length=ps.length)
  (hb:∀(kV doc pm:Db) (an:Option Ch) (cdv ct:Db) (us:List Db),us.length=ps.length->bindArgs (fnOf x x (Dt st) (CK st) (AO st) .none kV doc pm an cdv ct) ⟨us,[]⟩=pure (ps.zip us))
  (ok:∀{f:Ch} {fd:eY},Fun K x x st f fd->mg x=some (.ref f)->Binds K fd ps []->A4 P w K mg base Bw k f fd ps (CO K κ W ps.length)):Got P w K mg base x k ps κ W:=by
 obtain⟨f,fd,m,F⟩:=H.fn X G;have b:=F.binds hb;exact ZQ F m b hW (ok F m b)
end
local macro_rules | `(tactic| walk_at "l")=>`(tactic| (intro _ _ _ h; repeat (first | (obtain⟨e,_⟩:=h; subst e; rfl) | (obtain⟨_,h⟩:=h))))
local macro_rules | `(tactic| walk_at "b")=>`(tactic| (intro _ _ _ _ _ _; first | exact cq λ_=>rfl | exact dJ λ_ _=>rfl | exact dI λ_ _ _=>rfl | exact dH λ_ _ _ _=>rfl | exact dG λ_ _ _ _ _=>rfl))
theorem all_mk{l:PySem.W.OpenLaw}{w:eG}{K:Frag}{h:dg}{mg:Str->Option Db}{fa:Ch}(X:K.In h)(G:h.Ns mainGlobals mg)(hfa:mg "law"=some (.ref fa))
  (h0:Ht K "is_whole" Gv) (h1:Ht K "is_tuple_of" D7) (h2:Ht K "is_rising" FV) (h3:Ht K "rank_of" Ic) (h4:Ht K "order_of" Gu) (h5:Ht K "steps_of" Gr) (h6:Ht K "only" Qe) (h7:Ht K "is_tie_of" FU) (h8:Ht K "is_thin" Ie) (h9:Ht K "without" Ib) (h10:Ht K "length_of" FS) (h11:Ht K "length_between" Ck) (h12:Ht K "nearest_of" Eh) (h13:Ht K "least_ways" Ek) (h14:Ht K "far" Uj) (h15:Ht K "way_of" Ko) (h16:Ht K "are_prices" Em) (h17:Ht K "price_gap" FQ) (h18:Ht K "is_fair" Ih) (h19:Ht K "prices_from" D5) (h20:Ht K "is_within" FT) (h21:Ht K "least_beyond" DM) (h22:Ht K "lengths_of" Ej) (h23:Ht K "first_lost" El) (h24:Ht K "thinned_for_pairs" CD) (h25:Ht K "shown_of" Gs) (h26:Ht K "needed_of" FR) (h27:Ht K "pairs_paper" D6) (h28:Ht K "shows_near" Eg) (h29:Ht K "is_side" Ig) (h30:Ht K "shows_apart" D4) (h31:Ht K "is_shown" Gw) (h32:Ht K "is_needed" FW) (h33:Ht K "has_shape" FX) (h34:Ht K "lets_pairs" Ei) (h35:Ht K "_law_feed" FZ) (h36:Ht K "_law_next" Dq) (h37:Ht K "_law_names" Es) (h38:Ht K "_law_length" D9) (h39:Ht K "_law_net" Gx) (h40:Ht K "_law_order" Er) (h41:Ht K "_law_lengths" DN) (h42:Ht K "_law_times" Eo) (h43:Ht K "_law_within" D8) (h44:Ht K "_law_whole" En) (h45:Ht K "_law_is_thin" DP) (h46:Ht K "_law_led" Gz) (h47:Ht K "_law_is_fair" DR) (h48:Ht K "_law_gap" G0) (h49:Ht K "_law_pairs" Ep) (h50:Ht K "_law_keeps" Et) (h51:Ht K "_law_stay" FY) (h52:Ht K "_law_is_side" DQ) (h53:Ht K "_law_is_shown" C6) (h54:Ht K "_law_is_needed" Co) (h55:Ht K "_law_due" G1) (h56:Ht K "_law_let" Gy) (h57:Ht K "law" Kp)
  (z0:Hn K "abs") (z1:Hn K "all") (z2:Hn K "bool") (z3:Hn K "enumerate") (z4:Hn K "int") (z5:Hn K "isinstance") (z6:Hn K "len") (z7:Hn K "list") (z8:Hn K "min") (z9:Hn K "range") (z10:Hn K "reversed") (z11:Hn K "set") (z12:Hn K "sorted") (z13:Hn K "str") (z14:Hn K "tuple") (z15:Hn K "zip") 
  : ∃fd:eY,(∀(s:On) (v:Db),je s fd ⟨[v],[]⟩ [("_law_script",v)])/\∀base:dg,K.In base->base.Ns mainGlobals mg->A4 l.prog w K mg base Bw 8 fa fd ["_law_script"] (Ow K):=by
 have T:Txt K mg:=⟨mg_none_of X G z0,mg_none_of X G z1,mg_none_of X G z2,mg_none_of X G z3,mg_none_of X G z4,mg_none_of X G z5,mg_none_of X G z6,mg_none_of X G z7,mg_none_of X G z8,mg_none_of X G z9,mg_none_of X G z10,mg_none_of X G z11,mg_none_of X G z12,mg_none_of X G z13,mg_none_of X G z14,mg_none_of X G z15⟩;obtain⟨ff,ffd,mf,Ff⟩:=h35.fn X G;have bf:=Ff.binds (ps:=["_law_script"]) λ_ _ _ _ _ _=>cq λ_=>rfl;obtain⟨f,oc,od,an,sl,kV,dc,pm,cd,ct,a,l',c,k⟩:=h57;have e:=hfa.symm.trans (mg_of X G a);cases e;refine⟨fnOf "law" "law" (Dt Kp) (CK Kp) (AO Kp) .none kV dc pm an cd ct,λs v=>.of_eq rfl,λbase _ _=>?_⟩;have kT:E9 l.prog w K mg base:=h0.got X G (λ_ _ _ h=>Mi h) (by walk_at "b") λF m b=>PJ T  F;have kX:Bx l.prog w K mg base:=h1.got X G (by walk_at "l") (by walk_at "b") λF m b=>LB T  F;have kU:F3 l.prog w K mg base:=h2.got X G (by walk_at "l") (by walk_at "b") λF m b=>N4 T  F;have kQ:NI l.prog w K mg base:=h3.got X G (by walk_at "l") (by walk_at "b") λF m b=>Qz T  F;have k_:E7 l.prog w K mg base:=h4.got X G (by walk_at "l") (by walk_at "b") λF m b=>PH T kQ F;have kc:HC l.prog w K mg base:=h5.got X G (by walk_at "l") (by walk_at "b") λF m b=>PD F;have kY:RT l.prog w K mg base:=h6.got X G (by walk_at "l") (by walk_at "b") λF m b=>W6 T  F;have kW:Jc l.prog w K mg base:=h7.got X G (by walk_at "l") (by walk_at "b") λF m b=>N3 T kT F;have lV:NJ l.prog w K mg base:=h8.got X G (by walk_at "l") (by walk_at "b") λF m b=>Q0 T kU kW kX F;have lA:GN l.prog w K mg base:=h9.got X G (by walk_at "l") (by walk_at "b") λF m b=>Qy T kY F;have ke:Jb l.prog w K mg base:=h10.got X G (by walk_at "l") (by walk_at "b") λF m b=>N1 T kc F;have lM:Cu l.prog w K mg base:=h11.got X G (by walk_at "l") (by walk_at "b") λF m b=>HU T ke F;have kh:IA l.prog w K mg base:=h12.got X G (by walk_at "l") (by walk_at "b") λF m b=>MF T  F;have kj:Cd l.prog w K mg base:=h13.got X G (by walk_at "l") (by walk_at "b") λF m b=>MI T kh kc F;have ku:Sl l.prog w K mg base:=h14.got X G (by walk_at "l") (by walk_at "b") λF m b=>Y9 T kj F;have lD:Ln l.prog w K mg base:=h15.got X G (by walk_at "l") (by walk_at "b") λF m b=>TZ T kj F;have ko:IC l.prog w K mg base:=h16.got X G (by walk_at "l") (by walk_at "b") λF m b=>MK T kX kT F;have kq:Dw l.prog w K mg base:=h17.got X G (by walk_at "l") (by walk_at "b") λF m b=>Nz T  F;have lL:JE l.prog w K mg base:=h18.got X G (by walk_at "l") (by walk_at "b") λF m b=>Q2 T ko kq F;have lC:EG l.prog w K mg base:=h19.got X G (by walk_at "l") (by walk_at "b") λF m b=>K_ T kj F;have k6:Dx l.prog w K mg base:=h20.got X G (by walk_at "l") (by walk_at "b") λF m b=>N2 T  F;have lF:F2 l.prog w K mg base:=h21.got X G (by walk_at "l") (by walk_at "b") λF m b=>Jp T  F;have k9:E8 l.prog w K mg base:=h22.got X G (by walk_at "l") (by walk_at "b") λF m b=>MH T ku F;have k8:E_ l.prog w K mg base:=h23.got X G (by walk_at "l") (by walk_at "b") λF m b=>MJ T ku k6 F;have lJ:DA l.prog w K mg base:=h24.got X G (by walk_at "l") (by walk_at "b") λF m b=>Fe T k8 k9 kY k_ lA F;have lI:Lo l.prog w K mg base:=h25.got X G (by walk_at "l") (by walk_at "b") λF m b=>PF T ku kj lC lD F;have lH:Ja l.prog w K mg base:=h26.got X G (by walk_at "l") (by walk_at "b") λF m b=>N0 T k8 lF lC lD F;have mS:Gj l.prog w K mg base:=h27.got X G (by walk_at "l") (by walk_at "b") λF m b=>LA T k9 lH k_ lI lJ lA F;have lP:H_ l.prog w K mg base:=h28.got X G (by walk_at "l") (by walk_at "b") λF m b=>ME T lL k6 lM kq F;have lN:NK l.prog w K mg base:=h29.got X G (by walk_at "l") (by walk_at "b") λF m b=>Q1 T kU F;have lO:Gi l.prog w K mg base:=h30.got X G (by walk_at "l") (by walk_at "b") λF m b=>K9 T lN F;have lU:Lp l.prog w K mg base:=h31.got X G (by walk_at "l") (by walk_at "b") λF m b=>PK T kX lO lP F;have lT:Jd l.prog w K mg base:=h32.got X G (by walk_at "l") (by walk_at "b") λF m b=>N5 T lL kX kT k6 lM kq F;have lS:Je l.prog w K mg base:=h33.got X G (by walk_at "l") (by walk_at "b") λF m b=>N6 T kX F;have mJ:IB l.prog w K mg base:=h34.got X G (by walk_at "l") (by walk_at "b") λF m b=>MG T lS lT lU lV k_ lA F;have Gf:=N8 (P:=l.prog) (w:=w) (base:=base) T Ff;have lX:CQ l.prog w K mg base:=h36.got X G (by walk_at "l") (by walk_at "b") λF m b=>W7 F T.Gac;have lc:IF l.prog w K mg base:=h37.got X G (by walk_at "l") (by walk_at "b") λF m b=>MP T lX F;have lZ:Gk l.prog w K mg base:=h38.got X G (by walk_at "l") (by walk_at "b") λF m b=>LD T lX F;have mO:Lq l.prog w K mg base:=h39.got X G (by walk_at "l") (by walk_at "b") λF m b=>PL T lZ lc lX F;have mH:FA l.prog w K mg base:=h40.got X G (by walk_at "l") (by walk_at "b") λF m b=>MO T  F;have lr:F4 l.prog w K mg base:=h41.got X G (by walk_at "l") (by walk_at "b") λF m b=>Jq T  F;have mR:ID l.prog w K mg base:=h42.got X G (by walk_at "l") (by walk_at "b") λF m b=>MM T lX F;have lu:Cz l.prog w K mg base:=h43.got X G (by walk_at "l") (by walk_at "b") λF m b=>LC T  F;have lj:DF l.prog w K mg base:=h44.got X G (λ_ _ _ h=>Mi h) (by walk_at "b") λF m b=>ML T  F;have mG:F5 l.prog w K mg base:=h45.got X G (by walk_at "l") (by walk_at "b") λF m b=>Jr T lj F;have l_:HD l.prog w K mg base:=h46.got X G (by walk_at "l") (by walk_at "b") λF m b=>PN T  F;have l8:Df l.prog w K mg base:=h47.got X G (by walk_at "l") (by walk_at "b") λF m b=>Jt T lj F;have l7:HE l.prog w K mg base:=h48.got X G (by walk_at "l") (by walk_at "b") λF m b=>PP T  F;have mP:IE l.prog w K mg base:=h49.got X G (by walk_at "l") (by walk_at "b") λF m b=>MN T lX F;have lw:IG l.prog w K mg base:=h50.got X G (by walk_at "l") (by walk_at "b") λF m b=>MQ T lr lu F;have mQ:Jf l.prog w K mg base:=h51.got X G (by walk_at "l") (by walk_at "b") λF m b=>N7 T lw F;have l9:F6 l.prog w K mg base:=h52.got X G (by walk_at "l") (by walk_at "b") λF m b=>Js T  F;have mF:FK l.prog w K mg base:=h53.got X G (by walk_at "l") (by walk_at "b") λF m b=>Io T l7 l8 l9 l_ lu F;have mE:EY l.prog w K mg base:=h54.got X G (by walk_at "l") (by walk_at "b") λF m b=>HV T l7 l8 l_ lj lu F;have mM:Ls l.prog w K mg base:=h55.got X G (by walk_at "l") (by walk_at "b") λF m b=>PQ T mE mF mG mH F;have mN:Lr l.prog w K mg base:=h56.got X G (by walk_at "l") (by walk_at "b") λF m b=>PM T mJ F;exact Y8 T Gf mf Ff.kp bf mM mN mO mH mP mQ mR mS (Vl (st:=Kp) l' c k)
theorem walk{l:PySem.W.OpenLaw}{q:eB}{loose:List Str}{XP:(Str->Option Db)->dg->Prop}{YP:eG->dg->Prop}{d:DefRec}{K:Params->Frag}(hn:l.most=some 63)(hdf:d.params.defaults=[])
  (hY:∀(w:eG) (h:dg),YP w h->(K w.params).In h)
  (F:∀(w:eG) (mg:Str->Option Db) (fa:Ch) (h:dg),(K w.params).In h->h.Ns mainGlobals mg->mg d.name=some (.ref fa) ->
   ∃fd:eY,(∀(s:On) (u:Db),je s fd ⟨[u],[]⟩ [("_law_script",u)])/\∀base:dg,(K w.params).In base->base.Ns mainGlobals mg->A4 l.prog w (K w.params) mg base Bw 8 fa fd ["_law_script"] (Ow (K w.params))) :
  PySem.W.WalkO q loose XP YP l.row.toRowW d [] (λf vs=>PySem.call f vs) :=
 L2.RY (n:=63) (k:=8) (x := "_law_script") (CX:=λ_=>Bw) (sp:=λw=>Ow (K w.params)) hn (by decide) hdf ⟨rfl,by decide,by decide,rfl⟩ hY F (λ_ _ a ns hl _ hS=>⟨a,ns,rfl,⟨hl,hS⟩,λ_=>rfl⟩) λ_ _ _ _ _ z=>z
end K37
end _p
namespace PySem.W.Fast
theorem tw10413178457699359563:True:=⟨⟩
theorem tw8629506922819301963:True:=⟨⟩
theorem tw8487051329248416200:True:=⟨⟩
theorem tw2470934871394657333:True:=⟨⟩
theorem tw8946317830530454322:True:=⟨⟩
theorem tw16059354871679895738:True:=⟨⟩
theorem tw14932030657543288033:True:=⟨⟩
theorem tw12840727644323575673:True:=⟨⟩
theorem tw12792006773396326405:True:=⟨⟩
theorem tw6324694373710397599:True:=⟨⟩
theorem tw1124954586195828885:True:=⟨⟩
theorem tw4175575049022634578:True:=⟨⟩
theorem tw357683771668934405:True:=⟨⟩
theorem tw8189679310250482147:True:=⟨⟩
theorem tw8624682227003424251:True:=⟨⟩
theorem tw2556243645111320945:True:=⟨⟩
theorem tw2906814794801731794:True:=⟨⟩
theorem tw2559572982956801249:True:=⟨⟩
theorem tw1196093375893959024:True:=⟨⟩
theorem tw15368553837295428456:True:=⟨⟩
theorem tw18232065590404166595:True:=⟨⟩
theorem tw8496485402290221720:True:=⟨⟩
theorem tw11161155718094227398:True:=⟨⟩
theorem tw1804859526689475753:True:=⟨⟩
theorem tw7021916592305489434:True:=⟨⟩
theorem tw11421284854401645138:True:=⟨⟩
theorem tw6562705732344065955:True:=⟨⟩
theorem tw2690209758514540928:True:=⟨⟩
theorem tw2869979409381711034:True:=⟨⟩
theorem tw2790754399499919120:True:=⟨⟩
theorem tw1274244075072638644:True:=⟨⟩
theorem tw17174888523032905454:True:=⟨⟩
theorem tw16738833566216895293:True:=⟨⟩
theorem tw11984239081177947118:True:=⟨⟩
theorem tw1046461802920107908:True:=⟨⟩
theorem tw932467537780478819:True:=⟨⟩
theorem tw5815751984161731342:True:=⟨⟩
theorem tw4970521174242379340:True:=⟨⟩
theorem tw15687524167255778350:True:=⟨⟩
theorem tw17807228254147795031:True:=⟨⟩
theorem tw7401092921786785666:True:=⟨⟩
theorem tw10818414852845098268:True:=⟨⟩
theorem tw11732017454453972992:True:=⟨⟩
theorem tw1112945895815436203:True:=⟨⟩
theorem tw7430710142056497419:True:=⟨⟩
theorem tw15591422239418218602:True:=⟨⟩
theorem tw10928329190998489763:True:=⟨⟩
theorem tw2288137074607994351:True:=⟨⟩
theorem tw2380517819509062803:True:=⟨⟩
theorem tw17237912434960022589:True:=⟨⟩
theorem tw10199365438839162711:True:=⟨⟩
theorem tw17811425046971544583:True:=⟨⟩
theorem tw12341768211091216922:True:=⟨⟩
theorem tw8401620396650849099:True:=⟨⟩
theorem tw3901297678407853711:True:=⟨⟩
theorem tw7132383935931858954:True:=⟨⟩
theorem tw3698061474697450634:True:=⟨⟩
theorem tw16238411870658733806:True:=⟨⟩
theorem tw15555005097849078999:True:=⟨⟩
theorem tw6096963708797330904:True:=⟨⟩
theorem tw12426203396915576871:True:=⟨⟩
theorem tw16807223856225712270:True:=⟨⟩
theorem tw17698789672704951552:True:=⟨⟩
theorem tw12088646212450881101:True:=⟨⟩
theorem tw505655892409269280:True:=⟨⟩
theorem tw13945323735615367319:True:=⟨⟩
theorem tw16393714996033376945:True:=⟨⟩
theorem tw4374085288233655346:True:=⟨⟩
theorem tw15135502487285477798:True:=⟨⟩
theorem tw9856647047881422373:True:=⟨⟩
theorem tw2212716097363280748:True:=⟨⟩
theorem tw3079679061806731070:True:=⟨⟩
theorem tw13945240063232675592:True:=⟨⟩
theorem tw8304288829998440112:True:=⟨⟩
theorem tw9990785792725460564:True:=⟨⟩
theorem tw16241815199069326516:True:=⟨⟩
theorem tw13703152899960697111:True:=⟨⟩
theorem tw13978672293084895199:True:=⟨⟩
theorem tw9653899428861807618:True:=⟨⟩
theorem tw7566474650210641470:True:=⟨⟩
theorem tw241102184866533398:True:=⟨⟩
theorem tw3481529068739960016:True:=⟨⟩
theorem tw1901474503107122752:True:=⟨⟩
theorem tw5052965188997860601:True:=⟨⟩
theorem tw18080609395007129460:True:=⟨⟩
theorem tw3452531320913839108:True:=⟨⟩
theorem tw16655425869121577410:True:=⟨⟩
theorem tw1918821231257427182:True:=⟨⟩
theorem tw14483970605939118867:True:=⟨⟩
theorem tw7645903890050441023:True:=⟨⟩
theorem tw13227389689568356995:True:=⟨⟩
theorem tw55499434551576445:True:=⟨⟩
theorem tw3252712839958895239:True:=⟨⟩
theorem tw4792215795077290803:True:=⟨⟩
theorem tw3812852917599320436:True:=⟨⟩
theorem tw3961146292564540409:True:=⟨⟩
theorem tw13816003493042345702:True:=⟨⟩
theorem tw16655894853931074435:True:=⟨⟩
theorem tw11256350799069996422:True:=⟨⟩
theorem tw14777897196056036722:True:=⟨⟩
theorem tw10668426748214740031:True:=⟨⟩
theorem tw5682864567082552727:True:=⟨⟩
theorem tw13444932064503129853:True:=⟨⟩
theorem tw18367782134655189496:True:=⟨⟩
theorem tw239047267480280413:True:=⟨⟩
theorem tw1389265241125673679:True:=⟨⟩
theorem tw6519255344413131285:True:=⟨⟩
theorem tw2472718973386143314:True:=⟨⟩
theorem tw5658973026727530152:True:=⟨⟩
theorem tw13323806328078212494:True:=⟨⟩
theorem tw16634284004970800263:True:=⟨⟩
theorem tw8490955242974992459:True:=⟨⟩
theorem tw12437106866754233308:True:=⟨⟩
theorem tw1502399182490139782:True:=⟨⟩
theorem tw5838187133614149686:True:=⟨⟩
theorem tw17074438614751773801:True:=⟨⟩
theorem tw11303052743501532661:True:=⟨⟩
theorem tw7798114669118340726:True:=⟨⟩
theorem tw2610481334815742175:True:=⟨⟩
theorem tw9708320436671259369:True:=⟨⟩
end PySem.W.Fast
open _p
open PySem.W
set_option maxRecDepth 100000 in
set_option maxHeartbeats 0 in
theorem PySem.Challenge.cw_thinnet_k37_papers_of_pairs_holds : PySem.Challenge.rw_thinnet_k37_papers_of_pairs.Holds := by
 w_on; o_law; k_head; (case hw=>w_witness2)
 k_fill
 refine K37.walk (l:=PySem.Challenge.rw_thinnet_k37_papers_of_pairs) rfl rfl (λw h Y=>PySem.W.kIn_of Y) ?F
 case F =>
  intro w mg fa h KX G hmg
  refine' K37.all_mk KX G hmg ?_ ?_ ?_ ?_ ?_ ?_ ?_ ?_ ?_ ?_ ?_ ?_ ?_ ?_ ?_ ?_ ?_ ?_ ?_ ?_ ?_ ?_ ?_ ?_ ?_ ?_ ?_ ?_ ?_ ?_ ?_ ?_ ?_ ?_ ?_ ?_ ?_ ?_ ?_ ?_ ?_ ?_ ?_ ?_ ?_ ?_ ?_ ?_ ?_ ?_ ?_ ?_ ?_ ?_ ?_ ?_ ?_ ?_ ?_ ?_ ?_ ?_ ?_ ?_ ?_ ?_ ?_ ?_ ?_ ?_ ?_ ?_ ?_ ?_
  all_goals first
   | (refine' K37.Ht.mk ?a ?l ?c ?k; (case a=>k_is); (case l=>k_is); (case c=>k_is); (case k=>k_is))
   | (refine' K37.Hi.mk ?a; (case a=>k_is))
   | (refine' K37.Hn.mk ?a; (case a=>k_is))
#print axioms PySem.Challenge.cw_thinnet_k37_papers_of_pairs_holds

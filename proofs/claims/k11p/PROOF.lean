import PyProof.Rows.All
import Wide.All
import OpenK.AllK
import Wide.FinOn
import Lean
import PyProof.EqAt
import PyProof.EqKinds
import PyProof.TupleCall
import PyProof.StationsW
import PyProof.PassesOwn
import PyProof.RulesAs
import PyProof.ExcClass3
import PyProof.Rows.CatchOwn
import OpenK.KMake
import OpenK.KWalk
import PyProof.InstStoreFacts
import PyProof.ExcBaseAll.ValueError
import PyProof.RangeIter
import OpenK.KRaise
import PyProof.NsDelKeeps
import KE.KIsAll
import PyProof.P3In
import PyProof.NeData
import PyProof.ReprLen
import PyProof.CompUse
import KE.KSortTup
import PyProof.SumAny
import PyProof.Rows.SeqCalls
import KE.KRevIter
import PyProof.TupleOfGen
import PyProof.CollectIter
import PyProof.Draws
import PyProof.EnumMake
import PyProof.ListNew
import PyProof.AttrMissHeap
import PyProof.FactsAll.dict
import KE.KEqDict
import KE.KDictSum
import PyProof.ConsumeS
import PyProof.WalkInts
import PyProof.FactsAll.zip
import PySem.Challenge.RW_thinnet_k11_greedy_papers_told
open PySem.W (Frag nsIn keepIn fnOf codeIn mg_of mg_none_of)
set_option Elab.async false
set_option linter.all false
set_option maxRecDepth 100000
open Array renaming length_toList->eP,getElem?_eq_getElem->g7,getElem?_eq_some_iff->jM,getElem_mem->jS,mem_toList_iff->j_
open Array.Perm renaming refl->jo
open Bool renaming and_eq_true->UF,false_ne_true->dH,eq_iff_iff->eG,true_and->fP,eq_false_iff->fX,false_eq_true->fg,false_and->gJ,not_eq_true'->gc,and_true->iM,and_false->iz,or_false->kC
open Char renaming toNat->kB
open Classical renaming propDecidable->fT,byContradiction->jU
open False renaming elim->fQ
open ForInStep renaming yield->fj
open Int renaming toNat_natCast->gE,le_refl->gI,mul_le_mul_of_nonneg_left->ip,mul_nonneg->i6,eq_ofNat_of_zero_le->jj
open List renaming getElem?_eq_getElem->FM,length_map->Go,mem_cons_self->On,mem_map->Re,mem_cons_of_mem->Rs,mem_singleton->TM,size_toArray->Tk,mem_cons->T0,replicate->XV,length_cons->c6,getElem?_eq_some_iff->c8,length_append->c9,map_cons->dA,not_mem_nil->dB,getElem?_map->dC,nil_append->dE,mem_append_right->dG,getD_eq_getElem?_getD->dI,mem_append->dN,nodup_cons->dP,toArray->dQ,length_singleton->dR,Nodup->dS,all_eq_true->dU,range->dW,append_nil->dX,append_assoc->dg,mem_append_left->di,map_append->dq,nodup_nil->d8,pairwise_cons->eA,map_map->eF,nodup_append->eJ,mem_range->eM,getElem?_append_right->eQ,getElem_mem->eZ,any_eq_true->ef,mem_of_getElem?->eo,length_nil->e6,drop_eq_getElem_cons->e7,length_take->fC,lt_irrefl->fE,length_range->fG,length->fN,pairwise_map->fW,all_cons->fY,mem_flatMap->fZ,cons_ne_nil->fb,length_eq_zero_iff->fk,length_drop->fm,lookup_cons->fo,zipWith->f7,length_set->f_,mem_iff_getElem?->gA,flatMap_cons->gF,getElem?_append_left->gG,filter_cons_of_neg->gO,mem_filter->gQ,find?_cons->gS,map_nil->gf,getElem?_zipWith->gh,getElem?_eq_none->gi,drop_length->gl,mem_of_mem_take->gm,mem_of_mem_drop->gn,cons_append->gq,length_zipWith->gu,map_congr_left->gv,toList_toArray->gw,forIn_cons->gy,mem_of_find?_eq_some->gz,all_map->g_,length_erase_of_mem->hV,getElem?_replicate->iB,pairwise_singleton->iC,filter_cons_of_pos->iD,reverse_cons->iE,take_of_length_le->iG,find?_cons_of_pos->iI,find?_cons_of_neg->iJ,length_pos_of_mem->iK,sum_cons->iL,singleton_append->iP,length_filter_le->iQ,of_mem_zip->iV,pairwise_append->ig,length_zip->im,mem_iff_getElem->io,filterMap_cons->iq,getElem?_range->ir,length_reverse->iu,zip_cons_cons->i9,any_cons->jF,lt_trans->jI,perm_ext_iff_of_nodup->jL,getElem?_set->jP,pairwise_iff_getElem->jV,take_length->jf,getElem?_cons_succ->ji,getLast?_cons_cons->jl,find?_some->jp,getElem?_set_self->jr,range_succ_eq_map->ju,length_replicate->jy,drop_zero->jz,take_append_drop->j7,any_map->kN
open List.Pairwise renaming nil->jN,imp_of_mem->jg
open List.Sublist renaming refl->kP
open List.cons renaming inj->em
open Nat renaming le_refl->Sc,zero_le->dD,ne_of_lt->dJ,lt_of_lt_of_le->dY,le_trans->de,lt_irrefl->d9,le_succ->fO,lt_succ_of_lt->fV,min_le_right->gj,ne_of_gt->g9,succ_le_succ->iN,le_of_lt->iT,sub_self->ic,mod_lt->ie,min_eq_left->ii,not_lt->jT,le_of_eq->jZ,lt_trans->ja,lt_succ_self->jb,sub_zero->jc
open Ne renaming symm->eW
open Option renaming map_eq_some_iff->d6,isSome_map->jO
open Option.some renaming inj->c_
open Or renaming inl->Uf,inr->fH
open PyProof.Rows renaming slot_tuple_getitem->eT,callWith_type1->eg,boot_all->fJ,listUpdate_at->gC,get?_update_seq->gU,boot_tuple->gW,AllBare->h_,boot_sorted->iH,boot_repr->iS,listItems_at->ij,seqEpoch_at->i7,assignInOrder_cons->i8,lt_int->jt
open PyProof.Rows.KeyOrd renaming kle_refl->fI,kle_of_klt->iF,kle_trans->iO,kle_antisymm->kF
open PySem renaming Addr->Ch,wpAny_bind->Db,Value->Ev,Shared->Op,wpAny_pure->TW,Heap->dL,Expr->dO,Program->dZ,Stmt->df,World->dh,sizeLine_eq->d7,Around->eC,FuncData->eI,wpAny_newObj_type->eS,wpAny_mono->eU,wpAny_loadPart'->eX,codeAny_builtin->eY,wpAny_truthy_bool->e8,wpAny_pyIter_list->e9,wpAny_holding->e_,wpAny_seqItems->fA,wpAny_field->fB,plainId_quiet->fD,wpAny_pyIter_tuple->fK,IsPair->fM,wpAny_callSpecial?_slot->fS,wpAny_Call_Name_kw->fe,NameKind->fi,Builtin->fq,Scope->ft,tupleKind_room_in1->fz,wpAny_setField_rec->f6,wpAny_passesOwn->f9,Keyword->gK,wpAny_call_entry->gL,wpAny_typeOf->gM,wpAny_getItem_str_slice->gN,wpAny_rule->gR,PyData->gT,wpAny_letGo->gX,IsZip->gZ,wpAny_tryCatch->iA,builtinLookup_eq_fast->iR,wpAny_execs_nil->iU,IsPart->iW,call_meetsIn->iX,post_val_or_str->iY,wpAny_updateSeq_pair->iZ,wpAny_updateSeq->ik,wpAny_standAt->jC,wpAny_onRaise->jG,wpAny_newList->jJ,BindsTo->jW,codeAny_mono->jX,noFill_tuple_add->jY,PassesOwn->jm,wpAny_specialOf->jn,typeLookup_type->jq,wpAny_of_eq->jv
open PySem.Around renaming under_plainId->eL,under->kL
open PySem.Builtin.Builtins renaming bindParams->jA
open PySem.Builtin.Dict renaming updateFrom->jk,pairItems->jx
open PySem.Builtin.List renaming listExtendWith->f8,listSameRef->jh
open PySem.Builtin.Slice renaming slicePlaces->gH,sliceAdjust->gx,sliceApplied->jD
open PySem.Builtin.SmallTypes renaming nextOf->eV,ownedTupleIsFree->fR,ownedTupleHandOut->hU
open PySem.Builtin.Str renaming occurrences->eR,reprChar->gp
open PySem.Builtin.Tuple renaming tupleExact->fL,tupleItemsOf->jE,tupleIsExact->jH
open PySem.Calls renaming spliced_cons->fc,callWith_builtin->fw,spliced_nil->gD,evalArgs_plain->gk,Name_function_global->jB
open PySem.Code renaming isGuard->kM
open PySem.Expr renaming Call->kO
open PySem.F renaming slot_tuple_iterator_next->gB,slot_zip_next->ia,args_tuple_iterator_next_1->iw,entry_tuple_iterator_next->i_,called_tuple->j8
open PySem.Heap renaming get?_push_of_some->No,lt_size->ZB,get?_push_size->c7,get?_update_other->dM,size_push->fh,get?_update_self->ge,SameBut->g8,IsTuple->je,IsList->jw
open PySem.Heap.SameBut renaming update->kE
open PySem.NameKind renaming free->d_,cell->gs
open PySem.Obj renaming mapSeq->eB
open PySem.PassesOwn renaming never->da
open PySem.PyData renaming eqv->eN,depthAll->eO,canLayAll0->fF,hasDict->gg,eqvAll->jK,hasDictAll->jR,shown->jd,leavesShortAll->j6
open PySem.SeqAt.EqAt renaming int_str->kI,str_int->kJ
open PySem.Shared renaming heap->gY
open PySem.Str renaming ofString->eE,length_append->jQ
open PySem.Value renaming none->dk,ref->dn,bool->hX,type->hZ,notImplemented->kA,int->kG,str->kH
open Std.Legacy.Range renaming size->j9
open Sum renaming inr->eh,inl->gP
open Sum.inl renaming inj->kQ
open Sum.inr renaming inj->eK
open True renaming intro->fu
open PySem PySem.Spec PyProof.Rows
local macro_rules | `(tactic| walk_at "s")=>`(tactic| (constructor <;> first | rfl | decide +kernel))
namespace _p
namespace L2
abbrev Key:=Sum Int Str
def MX:Key->Ev->Bool
 | .inl k,v=>Value.isInt k v
 | .inr x,v=>Value.isStrOf x v
def bn(w:dh):Key->Int
 | .inl k=>hashInt k
 | .inr x=>hashStr w x
theorem BX:∀{k:Key} {v:Ev},MX k v=true->(∃i t,k=gP i/\v=kG i t)\/(∃x t,k=eh x/\v=kH x t)
 | .inl i,v,h=>by
  obtain⟨t,e⟩:=Value.isInt_shape (k:=i) (v:=v) h;exact .inl ⟨i,t,rfl,e⟩
 | .inr x,v,h=>by
  obtain⟨t,e⟩:=Value.isStrOf_shape (x:=x) (v:=v) h;exact .inr ⟨x,t,rfl,e⟩
theorem TQ(i:Int)(t:Tok):MX (.inl i) (.int i t)=true:=by simp [MX,Value.isInt]
theorem TN(x:Str)(t:Tok):MX (.inr x) (.str x t)=true:=by simp [MX,Value.isStrOf]
theorem Yu(a b:Int):decide ((gP a:Key)=gP b)=(a==b):=by
 by_cases e:a=b
 ·subst e; simp
 ·have h:¬(gP a:Key)=gP b:=λq=>e (kQ q)
  rw [decide_eq_false h];exact(beq_eq_false_iff_ne.mpr e).symm
theorem Yr(a b:Str):decide ((eh a:Key)=eh b)=decide (a=b):=by
 by_cases e:a=b
 ·subst e; simp
 ·have h:¬(eh a:Key)=eh b:=λq=>e (eK q)
  rw [decide_eq_false h,decide_eq_false e]
theorem Yt(a:Int)(b:Str):decide ((gP a:Key)=eh b)=false:=decide_eq_false (λq=>nomatch q)
theorem Ys(a:Str)(b:Int):decide ((eh a:Key)=gP b)=false:=decide_eq_false (λq=>nomatch q)
def BE(prog:dZ)(w:dh):PySem.KeyKind prog w Key where
 is:=MX
 hash:=bn w
 inj:=λv a b ha hb=>by
  rcases BX ha with ⟨i,t,rfl,rfl⟩ | ⟨x,t,rfl,rfl⟩
  ·rcases BX hb with ⟨j,u,rfl,e⟩ | ⟨y,u,rfl,e⟩
   ·injection e with e1 _; rw [e1]
   ·exact nomatch e
  ·rcases BX hb with ⟨j,u,rfl,e⟩ | ⟨y,u,rfl,e⟩
   ·exact nomatch e
   ·injection e with e1 _; rw [e1]
 byValue:=λk v h=>by
  rcases BX h with ⟨i,t,rfl,rfl⟩ | ⟨x,t,rfl,rfl⟩ <;> rfl
 pyHash:=λhv h=>by
  rcases BX hv with ⟨i,t,rfl,rfl⟩ | ⟨x,t,rfl,rfl⟩
  ·exact wpAny_pyHash_int h
  ·exact wpAny_pyHash_str h
 eqBool:=λhu hv h=>by
  rcases BX hu with ⟨i,t,rfl,rfl⟩ | ⟨x,t,rfl,rfl⟩
  ·rcases BX hv with ⟨j,u,rfl,rfl⟩ | ⟨y,u,rfl,rfl⟩
   ·rw [Yu] at h; exact wpAny_eqBool_int h
   ·rw [Yt] at h; exact kI i t y u _ _ _ _ h
  ·rcases BX hv with ⟨j,u,rfl,rfl⟩ | ⟨y,u,rfl,rfl⟩
   ·rw [Ys] at h; exact kJ x t j u _ _ _ _ h
   ·rw [Yr] at h; exact wpAny_eqBool_str h
 «strs»:=λk x t v h=>by
  rcases BX h with ⟨i,u,rfl,e⟩ | ⟨y,u,rfl,e⟩
  ·exact nomatch e
  ·injection e with e1 _
   subst e1
   cases v <;> rfl
theorem PH(prog:dZ)(w:dh)(i:Int)(t:Tok):(BE prog w).is (.inl i) (.int i t)=true:=TQ i t
theorem PF(prog:dZ)(w:dh)(x:Str)(t:Tok):(BE prog w).is (.inr x) (.str x t)=true:=TN x t
inductive V where
 | non | bl (b:Bool) | int (i:Int) | str (x:Str) | byt (b:Array UInt8) | flt (b:UInt64) | ref (a:Ch) | ty (n:String)
 deriving DecidableEq
def RelV:V->Ev->Prop
 | .non,u=>u=dk
 | .bl b,u=>u=hX b
 | .int i,u=>∃t,u=kG i t
 | .str x,u=>∃t,u=kH x t
 | .byt b,u=>∃t,u=Value.bytes b t
 | .flt b,u=>∃t,u=Value.float b t
 | .ref a,u=>u=dn a
 | .ty n,u=>u=hZ n
abbrev Vals:List V->List Ev->Prop:=Paired RelV
theorem Vals.length{xs:List V}{us:List Ev}(r:Vals xs us):xs.length=us.length:=Paired.length r
theorem Vals.get:∀{xs:List V} {us:List Ev} {i:Nat} {x:V},Vals xs us->xs[i]?=some x->∃u,us[i]?=some u/\RelV x u
 | _,_,_,_,.nil,e=>by simp at e
 | _,_,0,_,.cons r _,e=>by simp at e; subst e; exact⟨_,rfl,r⟩
 | _,_,i+1,x,.cons _ t,e=>by
  obtain⟨u,h1,h2⟩:=Vals.get (i:=i) (x:=x) t (by simpa using e);exact⟨u,by simpa using h1,h2⟩
theorem Vals.set{x:V}{u:Ev}(r:RelV x u):∀{xs:List V} {us:List Ev} (i:Nat),Vals xs us->Vals (xs.set i x) (us.set i u)
 | _,_,_,.nil=>.nil
 | _,_,0,.cons _ t=>.cons r t
 | _,_,i+1,.cons q t=>.cons q (Vals.set r i t)
theorem Vals.append:∀{xs ys:List V} {us ws:List Ev},Vals xs us->Vals ys ws->Vals (xs++ys) (us++ws)
 | _,_,_,_,.nil,s=>s
 | _,_,_,_,.cons r t,s=>.cons r (Vals.append t s)
theorem Vals.take:∀{xs:List V} {us:List Ev} (n:Nat),Vals xs us->Vals (xs.take n) (us.take n)
 | _,_,0,_=>.nil
 | _,_,_+1,.nil=>.nil
 | _,_,n+1,.cons r t=>.cons r (Vals.take n t)
theorem Vals.drop:∀{xs:List V} {us:List Ev} (n:Nat),Vals xs us->Vals (xs.drop n) (us.drop n)
 | _,_,0,r=>r
 | _,_,_+1,.nil=>.nil
 | _,_,n+1,.cons _ t=>Vals.drop n t
def RelO:Option V->Option Ev->Prop
 | some v,some u=>RelV v u
 | none,none=>True
 | _,_=>False
def KV{κ:Type}:List (κ×V)->List (κ×Ev)->Prop:=Paired fun(p:κ×V) (q:κ×Ev)=>p.1=q.1/\RelV p.2 q.2
def kV:Key->V
 | .inl i=>.int i
 | .inr x=>.str x
inductive HO where
 | lst (xs:List V)
 | tup (xs:List V)
 | dK (kvs:List (Key×V)) | dT (kvs:List (List Key×V))
 | set (S:Int->Bool) (n:Nat)
 | ins (C dx:Ch) (fs:List (Str×V))
 | own (x:Ch)
 | xd (fs:List (Str×V))
 | met (f x:Ch)
 | rng (lo hi:Int)
 | frz (o:Obj) (u:HO)
 | tbl (ps:Array Ev)
 | ext (φ:dL->Prop)
abbrev Hp:=Ch->Option HO
def BK(H:Hp)(a:Ch)(o:HO):Hp:=λb=>if b=a then some o else H b
theorem Ap{H:Hp}{a:Ch}{o:HO}:BK H a o a=some o:=by unfold BK; rw [if_pos rfl]
theorem Aa{H:Hp}{a b:Ch}{o:HO}(h:b≠a):BK H a o b=H b:=by unfold BK; rw [if_neg h]
theorem aQ{H:Hp}{a b:Ch}{o u:HO}(h:H a=some o)(h':H b=some u)(d:o≠u):a≠b:=by
 intro e; subst e; rw [h] at h'; exact d (c_ h')
theorem Au{H:Hp}{a b:Ch}{o:HO}(h:H a=some o)(h':H b=none):a≠b:=by
 intro e; subst e; rw [h] at h'; cases h'
def IsTupN(h:dL)(a:Ch)(items:Array Ev):Prop:=∃o,h.get? a=some o/\o.cls=.type "tuple"/\∃n,o.data=.seq items n/\o.dict=none/\o.slots=#[]
theorem IsTupN.tup{h:dL}{a:Ch}{items:Array Ev}(x:IsTupN h a items):IsTup h a items:=let ⟨o,h1,h2,n,h3,_⟩:=x; ⟨o,h1,h2,n,h3⟩
theorem IsTupN.new(h:dL)(items:Array Ev):IsTupN (h.push { cls:=.type "tuple",data:=.seq items }) h.objs.size items:=⟨_,c7 _ rfl,rfl,_,rfl,rfl,rfl⟩
section
variable (P:Program)(w:World)
def ObjOk(H:Hp)(h:dL)(a:Ch):HO->Prop
 | .lst xs=>xs.length<=sizeLine/\∃(its:List Ev) (n:Nat),Vals xs its/\h.get? a=some { cls:=.type "list",data:=.seq its.toArray n }
 | .tup xs=>xs.length<=sizeLine/\∃its:List Ev,Vals xs its/\IsTupN h a its.toArray
 | .dK kvs=>kvs.length<=sizeLine/\(a==sysModules)=false/\∃vs,KV kvs vs/\h.DictOf (BE P w) a vs
 | .dT kvs=>kvs.length<=sizeLine/\(a==sysModules)=false/\∃xs:List (List Key×Ch×Ev),
   Paired (fun(p:List Key×V) (q:List Key×Ch×Ev)=>p.1=q.1/\H q.2.1=some (.tup (p.1.map kV))/\RelV p.2 q.2.2) kvs xs /\
   ∃o es ep,h.get? a=some o/\o.ExactDict/\o.data=.dict es ep/\es.toList=xs.map (entryOfKey (tupleKind (BE P w)))/\(xs.map (·.1)).Nodup
 | .set S n=>h.SetOf (intKind P w) a S n
 | .ins C dx fs=>H dx=some (.own a)/\fs.length<=1000/\dx≠a/\h.get? a=some (PySem.W.instObj C dx) /\
   ∃mA,h.Ns1 dx mA/\(∀f,RelO (fs.lookup f) (mA f))/\PySem.Within mA (fs.map (·.1))
 | .own _=>∃o,h.get? a=some o
 | .xd fs=>∃mA,h.Ns1 a mA/\∀f,RelO (fs.lookup f) (mA f)
 | .rng lo hi=>∃t u v,h.get? a=some { cls:=.type "range",data:=.fields #[.int lo t,.int hi u,.int 1 v] }
 | .frz o u=>h.get? a=some o/\ObjOk H h a u
 | .tbl ps=>h.get? a=some { cls:=.none,data:=.fields ps }
 | .met f x=>h.get? a=some (PySem.W.methodObj (.ref f) (.ref x))
 | .ext φ=>φ h/\(∃o,h.get? a=some o)/\∀h1 h2:dL,φ h1->(∀o,h1.get? a=some o->h2.get? a=some o)->φ h2
def HOk(H:Hp)(h:dL):Prop:=∀a o,H a=some o->ObjOk P w H h a o
end
section
variable {P:Program}{w:World}{H H':Hp}{h h':Heap}{a:Addr}{o:HO}
theorem ObjOk.lt(x:ObjOk P w H h a o):a<h.objs.size:=by
 cases o with
 | lst xs=>obtain⟨_,_,_,_,e⟩:=x; exact ZB e
 | tup xs=>obtain⟨_,_,_,p⟩:=x; exact p.tup.lt
 | dK kvs=>obtain⟨_,_,_,_,o,_,_,e,_⟩:=x; exact ZB e
 | dT kvs=>obtain⟨_,_,_,_,o,_,_,e,_⟩:=x; exact ZB e
 | set S n=>obtain⟨o,_,_,_,e,_⟩:=x; exact ZB e
 | ins C dx fs=>obtain⟨_,_,_,e,_⟩:=x; exact ZB e
 | own y=>obtain⟨_,e⟩:=x; exact ZB e
 | xd fs=>obtain⟨_,⟨_,_,_,e,_⟩,_⟩:=x; exact ZB e
 | rng lo hi=>obtain⟨_,_,_,e⟩:=x; exact ZB e
 | frz ob u=>obtain⟨e,_⟩:=x; exact ZB e
 | tbl ps=>exact ZB (show h.get? a=some _ from x)
 | met f y=>exact ZB (show h.get? a=some _ from x)
 | ext φ=>obtain⟨_,⟨_,e⟩,_⟩:=x; exact ZB e
theorem Paired.mapP{α β:Type}{F G:α->β->Prop}:∀{l₁:List α} {l₂:List β},Paired F l₁ l₂->(∀a b,F a b->G a b)->Paired G l₁ l₂
 | _,_,.nil,_=>.nil
 | _,_,.cons r t,f=>.cons (f _ _ r) (Paired.mapP t f)
theorem ObjOk.stay(x:ObjOk P w H h a o)(k:∀b u,(b=a\/H b=some (.own a))->h.get? b=some u->h'.get? b=some u)
  (ho:∀b,H b=some (.own a)->H' b=some (.own a)) (ht:∀b xs,H b=some (.tup xs)->H' b=some (.tup xs)):ObjOk P w H' h' a o:=by
 induction o with
 | lst xs=>obtain⟨z,its,n,r,e⟩:=x; exact⟨z,its,n,r,k _ _ (.inl rfl) e⟩
 | tup xs=>obtain⟨z,its,r,ob,e,c⟩:=x; exact⟨z,its,r,ob,k _ _ (.inl rfl) e,c⟩
 | dK kvs=>obtain⟨z,y,vs,r,ob,es,ep,e,c⟩:=x; exact⟨z,y,vs,r,ob,es,ep,k _ _ (.inl rfl) e,c⟩
 | dT kvs =>
  obtain⟨z,y,xs,r,ob,es,ep,e,c⟩:=x;exact⟨z,y,xs,Paired.mapP r λp q z=>⟨z.1,ht _ _ z.2.1,z.2.2⟩,ob,es,ep,k _ _ (.inl rfl) e,c⟩
 | set S n=>obtain⟨ob,es,ep,t,e,c⟩:=x; exact⟨ob,es,ep,t,k _ _ (.inl rfl) e,c⟩
 | ins C dx fs =>
  obtain⟨d,z,ne,e,mA,⟨od,es,ep,e2,c⟩,r⟩:=x;exact⟨ho _ d,z,ne,k _ _ (.inl rfl) e,mA,⟨od,es,ep,k _ _ (.inr d) e2,c⟩,r⟩
 | own y=>obtain⟨ob,e⟩:=x; exact⟨ob,k _ _ (.inl rfl) e⟩
 | xd fs=>obtain⟨mA,⟨od,es,ep,e,c⟩,r⟩:=x; exact⟨mA,⟨od,es,ep,k _ _ (.inl rfl) e,c⟩,r⟩
 | rng lo hi=>obtain⟨t,u,v,e⟩:=x; exact⟨t,u,v,k _ _ (.inl rfl) e⟩
 | frz ob u ih=>obtain⟨e,q⟩:=x; exact⟨k _ _ (.inl rfl) e,ih q⟩
 | tbl ps =>
  have e:h.get? a=some { cls:=.none,data:=.fields ps }:=x;show h'.get? a=some { cls:=.none,data:=.fields ps };exact k a _ (.inl rfl) e
 | met f y =>
  have e:h.get? a=some (PySem.W.methodObj (.ref f) (.ref y)):=x;show h'.get? a=some (PySem.W.methodObj (.ref f) (.ref y));exact k a _ (.inl rfl) e
 | ext φ=>obtain⟨p,⟨o,e⟩,st⟩:=x; exact⟨st _ _ p λo q=>k _ _ (.inl rfl) q,⟨o,k _ _ (.inl rfl) e⟩,st⟩
theorem HOk.lt(x:HOk P w H h)(e:H a=some o):a<h.objs.size:=(x a o e).lt
theorem HOk.fresh(x:HOk P w H h)(e:h.objs.size<=a):H a=none:=by
 cases q:H a with
 | none=>rfl
 | some u=>exact absurd (dY (x.lt q) e) (d9 _)
theorem HOk.kept(x:HOk P w H h)(k:∀b u,h.get? b=some u->h'.get? b=some u):HOk P w H h':=λa o e =>
 (x a o e).stay (λb u _ q=>k b u q) (λ_ q=>q) λ_ _ q=>q
theorem HOk.laid(x:HOk P w H h)(k:∀b u,h.get? b=some u->h'.get? b=some u)(hp:h.objs.size<=a)(new:ObjOk P w (BK H a o) h' a o):HOk P w (BK H a o) h':=λb u e=>by
 have hn:=x.fresh hp
 by_cases hb:b=a
 ·subst hb; rw [Ap] at e; cases e; exact new
 ·rw [Aa hb] at e
  exact(x b u e).stay (λc v _ q=>k c v q) (λc q=>by rw [Aa (Au q hn)]; exact q) λc xs q=>by rw [Aa (Au q hn)]; exact q
end
def Rd(H:Hp)(a:Ch)(u:HO):Prop:=H a=some u\/∃o,H a=some (.frz o u)
theorem Rd.ok{P:dZ}{w:dh}{H:Hp}{h:dL}{a:Ch}{u:HO}(r:Rd H a u)(x:HOk P w H h):ObjOk P w H h a u:=by
 rcases r with r | ⟨o,r⟩
 ·exact x a u r
 ·obtain⟨_,q⟩:=x a _ r
  exact q
def bA:Option HO->Prop
 | some (.lst _)=>True
 | some (.dK _)=>True
 | some (.dT _)=>True
 | some (.set _ _)=>True
 | some (.ins _ _ _)=>True
 | some (.ext _)=>True
 | _=>False
section
variable {P:Program}{w:World}{H:Hp}{h h':Heap}{x e:Addr}{o':HO}
theorem HOk.write(ok:HOk P w H h)(mu:bA (H x))(he:e=x\/H e=some (.own x))(k:∀b u,b≠e->h.get? b=some u->h'.get? b=some u)(heo:∃u,h'.get? e=some u)
  (new:ObjOk P w (BK H x o') h' x o'):HOk P w (BK H x o') h':=λb u q=>by
 have nown:∀c y,H c=some (.own y)->c≠x:=λc y r z=>by subst z; rw [r] at mu; exact mu
 have ntup:∀c xs,H c=some (.tup xs)->c≠x:=λc xs r z=>by subst z; rw [r] at mu; exact mu
 by_cases hb:b=x
 ·subst hb; rw [Ap] at q; cases q; exact new
 ·rw [Aa hb] at q
  by_cases hbe:b=e
  ·have q':H b=some (.own x):=by
    rcases he with z | z
    ·exact absurd (hbe.trans z) hb
    ·rw [hbe]; exact z
   rw [q] at q'; cases q'
   obtain⟨v,hv⟩:=heo;exact⟨v,by rw [hbe]; exact hv⟩
  ·refine(ok b u q).stay (λc v hc r=>k c v ?_ r) (λc r=>by rw [Aa (nown c b r)]; exact r) λc xs r=>by rw [Aa (ntup c xs r)]; exact r
   rcases hc with rfl | hc
   ·exact hbe
   ·rintro rfl
    rcases he with z | z
    ·exact nown c b hc z
    ·rw [hc] at z; cases z; exact hb rfl
end
structure Un (fs ex:List Ch) (H H':Hp) (h h':dL):Prop where
 keep:∀b o,h.get? b=some o->H b=none->b∉fs->b∉ex->h'.get? b=some o
 slot:∀b o,h.get? b=some o->H b=none->b∈fs->b∉ex->∃sl,h'.get? b=some { o with slots:=sl }
 free:∀b o,h.get? b=some o->H b=none->b∉ex->H' b=none
 there:∀b o,h.get? b=some o->b∉ex->∃o',h'.get? b=some o'
 tups:∀b xs,H b=some (.tup xs)->H' b=some (.tup xs)
 frzs:∀b o u,H b=some (.frz o u)->H' b=some (.frz o u)
 tbls:∀b ps,H b=some (.tbl ps)->∃more,H' b=some (.tbl (ps++more))
section
variable {fs ex:List Addr}{H H1:Hp}{h h1 h':Heap}{a x e:Addr}{o:HO}
theorem Un.any(u:Un fs ex H H1 h h1){b:Ch}{ob:Obj}(q:h.get? b=some ob)(n:H b=none)(hx:b∉ex):∃sl,h1.get? b=some { ob with slots:=sl }:=by
 by_cases hb:b∈fs
 ·exact u.slot b ob q n hb hx
 ·exact⟨ob.slots,u.keep b ob q n hb hx⟩
theorem Un.kept(k:∀b u,h.get? b=some u->h'.get? b=some u):Un fs ex H H h h' :=
 ⟨λb ob q _ _ _=>k b ob q,λb ob q _ _ _=>⟨ob.slots,k b ob q⟩,λ_ _ _ n _=>n,λb ob q _=>⟨ob,k b ob q⟩,λ_ _ q=>q,λ_ _ _ q=>q,λ_ ps q=>⟨#[],by rw [q]; simp⟩⟩
theorem Un.refl:Un fs ex H H h h:=Un.kept λ_ _ q=>q
theorem Un.laid(k:∀b u,h.get? b=some u->h'.get? b=some u)(hp:h.objs.size<=a)(hn:H a=none):Un fs ex H (BK H a o) h h' where
 keep:=λb u q _ _ _=>k b u q
 slot:=λb u q _ _ _=>⟨u.slots,k b u q⟩
 free:=λb u q n _=>by rw [Aa (dJ (dY (ZB q) hp))]; exact n
 there:=λb u q _=>⟨u,k b u q⟩
 tups:=λb xs q=>by rw [Aa (Au q hn)]; exact q
 frzs:=λb u xs q=>by rw [Aa (Au q hn)]; exact q
 tbls:=λb ps q=>⟨#[],by rw [Aa (Au q hn),q]; simp⟩
theorem Un.write(mu:bA (H x))(he:e=x\/H e=some (.own x))(k:∀b u,b≠e->h.get? b=some u->h'.get? b=some u)(heo:∃u,h'.get? e=some u):Un fs ex H (BK H x o) h h':=by
 have hx:∀b,H b=none->b≠x:=λb n z=>by subst z; rw [n] at mu; exact mu
 have hb:∀b,H b=none->b≠e:=λb n z=>by
  subst z
  rcases he with r | r
  ·exact hx b n r
  ·rw [n] at r; cases r
 have hm:∀b u,H b=some u->¬bA (some u)->b≠x:=λb u q nm z=>by subst z; rw [q] at mu; exact nm mu
 refine⟨λb u q n _ _=>k b u (hb b n) q,λb u q n _ _=>⟨u.slots,k b u (hb b n) q⟩,λb u q n _=>by rw [Aa (hx b n)]; exact n,λb u q _=>?_,
  λb xs q=>by rw [Aa (hm b _ q λz=>z)]; exact q,λb u xs q=>by rw [Aa (hm b _ q λz=>z)]; exact q,λb ps q=>⟨#[],by rw [Aa (hm b _ q λz=>z),q]; simp⟩⟩
 by_cases hbe:b=e
 ·subst hbe; exact heo
 ·exact⟨u,k b u hbe q⟩
end
def bE(h:dL)(H:Hp):List Ch:=(dW h.objs.size).filter λa=>(H a).isSome
def Nv(h:dL)(H:Hp):dL:=PySem.W.hideAll h (bE h H)
theorem TZ(h:dL)(H:Hp):(Nv h H).objs.size=h.objs.size:=PySem.W.hideAll_size _ _
theorem VN{h:dL}{H:Hp}{b:Ch}{o:Obj}(e:h.get? b=some o)(n:H b=none):(Nv h H).get? b=some o :=
 PySem.W.hideAll_get _ e λhm=>by
  have q:(H b).isSome=true:=(gQ.mp hm).2;rw [n] at q; simp at q
theorem WY{h:dL}{H:Hp}{b:Ch}{o:Obj}(e:(Nv h H).get? b=some o):h.get? b=some o/\H b=none:=by
 have e':h.get? b=some o:=PySem.W.of_hideAll (bE h H) e;refine⟨e',?_⟩;cases q:H b with
 | none=>rfl
 | some x =>
  have hm:b∈bE h H:=gQ.mpr ⟨eM.mpr (ZB e'),by simp [q]⟩;have z:(Nv h H).get? b=none:=PySem.W.hideAll_none (bE h H) hm;rw [z] at e; cases e
structure Mod (K:Frag) (mg:Str->Option Ev) (base:dL):Prop where
 kin:K.In base
 glob:base.Ns mainGlobals mg
 blt:∃mb,base.Ns builtinsNs mb/\∀x:Str,x ≠ "__name__"->mb x=bootBuiltins x
 nolimit:base.NoLimit
/-- the context: a def's body (or a comprehension's block) running. base: fixed through the whole law; s₀, H₀: the entry; outer: the frames whose slots others may change (a def's callers); stack: all frames that run;
   ex: iterators that were made ahead of the entry and are walked here (a comprehension's); fn: the names whose cells were made at the entry (a def: all; a comprehension's block: its own); calm: not within an except suite; pn: zG that every state bears; xe: what is wanted of an exception that leaves the code -/
structure Cx where
 prog:dZ
 w:dh
 K:Frag
 mg:Str->Option Ev
 base:dL
 A:eC
 N:List Str
 s₀:Op
 H₀:Hp
 env:Env
 outer:List Env
 stack:List Env
 ex:List Ch
 fn:Str->Bool
 calm:Bool
 pn:List (Ch×Obj)
 xe:Ev->Op->Prop
def Rf(l:List Env):List Ch:=l.filterMap (·.frame)
abbrev Cx.fs(X:Cx):List Ch:=Rf X.outer
def ZV(sc:ft)(x:Str):Prop:=sc.names.lookup x=some .local\/sc.names.lookup x=some .cell\/sc.names.lookup x=some .free
def Loc(sc:ft)(x:Str):Prop:=sc.names.lookup x=some .local\/sc.names.lookup x=some .cell
def Look(env:Env)(h:dL)(m:Str->Option Ev)(x:Str)(u:Ev):Prop :=
 (env.kindOf x=some .local/\m x=some u)\/((env.kindOf x=some .cell\/env.kindOf x=some .free)/\∃c,env.cells.lookup x=some c/\h.IsCell c (some u))
structure Cx.Ok (X:Cx):Prop where
 mod:Mod X.K X.mg X.base
 kind:X.env.scope.kind=.function
 glob:X.env.globals=mainGlobals
 blt:X.env.builtins=builtinsNs
 above:X.s₀.heap.objs.size<=X.env.locals
 inj:∀x y c,X.env.cells.lookup x=some c->X.env.cells.lookup y=some c->x=y
 has:∀x,(X.env.kindOf x=some .cell\/X.env.kindOf x=some .free)->∃c,X.env.cells.lookup x=some c
 cab:∀x c,X.fn x=true->X.env.cells.lookup x=some c->X.s₀.heap.objs.size<=c
 hd:X.calm=true->X.A.handled=none
 frames:X.A.frames=some X.stack
 stk:X.stack=X.outer\/(X.stack=X.env::X.outer/\X.env.frame=some X.env.locals)
 exf:∀b∈X.ex,b≠X.env.locals/\∀x c,X.env.cells.lookup x=some c->c≠b
 bs:∀b o,X.base.get? b=some o->X.s₀.heap.get? b=some o/\X.H₀ b=none
 bsz:X.base.objs.size<=X.s₀.heap.objs.size
 noex:∀b o,X.base.get? b=some o->b∉X.ex
 exfs:∀b∈X.ex,b∉X.fs
 funs:X.s₀.heap.FunFrames X.base X.outer
 frf:∀b∈X.fs,X.H₀ b=none
structure Inv (X:Cx) (zG:List (Ch×Obj)) (Z:List (Option V)) (H:Hp) (s:Op):Prop where
 ok:X.Ok
 os:s.os=X.s₀.os
 bare:h_ s.gens
 base:Un X.fs X.ex X.H₀ H X.s₀.heap s.heap
 loc:∃m,s.heap.Ns X.env.locals m/\∀(i:Nat) (x:Str) (v:V),X.N[i]?=some x->Z[i]?=some (some v)->ZV X.env.scope x->∃u,RelV v u/\Look X.env s.heap m x u
 cell:∀x c,X.env.cells.lookup x=some c->∃v,s.heap.IsCell c v
 free:H X.env.locals=none
 freeC:∀x c,X.env.cells.lookup x=some c->H c=none
 pin:∀p∈X.pn++zG,s.heap.get? p.1=some p.2/\H p.1=none/\p.1≠X.env.locals/\p.1∉X.fs/\∀v,p.2.data≠.cell v
 hok:HOk X.prog X.w H s.heap
 len:Z.length=X.N.length
section
variable {X:Cx}{zG:List (Addr×Obj)}{Z:List (Option V)}{H H':Hp}{s:Shared}{h':Heap}
theorem Cx.Ok.nofr(ok:X.Ok){b:Ch}{o:Obj}(e:X.base.get? b=some o):b∉X.fs:=λhb=>by
 have:=(ok.funs.mem hb).1
 rw [e] at this; cases this
theorem Inv.bs(I:Inv X zG Z H s):∀b o,X.base.get? b=some o->s.heap.get? b=some o/\H b=none:=λb o e =>
 ⟨I.base.keep b o (I.ok.bs b o e).1 (I.ok.bs b o e).2 (I.ok.nofr e) (I.ok.noex b o e),I.base.free b o (I.ok.bs b o e).1 (I.ok.bs b o e).2 (I.ok.noex b o e)⟩
theorem Inv.bk(I:Inv X zG Z H s):∀b o,X.base.get? b=some o->s.heap.get? b=some o:=λb o e=>(I.bs b o e).1
theorem Inv.mod(I:Inv X zG Z H s):Mod X.K X.mg X.base:=I.ok.mod
theorem Inv.kIn(I:Inv X zG Z H s):X.K.In s.heap:=I.ok.mod.kin.keeps I.bk
theorem Inv.lt(I:Inv X zG Z H s):X.env.locals<s.heap.objs.size:=let ⟨_,hn,_⟩:=I.loc; hn.lt
theorem Inv.sz(I:Inv X zG Z H s):X.s₀.heap.objs.size<=s.heap.objs.size:=de I.ok.above (iT I.lt)
theorem Inv.nofs(I:Inv X zG Z H s){a:Ch}(h:s.heap.objs.size<=a):a∉X.fs:=λhb=>by
 obtain⟨_,o,ho,_⟩:=I.ok.funs.mem hb;exact absurd (dY (ZB ho) (de I.sz h)) (d9 _)
theorem Inv.cne(I:Inv X zG Z H s):∀x c,X.env.cells.lookup x=some c->c≠X.env.locals:=λx c e z=>by
 obtain⟨v,o,ho,hd⟩:=I.cell x c e;obtain⟨m,⟨o',es,ep,ho',hd',_⟩,_⟩:=I.loc;rw [z,ho'] at ho; cases ho; rw [hd'] at hd; cases hd
theorem Inv.funs(I:Inv X zG Z H s):s.heap.FunFrames X.base X.outer:=by
 have all:∀(l:List Env),(∀b∈Rf l,b∈X.fs)->X.s₀.heap.FunFrames X.base l->s.heap.FunFrames X.base l:=by
  intro l
  induction l with
  | nil=>intro _ _; trivial
  | cons env r ih =>
   intro hs hl;obtain⟨hk,⟨L,o,hf,hn,ho,hd⟩,hr⟩:=hl;have hL:L∈X.fs:=hs L (by unfold Rf; rw [iq,hf]; exact On);obtain⟨sl,e⟩:=I.base.slot L o ho (I.ok.frf L hL) hL λz=>I.ok.exfs L z hL;exact⟨hk,⟨L,_,hf,hn,e,hd⟩,ih (λb hb=>hs b (by unfold Rf; rw [iq,hf]; exact Rs _ hb)) hr⟩
 exact all X.outer (λ_ hb=>hb) I.ok.funs
theorem Inv.stack(I:Inv X zG Z H s):s.heap.FunFrames X.base X.stack:=by
 rcases I.ok.stk with e | ⟨e,hf⟩
 ·rw [e]; exact I.funs
 ·rw [e]
  obtain⟨m,hn,_⟩:=I.loc;refine .cons (by rw [I.ok.kind]; decide) hf hn ?_ I.funs;exact Heap.get?_none_of_le (de I.ok.bsz I.ok.above)
theorem Inv.stkSub(I:Inv X zG Z H s):∀b∈Rf X.stack,b∈X.env.locals::X.fs:=λb hb=>by
 rcases I.ok.stk with e | ⟨e,hf⟩
 ·rw [e] at hb; exact Rs _ hb
 ·rw [e] at hb
  unfold Rf at hb;rw [iq,hf] at hb;exact hb
theorem Inv.stkFree(I:Inv X zG Z H s):∀b∈Rf X.stack,H b=none:=λb hb=>by
 rcases T0.mp (I.stkSub b hb) with e | hb
 ·rw [e]; exact I.free
 ·obtain⟨_,o,ho,_⟩:=I.ok.funs.mem hb
  exact I.base.free b o ho (I.ok.frf b hb) λz=>I.ok.exfs b z hb
theorem Inv.step{g':Array GenState}{t':Nat}{d':Drawn}{ch:List Ch}(I:Inv X zG Z H s)
  (hch:∀b∈ch,(b∈X.ex\/X.s₀.heap.objs.size<=b)/\b≠X.env.locals/\(∀x c,X.env.cells.lookup x=some c->c≠b)/\∀p∈X.pn++zG,p.1≠b)
  (keep:∀b o,b≠X.env.locals->b∉X.fs->b∉ch->s.heap.get? b=some o->H b=none->h'.get? b=some o)
  (slot:∀b o,b≠X.env.locals->b∈X.fs->b∉ch->s.heap.get? b=some o->H b=none->∃sl,h'.get? b=some { o with slots:=sl }) (free:∀b o,b∉ch->s.heap.get? b=some o->H b=none->H' b=none)
  (there:∀b o,b∉ch->s.heap.get? b=some o->∃o',h'.get? b=some o')
  (tups:∀b xs,H b=some (.tup xs)->H' b=some (.tup xs)) (frzs:∀b o u,H b=some (.frz o u)->H' b=some (.frz o u)) (tbls:∀b ps,H b=some (.tbl ps)->∃more,H' b=some (.tbl (ps++more)))
  (ns:∀m,s.heap.Ns X.env.locals m->h'.Ns X.env.locals m) (hok:HOk X.prog X.w H' h') (hg:h_ g') :
  Inv X zG Z H' { s with heap:=h',gens:=g',drawn:=d',toks:=t' }:=by
 have neL:∀b o,X.s₀.heap.get? b=some o->b≠X.env.locals:=λb o e=>dJ (dY (ZB e) I.ok.above)
 have neC:∀b o,X.s₀.heap.get? b=some o->b∉X.ex->b∉ch:=λb o e hx hb=>by
  rcases (hch b hb).1 with z | z
  ·exact hx z
  ·exact absurd (dY (ZB e) z) (d9 _)
 have cellK:∀x c,X.env.cells.lookup x=some c->∀v,s.heap.IsCell c v->h'.IsCell c v:=λx c e v ⟨o,ho,hd⟩=>by
  have nch:c∉ch:=λz=>(hch c z).2.2.1 x c e rfl
  by_cases hc:c∈X.fs
  ·obtain⟨sl,q⟩:=slot c o (I.cne x c e) hc nch ho (I.freeC x c e)
   exact⟨_,q,hd⟩
  ·exact⟨o,keep c o (I.cne x c e) hc nch ho (I.freeC x c e),hd⟩
 refine⟨I.ok,I.os,hg,⟨λb o e n hb hx=>?_,λb o e n hb hx=>?_,λb o e n hx=>?_,λb o e hx=>?_,λb xs e=>tups b xs (I.base.tups b xs e),λb o xs e=>frzs b o xs (I.base.frzs b o xs e),λb ps e=>?_⟩,?_,λx c e=>?_,?_,λx c e=>?_,λp hp=>?_,hok,I.len⟩
 ·exact keep b o (neL b o e) hb (neC b o e hx) (I.base.keep b o e n hb hx) (I.base.free b o e n hx)
 ·obtain⟨sl,e1⟩:=I.base.slot b o e n hb hx
  obtain⟨sl',e2⟩:=slot b _ (neL b o e) hb (neC b o e hx) e1 (I.base.free b o e n hx);exact⟨sl',e2⟩
 ·obtain⟨o',e1⟩:=I.base.there b o e hx
  exact free b o' (neC b o e hx) e1 (I.base.free b o e n hx)
 ·obtain⟨o',e1⟩:=I.base.there b o e hx
  exact there b o' (neC b o e hx) e1
 ·obtain⟨m1,e1⟩:=I.base.tbls b ps e
  obtain⟨m2,e2⟩:=tbls b _ e1;exact⟨m1++m2,by rw [e2,Array.append_assoc]⟩
 ·obtain⟨m,hn,hl⟩:=I.loc
  refine⟨m,ns m hn,λi x v e1 e2 e3=>?_⟩;obtain⟨u,r,l⟩:=hl i x v e1 e2 e3;refine⟨u,r,?_⟩
  rcases l with l | ⟨k,c,e,z⟩
  ·exact .inl l
  ·exact .inr ⟨k,c,e,cellK x c e _ z⟩
 ·obtain⟨v,z⟩:=I.cell x c e
  exact⟨v,cellK x c e v z⟩
 ·obtain⟨m,⟨o,_,_,ho,_⟩,_⟩:=I.loc
  exact free _ o (λz=>(hch _ z).2.1 rfl) ho I.free
 ·obtain⟨v,o,ho,hd⟩:=I.cell x c e
  exact free c o (λz=>(hch c z).2.2.1 x c e rfl) ho (I.freeC x c e)
 ·obtain⟨e,n,ne,nf,d⟩:=I.pin p hp
  have nch:p.1∉ch:=λz=>(hch p.1 z).2.2.2 p hp rfl;exact⟨keep p.1 p.2 ne nf nch e n,free p.1 p.2 nch e n,ne,nf,d⟩
theorem Inv.un{t':Nat}(I:Inv X zG Z H s)(u:Un X.fs [] H H' s.heap h')(hok:HOk X.prog X.w H' h'):Inv X zG Z H' { s with heap:=h',toks:=t' }:=by
 obtain⟨m,⟨o,es,ep,ho,r⟩,_⟩:=id I.loc;obtain⟨sl,hL⟩:=u.any ho I.free (by simp)
 exact I.step (g':=s.gens) (d':=s.drawn) (ch:=[]) (λ_ z=>nomatch z) (λb o _ hb _ e n=>u.keep b o e n hb (by simp)) (λb o _ hb _ e n=>u.slot b o e n hb (by simp)) (λb o _ e n=>u.free b o e n (by simp)) (λb o _ e=>u.there b o e (by simp)) u.tups u.frzs u.tbls (λm' hm=>by
  obtain⟨o',es',ep',ho',r'⟩:=hm;rw [ho] at ho'; cases ho'
  exact⟨_,es',ep',hL,r'⟩) hok I.bare
theorem Inv.call{g':Array GenState}{t':Nat}{d':Drawn}{ch:List Ch}(I:Inv X zG Z H s)(u:Un (Rf X.stack) ch H H' s.heap h')(hok:HOk X.prog X.w H' h')(hg:h_ g')
  (hch:∀b∈ch,(b∈X.ex\/X.s₀.heap.objs.size<=b)/\b≠X.env.locals/\(∀x c,X.env.cells.lookup x=some c->c≠b)/\∀p∈X.pn++zG,p.1≠b) :
  Inv X zG Z H' { s with heap:=h',gens:=g',drawn:=d',toks:=t' }:=by
 obtain⟨m,⟨o,es,ep,ho,r⟩,_⟩:=id I.loc;obtain⟨sl,hL⟩:=u.any ho I.free λz=>(hch _ z).2.1 rfl
 exact I.step (ch:=ch) hch (λb o hL hb hc e n=>u.keep b o e n (λz=>(T0.mp (I.stkSub b z)).elim hL hb) hc) (λb o _ _ hc e n=>u.any e n hc) (λb o hc e n=>u.free b o e n hc) (λb o hc e=>u.there b o e hc) u.tups u.frzs u.tbls (λm' hm=>by
  obtain⟨o',es',ep',ho',r'⟩:=hm;rw [ho] at ho'; cases ho'
  exact⟨_,es',ep',hL,r'⟩) hok hg
theorem Inv.turned{t':Nat}{it:Ch}(I:Inv X zG Z H s)(k:∀b o,b≠it->s.heap.get? b=some o->h'.get? b=some o)(hn:H it=none)(hL:it≠X.env.locals)
  (h1:it∈X.ex\/X.s₀.heap.objs.size<=it) (h2:∀x c,X.env.cells.lookup x=some c->c≠it) (h3:∀p∈X.pn++zG,p.1≠it):Inv X zG Z H { s with heap:=h',toks:=t' }:=by
 have nit:∀b u,H b=some u->b≠it:=λb u e z=>by rw [z,hn] at e; cases e
 refine I.step (g':=s.gens) (d':=s.drawn) (ch:=[it]) (λb hb=>?_) (λb o _ _ hc e _=>k b o (λz=>hc (by simp [z])) e) (λb o _ _ hc e _=>⟨o.slots,k b o (λz=>hc (by simp [z])) e⟩) (λ_ _ _ _ n=>n)
  (λb o hc e=>⟨o,k b o (λz=>hc (by simp [z])) e⟩) (λ_ _ e=>e) (λ_ _ _ e=>e) (λb ps e=>⟨#[],by rw [e]; simp⟩) (λm hm=>?_) (λb u e=>?_) I.bare
 ·have e:b=it:=by simpa using hb
  subst e;exact⟨h1,hL,h2,h3⟩
 ·obtain⟨o,es,ep,ho,r⟩:=hm
  exact⟨o,es,ep,k _ o (eW hL) ho,r⟩
 ·refine(I.hok b u e).stay (λc v hc q=>k c v ?_ q) (λ_ q=>q) λ_ _ q=>q
  rcases hc with z | z
  ·rw [z]; exact nit b u e
  ·exact nit c _ z
theorem Inv.tok(I:Inv X zG Z H s)(t:Nat):Inv X zG Z H { s with toks:=t }:=I.un (h':=s.heap) (t':=t) Un.refl I.hok
theorem Inv.kept{t':Nat}(I:Inv X zG Z H s)(k:∀b u,s.heap.get? b=some u->h'.get? b=some u):Inv X zG Z H { s with heap:=h',toks:=t' }:=I.un (Un.kept k) (I.hok.kept k)
theorem Inv.laid{a:Ch}{o:HO}{t':Nat}(I:Inv X zG Z H s)(k:∀b u,s.heap.get? b=some u->h'.get? b=some u)(hp:s.heap.objs.size<=a)(new:ObjOk X.prog X.w (BK H a o) h' a o) :
  Inv X zG Z (BK H a o) { s with heap:=h',toks:=t' }:=I.un (Un.laid k hp (I.hok.fresh hp)) (I.hok.laid k hp new)
theorem Inv.write{x e:Ch}{o:HO}{t':Nat}(I:Inv X zG Z H s)(mu:bA (H x))(he:e=x\/H e=some (.own x))(k:∀b u,b≠e->s.heap.get? b=some u->h'.get? b=some u)(heo:∃u,h'.get? e=some u)
  (new:ObjOk X.prog X.w (BK H x o) h' x o):Inv X zG Z (BK H x o) { s with heap:=h',toks:=t' }:=I.un (Un.write mu he k heo) (I.hok.write mu he k heo new)
theorem Inv.pins_of{pins':List (Ch×Obj)}(I:Inv X zG Z H s)(h:∀p∈pins',s.heap.get? p.1=some p.2/\H p.1=none/\p.1≠X.env.locals/\p.1∉X.fs/\∀v,p.2.data≠.cell v):Inv X pins' Z H s :=
 ⟨I.ok,I.os,I.bare,I.base,I.loc,I.cell,I.free,I.freeC,λp hp=>(dN.mp hp).elim (λz=>I.pin p (di _ z)) (h p),I.hok,I.len⟩
theorem K4{N:List Str}(hN:N.Nodup){i j:Nat}{x:Str}(a:N[i]?=some x)(b:N[j]?=some x):i=j:=by
 obtain⟨h1,e1⟩:=c8.mp a;obtain⟨h2,e2⟩:=c8.mp b;exact(List.getElem_inj hN).mp (e1.trans e2.symm)
theorem MO{M:Model}{A:eC}{E:Ev->Op->Prop}{i:Nat}{x:Str}{v:V}{u:Ev}{Q:Unit->Op->Prop}(I:Inv X zG Z H s)(hN:X.N.Nodup)(hi:X.N[i]?=some x)(hx:Loc X.env.scope x)(r:RelV v u)
  (h:∀s',Inv X zG (Z.set i (some v)) H s'->(∃a,g8 a s.heap s'.heap/\(a=X.env.locals\/X.env.cells.lookup x=some a))->Q () s') (hf:X.fn x=true\/X.env.scope.names.lookup x=some .local:=by first | exact .inl rfl | exact .inr rfl | assumption):wpAny M A (storeName X.env x u) Q E s:=by
 obtain⟨m,hn,hl⟩:=id I.loc;have hcls:(X.env.scope.kind==.class||(X.env.scope.kind==.module&&X.env.locals != X.env.globals))=false:=by rw [I.ok.kind]; rfl
 have hiσ:i<Z.length:=by rw [I.len]; exact(c8.mp hi).1
 have cne:=I.cne
 have tracked:∀{a:Ch} {h':dL},(∃o,s.heap.get? a=some o/\H a=none)->g8 a s.heap h'->HOk X.prog X.w H h':=λ{a h'} ha hs b ob e=>by
  obtain⟨_,_,hfree⟩:=ha;refine(I.hok b ob e).stay (λc w' hc q=>(hs.2 c ?_).trans q) (λ_ q=>q) λ_ _ q=>q;rintro rfl
  rcases hc with rfl | hc
  ·rw [hfree] at e; cases e
  ·rw [hfree] at hc; cases hc
 rcases hx with hk | hk
 ·refine wpAny_storeName_local hk hn (λh' hn' hs=>?_) hcls
  obtain⟨oL,_,_,hoL,_⟩:=id hn;refine h _ ⟨I.ok,I.os,I.bare,⟨λb o e n hb hx=>?_,λb o e n hb hx=>?_,I.base.free,λb o e hx=>?_,I.base.tups,I.base.frzs,I.base.tbls⟩,⟨_,hn',λj y v' e1 e2 e3=>?_⟩,λy c e=>?_,I.free,I.freeC,λp hp=>?_,tracked ⟨oL,hoL,I.free⟩ hs,by simpa using I.len⟩ ⟨_,hs,.inl rfl⟩
  ·exact(hs.2 b (dJ (dY (ZB e) I.ok.above))).trans (I.base.keep b o e n hb hx)
  ·obtain⟨sl,e1⟩:=I.base.slot b o e n hb hx
   exact⟨sl,(hs.2 b (dJ (dY (ZB e) I.ok.above))).trans e1⟩
  ·obtain⟨o',e1⟩:=I.base.there b o e hx
   exact⟨o',(hs.2 b (dJ (dY (ZB e) I.ok.above))).trans e1⟩
  ·by_cases hj:j=i
   ·subst hj
    rw [hi] at e1; cases e1
    rw [jr hiσ] at e2;cases e2;exact⟨u,r,.inl ⟨hk,by simp⟩⟩
   ·rw [List.getElem?_set_ne (eW hj)] at e2
    obtain⟨u',r',q⟩:=hl j y v' e1 e2 e3;refine⟨u',r',?_⟩
    rcases q with ⟨k,e⟩ | ⟨k,c,e,z⟩
    ·refine .inl ⟨k,?_⟩
     have:y≠x:=λe=>hj (K4 hN e1 (e▸hi))
     simp [this,e]
    ·exact .inr ⟨k,c,e,z.sameBut hs (cne y c e)⟩
  ·obtain⟨w',z⟩:=I.cell y c e
   exact⟨w',z.sameBut hs (cne y c e)⟩
  ·obtain⟨e,n,ne,nf,d⟩:=I.pin p hp
   exact⟨(hs.2 p.1 ne).trans e,n,ne,nf,d⟩
 ·have hfn:X.fn x=true:=by
   rcases hf with z | z
   ·exact z
   ·rw [z] at hk; cases hk
  obtain⟨c,hc⟩:=I.ok.has x (.inl hk);obtain⟨w',z⟩:=I.cell x c hc;refine wpAny_storeName_cell I.ok.kind hk hc z (λh' hc' hs=>?_);obtain⟨oc,hoc,hocd⟩:=id z;refine h { s with heap:=h' } ⟨I.ok,I.os,I.bare,⟨λb o e n hb hx=>?_,λb o e n hb hx=>?_,I.base.free,λb o e hx=>?_,I.base.tups,I.base.frzs,I.base.tbls⟩,⟨m,hn.sameBut hs (eW (cne x c hc)),λj y v' e1 e2 e3=>?_⟩,λy c' e=>?_,I.free,I.freeC,λp hp=>?_,tracked ⟨oc,hoc,I.freeC x c hc⟩ hs,by simpa using I.len⟩ ⟨c,hs,.inr hc⟩
  ·exact(hs.2 b (dJ (dY (ZB e) (I.ok.cab x c hfn hc)))).trans (I.base.keep b o e n hb hx)
  ·obtain⟨sl,e1⟩:=I.base.slot b o e n hb hx
   exact⟨sl,(hs.2 b (dJ (dY (ZB e) (I.ok.cab x c hfn hc)))).trans e1⟩
  ·obtain⟨o',e1⟩:=I.base.there b o e hx
   exact⟨o',(hs.2 b (dJ (dY (ZB e) (I.ok.cab x c hfn hc)))).trans e1⟩
  ·by_cases hj:j=i
   ·subst hj
    rw [hi] at e1; cases e1
    rw [jr hiσ] at e2;cases e2;exact⟨u,r,.inr ⟨.inl hk,c,hc,hc'⟩⟩
   ·rw [List.getElem?_set_ne (eW hj)] at e2
    obtain⟨u',r',q⟩:=hl j y v' e1 e2 e3;refine⟨u',r',?_⟩
    rcases q with q | ⟨k,c',e,z'⟩
    ·exact .inl q
    ·refine .inr ⟨k,c',e,z'.sameBut hs ?_⟩
     rintro rfl;exact hj (K4 hN e1 (I.ok.inj _ _ _ e hc▸hi))
  ·by_cases hcc:c'=c
   ·subst hcc; exact⟨_,hc'⟩
   ·obtain⟨w2,z2⟩:=I.cell y c' e
    exact⟨w2,z2.sameBut hs hcc⟩
  ·obtain⟨e,n,ne,nf,d⟩:=I.pin p hp
   refine⟨(hs.2 p.1 ?_).trans e,n,ne,nf,d⟩;intro q;rw [q,hoc] at e;have q':oc=p.2:=c_ e;exact d w' (by rw [← q']; exact hocd)
theorem FR{M:Model}{A:eC}{E:Ev->Op->Prop}{i:Nat}{x:Str}{v:V}{u:Ev}{Q:Unit->Op->Prop}(I:Inv X zG Z H s)(hN:X.N.Nodup)(hi:X.N[i]?=some x)(hx:Loc X.env.scope x)(r:RelV v u)
  (h:∀s',Inv X zG (Z.set i (some v)) H s'->Q () s') (hf:X.fn x=true\/X.env.scope.names.lookup x=some .local:=by first | exact .inl rfl | exact .inr rfl | assumption):wpAny M A (storeName X.env x u) Q E s :=
 MO I hN hi hx r (λs' I' _=>h s' I') hf
theorem Inv.call'{s':Op}{ch:List Ch}(I:Inv X zG Z H s)(ho:s'.os=s.os)(u:Un (Rf X.stack) ch H H' s.heap s'.heap)(hok:HOk X.prog X.w H' s'.heap)(hg:h_ s'.gens)
  (hch:∀b∈ch,(b∈X.ex\/X.s₀.heap.objs.size<=b)/\b≠X.env.locals/\(∀x c,X.env.cells.lookup x=some c->c≠b)/\∀p∈X.pn++zG,p.1≠b):Inv X zG Z H' s':=by
 obtain⟨h',g',d',t',o'⟩:=s';have e:o'=s.os:=ho;subst e;exact I.call (g':=g') (t':=t') (d':=d') u hok hg hch
end
abbrev XK:=Ev->Option Ch->Hp->Prop
abbrev St:=List (Option V)
abbrev VK:=V->Hp->Prop
abbrev TE:=St->Hp->VK->Prop
abbrev TT:=St->Hp->(Bool->Hp->Prop)->Prop
abbrev TA:=St->Hp->(List V->Hp->Prop)->Prop
structure Ends where
 nx:St->Hp->Prop
 rt:VK
 bk:St->Hp->Prop:=λ_ _=>False
 ct:St->Hp->Prop:=λ_ _=>False
abbrev TS:=Ends->St->Hp->Prop
def EP(X:Cx)(zG:List (Ch×Obj))(Z:St)(Q:VK)(u:Ev)(s':Op):Prop:=∃v H',Inv X zG Z H' s'/\RelV v u/\Q v H'
def TP(X:Cx)(zG:List (Ch×Obj))(Z:St)(Q:Bool->Hp->Prop)(b:Bool)(s':Op):Prop:=∃H',Inv X zG Z H' s'/\Q b H'
def AP(X:Cx)(zG:List (Ch×Obj))(Z:St)(Q:List V->Hp->Prop)(us:List Ev)(s':Op):Prop:=∃vs H',Inv X zG Z H' s'/\Vals vs us/\Q vs H'
def SP(X:Cx)(zG:List (Ch×Obj))(D:Ends)(f:Flow)(s':Op):Prop :=
 match f with
 | .next=>∃zZ H',Inv X zG zZ H' s'/\D.nx zZ H'
 | .brk=>∃zZ H',Inv X zG zZ H' s'/\D.bk zZ H'
 | .cont=>∃zZ H',Inv X zG zZ H' s'/\D.ct zZ H'
 | .ret u=>∃v zZ H',Inv X zG zZ H' s'/\RelV v u/\D.rt v H'
def PE(X:Cx)(e:dO)(t:TE):Prop :=
 ∀(zG:List (Ch×Obj)) (s:Op) (Z:St) (H:Hp) (Q:VK),Inv X zG Z H s->t Z H Q->wpAny (model X.prog X.w) X.A (eval e X.env) (EP X zG Z Q) X.xe s
def PT(X:Cx)(e:dO)(t:TT):Prop :=
 ∀(zG:List (Ch×Obj)) (s:Op) (Z:St) (H:Hp) (Q:Bool->Hp->Prop),Inv X zG Z H s->t Z H Q->wpAny (model X.prog X.w) X.A (isTrue e X.env (eval e X.env)) (TP X zG Z Q) X.xe s
def PW(X:Cx)(e:dO)(t:TT):Prop :=
 ∀(whole:Sem Ev) (zG:List (Ch×Obj)) (s:Op) (Z:St) (H:Hp) (Q:Bool->Hp->Prop),Inv X zG Z H s->t Z H Q->wpAny (model X.prog X.w) X.A (isTrue e X.env whole) (TP X zG Z Q) X.xe s
theorem PW.pt{X:Cx}{e:dO}{t:TT}(h:PW X e t):PT X e t:=h _
def PA(X:Cx)(es:List dO)(t:TA):Prop :=
 ∀(pos:Pos) (zG:List (Ch×Obj)) (s:Op) (Z:St) (H:Hp) (Q:List V->Hp->Prop),Inv X zG Z H s->t Z H Q->wpAny (model X.prog X.w) X.A (spliced (backTo pos (starEach es X.env))) (AP X zG Z Q) X.xe s
def PS(X:Cx)(st:df)(t:TS):Prop :=
 ∀(zG:List (Ch×Obj)) (s:Op) (Z:St) (H:Hp) (D:Ends),Inv X zG Z H s->t D Z H->wpAny (model X.prog X.w) X.A (exec st X.env) (SP X zG D) X.xe s
def PSs(X:Cx)(st:List df)(t:TS):Prop :=
 ∀(zG:List (Ch×Obj)) (s:Op) (Z:St) (H:Hp) (D:Ends),Inv X zG Z H s->t D Z H->wpAny (model X.prog X.w) X.A (execs st X.env) (SP X zG D) X.xe s
theorem thn{α:Type}{t:Sem α}{Q Q':α->Op->Prop}{M:Model}{A:eC}{E:Ev->Op->Prop}{s:Op}(h:wpAny M A t Q E s)(hQ:∀a s,Q a s->Q' a s):wpAny M A t Q' E s:=eU h hQ λ_ _ x=>x
section
variable {X:Cx}
def CG(i:Nat):TE:=λZ H Q=>∃v,Z[i]?=some (some v)/\Q v H
def tC(v:V):TE:=λ_ H Q=>Q v H
theorem Nb{i:Nat}{x:Str}{pos:Pos}(hN:X.N[i]?=some x)(hv:ZV X.env.scope x)(hd:(x==("__debug__":Str))=false:=by decide)(hcd:(x==("__classdict__":Str))=false:=by decide):PE X (.Name x pos) (CG i):=by
 intro zG s Z H Q I h;obtain⟨v,e,h⟩:=h;obtain⟨m,hn,hl⟩:=I.loc;obtain⟨u,r,l⟩:=hl i x v hN e hv;have fin:EP X zG Z Q u s:=⟨v,H,I,r,h⟩
 rcases l with ⟨hk,hm⟩ | ⟨hk,c,hc,hcell⟩
 ·exact wpAny_Name (wpAny_loadName_local I.ok.kind hk hn hm fin) hd
 ·rcases hk with hk | hk
  ·exact wpAny_Name (wpAny_loadName_cell I.ok.kind hk hc hcell fin) hd
  ·exact wpAny_Name (wpAny_loadName_free I.ok.kind hk hc hcell fin hcd) hd
theorem BC{i j pos}:PE X (.Constant (.int i) j pos) (tC (.int i)):=λ_ _ _ H _ I h=>wpAny_Constant_int ⟨.int i,H,I.tok _,⟨_,rfl⟩,h⟩
theorem aL{b j pos}:PE X (.Constant (.bool b) j pos) (tC (.bl b)):=λ_ _ _ H _ I h=>Constant_bool ⟨.bl b,H,I,rfl,h⟩
theorem Yb{j pos}:PE X (.Constant .none j pos) (tC .non):=λ_ _ _ H _ I h=>Constant_none ⟨.non,H,I,rfl,h⟩
theorem YY{x j pos}:PE X (.Constant (.str x) j pos) (tC (.str x)):=λ_ _ _ H _ I h=>Calls.Constant_str ⟨.str x,H,I.tok _,⟨_,rfl⟩,h⟩
def Gl(X:Cx)(x:Str):Prop:=X.env.kindOf x=some .globalImplicit
theorem RS{E:Ev->Op->Prop}{zG:List (Ch×Obj)}{s:Op}{Z:St}{H:Hp}{x:Str}{u:Ev}{pos:Pos}{Q:Ev->Op->Prop}(I:Inv X zG Z H s)(hg:Gl X x)(hm:X.mg x=some u)(h:Q u s)
  (hd:(x==("__debug__":Str))=false:=by decide):wpAny (model X.prog X.w) X.A (eval (.Name x pos) X.env) Q E s :=
 jB I.ok.kind hg (Calls.loadGlobal_global (by rw [I.ok.glob]; exact I.mod.glob.keeps I.bk) hm h) hd
theorem EV{E:Ev->Op->Prop}{zG:List (Ch×Obj)}{s:Op}{Z:St}{H:Hp}{x:Str}{u:Ev}{pos:Pos}{Q:Ev->Op->Prop}(I:Inv X zG Z H s)(hg:Gl X x)(hm:X.mg x=none)(hv:bootBuiltins x=some u)(h:Q u s)
  (hn:x ≠ "__name__":=by decide) (hd:(x==("__debug__":Str))=false:=by decide):wpAny (model X.prog X.w) X.A (eval (.Name x pos) X.env) Q E s:=by
 obtain⟨mb,h1,h2⟩:=I.mod.blt;exact jB I.ok.kind hg (Calls.loadGlobal_builtin (by rw [I.ok.glob]; exact I.mod.glob.keeps I.bk) hm (by rw [I.ok.blt]; exact h1.keeps I.bk) ((h2 x hn).trans hv) h) hd
theorem WS{x:Str}{v:V}{u:Ev}{pos:Pos}(hg:Gl X x)(hm:X.mg x=none)(hv:bootBuiltins x=some u)(r:RelV v u)(hn:x ≠ "__name__":=by decide)(hd:(x==("__debug__":Str))=false:=by decide):PE X (.Name x pos) (tC v) :=
 λ_ _ _ H _ I h=>EV I hg hm hv ⟨v,H,I,r,h⟩ hn hd
variable {a b:Expr}{ta tb:TE}{pos:Pos}
def tB(t:TE):TT:=λZ H Q=>t Z H λx H1=>∃c,x=.bl c/\Q c H1
theorem YS{e:dO}{t:TE}(h:PE X e t)(he:∀whole,isTrue e X.env whole=(do let v ← whole; standAt e.pos; holding [v] (truthy v)):=by intro _; rfl):PT X e (tB t):=by
 intro zG s Z H Q I hw;refine isTrue_plain (thn (h zG s Z H _ I hw) λv s1 ⟨x,H1,I1,r1,q1⟩=>?_) (he _);obtain⟨d,rfl,q⟩:=q1;cases r1;exact e8 ⟨H1,I1,q⟩
variable {tA tB':TT}{rest:List Expr}
def Z2(t u:TT):TT:=λZ H Q=>t Z H λc H1=>if c=true then u Z H1 Q else Q false H1
def cX(t u:TT):TT:=λZ H Q=>t Z H λc H1=>if c=true then Q true H1 else u Z H1 Q
def bY(t:TT):TT:=λZ H Q=>t Z H λc H1=>Q (!c) H1
theorem RD(ha:PT X a tA):PW X (.BoolOp .And [a] pos) tA:=by
 intro wh zG s Z H Q I h;refine isTrue_and (thn (ha zG s Z H Q I h) λc s1 e=>?_);cases c with
 | true=>exact isTrue_and_nil e
 | false=>exact e
theorem YR(ha:PT X a tA):PW X (.BoolOp .Or [a] pos) tA:=by
 intro wh zG s Z H Q I h;refine isTrue_or (thn (ha zG s Z H Q I h) λc s1 e=>?_);cases c with
 | false=>exact isTrue_or_nil e
 | true=>exact e
theorem Uc(ha:PT X a tA)(hb:PW X (.BoolOp .And (b::rest) pos) tB'):PW X (.BoolOp .And (a::b::rest) pos) (Z2 tA tB'):=by
 intro wh zG s Z H Q I h;refine isTrue_and (thn (ha zG s Z H _ I h) λc s1 ⟨H1,I1,q1⟩=>?_);cases c with
 | true=>exact hb wh zG s1 Z H1 Q I1 q1
 | false=>exact⟨H1,I1,q1⟩
theorem aJ(ha:PT X a tA)(hb:PW X (.BoolOp .Or (b::rest) pos) tB'):PW X (.BoolOp .Or (a::b::rest) pos) (cX tA tB'):=by
 intro wh zG s Z H Q I h;refine isTrue_or (thn (ha zG s Z H _ I h) λc s1 ⟨H1,I1,q1⟩=>?_);cases c with
 | true=>exact⟨H1,I1,q1⟩
 | false=>exact hb wh zG s1 Z H1 Q I1 q1
theorem YT(ha:PT X a tA):PT X (.UnaryOp .Not a pos) (bY tA):=by
 intro zG s Z H Q I h;exact isTrue_not (ha zG s Z H (λc H1=>Q (!c) H1) I h)
def Z1(ta tb:TE):TE:=λZ H Q=>ta Z H λx H1=>∃c,x=.bl c/\if c=true then tb Z H1 Q else Q (.bl false) H1
def Zw(ta:TE):TE:=λZ H Q=>ta Z H λx H1=>∃c,x=.bl c/\Q (.bl (!c)) H1
theorem YZ{op}{t:TE}(h:PE X a t):PE X (.BoolOp op [a] pos) t:=λzG s Z H Q I hw=>BoolOp_one (h zG s Z H Q I hw)
theorem Yd(ha:PE X a ta)(hb:PE X (.BoolOp .And (b::rest) pos) tb):PE X (.BoolOp .And (a::b::rest) pos) (Z1 ta tb):=by
 intro zG s Z H Q I h;refine BoolOp_and (thn (ha zG s Z H _ I h) λv s1 ⟨x,H1,I1,r1,q1⟩=>?_);obtain⟨c,rfl,q1⟩:=q1;cases r1;refine e8 ?_;cases c with
 | true=>exact hb zG s1 Z H1 Q I1 q1
 | false=>exact⟨.bl false,H1,I1,rfl,q1⟩
theorem Ya(ha:PE X a ta):PE X (.UnaryOp .Not a pos) (Zw ta):=by
 intro zG s Z H Q I h;refine UnaryOp_ (thn (ha zG s Z H _ I h) λv s1 ⟨x,H1,I1,r1,q1⟩=>?_);obtain⟨c,rfl,q1⟩:=q1;cases r1;exact not_of (e8 ⟨.bl (!c),H1,I1,rfl,q1⟩)
def cY(t:TT)(ta tb:TE):TE:=λZ H Q=>t Z H λc H1=>if c=true then ta Z H1 Q else tb Z H1 Q
theorem O1{c:dO}(hc:PT X c tA)(ha:PE X a ta)(hb:PE X b tb):PE X (.IfExp c a b pos) (cY tA ta tb):=by
 intro zG s Z H Q I h;refine wpAny_IfExp (thn (hc zG s Z H _ I h) λd s1 ⟨H1,I1,q1⟩=>?_);cases d with
 | true=>exact ha zG s1 Z H1 Q I1 q1
 | false=>exact hb zG s1 Z H1 Q I1 q1
end
def SqL(K:Frag)(H:Hp)(a:Ch)(xs:List V):Prop :=
 Rd H a (.lst xs) \/
  ∃(o:Obj) (its:Array Ev) (n:Nat),K.lookup a=some o/\o.cls=.type "list"/\o.dict=none/\o.data=.seq its n/\its.size<=sizeLine/\Vals xs its.toList
def SqT(K:Frag)(H:Hp)(a:Ch)(xs:List V):Prop :=
 Rd H a (.tup xs) \/
  ∃(o:Obj) (its:Array Ev) (n:Nat),K.lookup a=some o/\o.cls=.type "tuple"/\o.data=.seq its n/\its.size<=sizeLine/\Vals xs its.toList
def cC:Ev->Option V
 | .none=>some .non
 | .bool b=>some (.bl b)
 | .int i _=>some (.int i)
 | .str x _=>some (.str x)
 | .bytes b _=>some (.byt b)
 | .float b _=>some (.flt b)
 | .ref a=>some (.ref a)
 | .type n=>some (.ty n)
 | _=>none
theorem RelV.abs{x:V}{u:Ev}(r:RelV x u):cC u=some x:=by
 cases x with
 | non=>cases r; rfl
 | bl _=>cases r; rfl
 | int _=>obtain⟨t,rfl⟩:=r; rfl
 | str _=>obtain⟨t,rfl⟩:=r; rfl
 | byt _=>obtain⟨t,rfl⟩:=r; rfl
 | flt _=>obtain⟨t,rfl⟩:=r; rfl
 | ref _=>cases r; rfl
 | ty _=>cases r; rfl
theorem RelV.inj{x y:V}{u:Ev}(r:RelV x u)(q:RelV y u):x=y:=c_ (r.abs.symm.trans q.abs)
theorem Vals.inj:∀{xs ys:List V} {us:List Ev},Vals xs us->Vals ys us->xs=ys
 | _,_,_,.nil,.nil=>rfl
 | _,_,_,.cons r t,.cons r' t'=>by rw [r.inj r',Vals.inj t t']
section
variable {X:Cx}{zG:List (Addr×Obj)}{Z:St}{H:Hp}{s:Shared}{a:Addr}{xs ys:List V}
theorem SqL.of{K:Frag}(h:H a=some (.lst xs)):SqL K H a xs:=.inl (.inl h)
theorem SqT.of{K:Frag}(h:H a=some (.tup xs)):SqT K H a xs:=.inl (.inl h)
theorem Inv.list(I:Inv X zG Z H s)(h:SqL X.K H a xs):∃its:List Ev,Vals xs its/\PlainL s.heap a its.toArray/\xs.length<=sizeLine:=by
 rcases h with h | ⟨o,its,n,hk,hc,hd,hs,hz,r⟩
 ·obtain⟨z,its,n,r,e⟩:=h.ok I.hok
  exact⟨its,r,⟨_,n,e,rfl,rfl,rfl⟩,z⟩
 ·refine⟨its.toList,r,⟨o,n,I.kIn a o hk,hc,hd,by simpa using hs⟩,?_⟩
  have e:=r.length;simp only [eP] at e;omega
theorem Inv.tuple(I:Inv X zG Z H s)(h:SqT X.K H a xs):∃its:List Ev,Vals xs its/\IsTup s.heap a its.toArray/\xs.length<=sizeLine:=by
 rcases h with h | ⟨o,its,n,hk,hc,hs,hz,r⟩
 ·obtain⟨z,its,r,p⟩:=h.ok I.hok
  exact⟨its,r,p.tup,z⟩
 ·refine⟨its.toList,r,⟨o,I.kIn a o hk,hc,n,by simpa using hs⟩,?_⟩
  have e:=r.length;simp only [eP] at e;omega
theorem Inv.list_inj(I:Inv X zG Z H s)(h:SqL X.K H a xs)(h':SqL X.K H a ys):xs=ys:=by
 obtain⟨its,r,⟨o,n,e,_,_,d⟩,_⟩:=I.list h;obtain⟨its',r',⟨o',n',e',_,_,d'⟩,_⟩:=I.list h';rw [e] at e'; cases e'
 rw [d] at d';injection d' with d1 _
 have:its=its':=by simpa using congrArg Array.toList d1
 subst this;exact r.inj r'
theorem Inv.tuple_inj(I:Inv X zG Z H s)(h:SqT X.K H a xs)(h':SqT X.K H a ys):xs=ys:=by
 obtain⟨its,r,⟨o,e,_,n,d⟩,_⟩:=I.tuple h;obtain⟨its',r',⟨o',e',_,n',d'⟩,_⟩:=I.tuple h';rw [e] at e'; cases e'
 rw [d] at d';injection d' with d1 _
 have:its=its':=by simpa using congrArg Array.toList d1
 subst this;exact r.inj r'
end
abbrev Cx.wish(X:Cx)(E:Ev->Op->Prop):Cx:={ X with xe:=E }
abbrev Cx.nox(X:Cx):Cx:=X.wish λ_ _=>False
theorem Cx.Ok.wish{X:Cx}(ok:X.Ok)(E:Ev->Op->Prop):(X.wish E).Ok :=
 ⟨ok.mod,ok.kind,ok.glob,ok.blt,ok.above,ok.inj,ok.has,ok.cab,ok.hd,ok.frames,ok.stk,ok.exf,ok.bs,ok.bsz,ok.noex,ok.exfs,ok.funs,ok.frf⟩
theorem Cx.Ok.unwish{X:Cx}{E:Ev->Op->Prop}(ok:(X.wish E).Ok):X.Ok :=
 ⟨ok.mod,ok.kind,ok.glob,ok.blt,ok.above,ok.inj,ok.has,ok.cab,ok.hd,ok.frames,ok.stk,ok.exf,ok.bs,ok.bsz,ok.noex,ok.exfs,ok.funs,ok.frf⟩
section
variable {X:Cx}{zG:List (Addr×Obj)}{Z:St}{H:Hp}{s:Shared}{E:Value->Shared->Prop}
theorem Inv.wish(I:Inv X zG Z H s)(E:Ev->Op->Prop):Inv (X.wish E) zG Z H s:=⟨I.ok.wish E,I.os,I.bare,I.base,I.loc,I.cell,I.free,I.freeC,I.pin,I.hok,I.len⟩
theorem Inv.unwish(I:Inv (X.wish E) zG Z H s):Inv X zG Z H s:=⟨I.ok.unwish,I.os,I.bare,I.base,I.loc,I.cell,I.free,I.freeC,I.pin,I.hok,I.len⟩
theorem SP.unwish{D:Ends}{f:Flow}{s':Op}(h:SP (X.wish E) zG D f s'):SP X zG D f s':=by
 cases f with
 | next=>obtain⟨zZ,H',I,q⟩:=h; exact⟨zZ,H',I.unwish,q⟩
 | brk=>obtain⟨zZ,H',I,q⟩:=h; exact⟨zZ,H',I.unwish,q⟩
 | cont=>obtain⟨zZ,H',I,q⟩:=h; exact⟨zZ,H',I.unwish,q⟩
 | ret u=>obtain⟨v,zZ,H',I,r,q⟩:=h; exact⟨v,zZ,H',I.unwish,r,q⟩
theorem PSs.nox{st:List df}{t:TS}(h:PSs X.nox st t):PSs X st t:=λzG s Z H D I hw =>
 eU (h zG s Z H D (I.wish _) hw) (λ_ _ q=>q.unwish) λ_ _ z=>fQ z
end
section
variable {X:Cx}{st:Stmt}{rest:List Stmt}{t u:TS}{e:Expr}{te:TE}{pos:Pos}
def XJ:TS:=λD Z H=>D.nx Z H
def SQ(t u:TS):TS:=λD Z H=>t { D with nx:=u D } Z H
theorem NX:PSs X [] XJ:=λ_ _ Z H _ I h=>iU ⟨Z,H,I,h⟩
theorem Bb(h1:PS X st t)(h2:PSs X rest u):PSs X (st::rest) (SQ t u):=by
 intro zG s Z H D I h;refine wpAny_execs_cons (thn (h1 zG s Z H { D with nx:=u D } I h) λf s1 q=>?_);cases f with
 | next =>
  obtain⟨zZ,H',I',q⟩:=q;exact h2 zG s1 zZ H' D I' q
 | ret v=>exact q
 | brk=>exact q
 | cont=>exact q
theorem D_(h1:PS X st t):PSs X [st] t:=by
 intro zG s Z H D I h;refine wpAny_execs_cons (thn (h1 zG s Z H D I h) λf s1 q=>?_);cases f with
 | next=>exact iU q
 | ret v=>exact q
 | brk=>exact q
 | cont=>exact q
theorem Inv.quiet{zG:List (Ch×Obj)}{Z:St}{H:Hp}{s:Op}(I:Inv X zG Z H s):interactive X.env=false:=by simp [interactive,I.ok.kind]
def Zy(te:TE):TS:=λD Z H=>te Z H λ_ H1=>D.nx Z H1
theorem WK(he:PE X e te)(hs:swapsWith e none pos.line X.env=pure false:=by rfl):PS X (.Expr e pos) (Zy te):=by
 intro zG s Z H D I h;exact wpAny_Expr_any (thn (he zG s Z H _ I h) λv s1 ⟨x,H1,I1,r1,q1⟩=>⟨Z,H1,I1,q1⟩) I.quiet hs
def WB(te:TE):TS:=λD Z H=>te Z H D.rt
theorem Gv(he:PE X e te):PS X (.Return (some e) pos) (WB te):=by
 intro zG s Z H D I h;exact wpAny_Return_some (thn (he zG s Z H _ I h) λv s1 ⟨x,H1,I1,r1,q1⟩=>⟨x,Z,H1,I1,r1,q1⟩)
def Zx(c:TT)(t u:TS):TS:=λD Z H=>c Z H λb H1=>if b=true then t D Z H1 else u D Z H1
theorem Ui{c:dO}{a b:List df}{tc:TT}(hc:PT X c tc)(ha:PSs X a t)(hb:PSs X b u):PS X (.If c a b pos) (Zx tc t u):=by
 intro zG s Z H D I h;refine wpAny_If (thn (hc zG s Z H _ I h) λd s1 ⟨H1,I1,q1⟩=>?_);cases d with
 | true=>exact ha zG s1 Z H1 D I1 q1
 | false=>exact hb zG s1 Z H1 D I1 q1
end
abbrev TG:=V->St->Hp->(St->Hp->Prop)->Prop
abbrev ZY:=List V->St->Hp->(St->Hp->Prop)->Prop
def PG(X:Cx)(target:dO)(t:TG):Prop :=
 ∀(zG:List (Ch×Obj)) (s:Op) (Z:St) (H:Hp) (v:V) (u:Ev) (Q:St->Hp->Prop),Inv X zG Z H s->RelV v u->t v Z H Q ->
  wpAny (model X.prog X.w) X.A (assign target X.env u) (λ_ s'=>∃zZ H',Inv X zG zZ H' s'/\Q zZ H') X.xe s
def a9(X:Cx)(ts:List dO)(t:ZY):Prop :=
 ∀(zG:List (Ch×Obj)) (s:Op) (Z:St) (H:Hp) (vs:List V) (us:List Ev) (Q:St->Hp->Prop),Inv X zG Z H s->Vals vs us->t vs Z H Q ->
  wpAny (model X.prog X.w) X.A (assignInOrder ((assignEach ts X.env).map (·.2)) us) (λ_ s'=>∃zZ H',Inv X zG zZ H' s'/\Q zZ H') X.xe s
abbrev ZX:=V->V->V->Hp->(Hp->Prop)->Prop
def ay(X:Cx)(t:ZX):Prop :=
 ∀(zG:List (Ch×Obj)) (s:Op) (Z:St) (H:Hp) (o i v:V) (ov iv u:Ev) (Q:Hp->Prop),Inv X zG Z H s->RelV o ov->RelV i iv->RelV v u->t o i v H Q ->
  wpAny (model X.prog X.w) X.A (setItem ov iv u) (λ_ s'=>∃H',Inv X zG Z H' s'/\Q H') X.xe s
abbrev bM:=V->V->Hp->VK->Prop
def cS(X:Cx)(op:Operator)(t:bM):Prop :=
 ∀(zG:List (Ch×Obj)) (s:Op) (Z:St) (H:Hp) (x y:V) (v u:Ev) (Q:VK),Inv X zG Z H s->RelV x v->RelV y u->t x y H Q ->
  wpAny (model X.prog X.w) X.A (inplaceOp op v u) (EP X zG Z Q) X.xe s
section
variable {X:Cx}{pos:Pos}
def JB(i:Nat):TG:=λv Z H Q=>Q (Z.set i (some v)) H
theorem HP{i:Nat}{x:Str}(hN:X.N.Nodup)(hi:X.N[i]?=some x)(hx:Loc X.env.scope x)(hf:X.fn x=true\/X.env.scope.names.lookup x=some .local:=by first | exact .inl rfl | exact .inr rfl | assumption):PG X (.Name x pos) (JB i):=by
 intro zG s Z H v u Q I r h;exact wpAny_assign_Name (FR I hN hi hx r (λs' I'=>⟨_,H,I',h⟩) hf)
def bz:ZY:=λvs Z H Q=>vs=[]/\Q Z H
def aW(t:TG)(u:ZY):ZY:=λvs Z H Q=>∃v r,vs=v::r/\t v Z H λzZ H'=>u r zZ H' Q
theorem RJ:a9 X [] bz:=by
 intro zG s Z H vs us Q I r h;obtain⟨e,h⟩:=h;subst e;cases r;exact assignInOrder_nil ⟨Z,H,I,h⟩
theorem HN{e:dO}{es:List dO}{t:TG}{u:ZY}(h1:PG X e t)(h2:a9 X es u)
  (hs:(assignEach (e::es) X.env).map (·.2)=assign e X.env::(assignEach es X.env).map (·.2):=by rfl):a9 X (e::es) (aW t u):=by
 intro zG s Z H vs us Q I r h;obtain⟨v,vr,e1,h⟩:=h;subst e1;cases r with
 | cons r rr =>
  rw [hs];refine i8 (thn (h1 zG s Z H _ _ _ I r h) λ_ s1 ⟨zK,H1,I1,q1⟩=>?_);exact h2 zG s1 zK H1 _ _ Q I1 rr q1
def bw(K:Frag)(n:Nat)(t:ZY):TG:=λv Z H Q=>∃a xs,v=.ref a/\SqT K H a xs/\xs.length=n/\t xs Z H Q
theorem Uq{es:List dO}{k:Nat}{t:ZY}{n:Nat}(hc:X.calm=true)(h:a9 X es t)
  (hn:(assignEach es X.env).length=n:=by rfl) (hst:(assignEach es X.env).findIdx? (·.1)=none:=by rfl):PG X (.Tuple es k pos) (bw X.K n t):=by
 intro zG s Z H v u Q I r hw;obtain⟨a,xs,e1,hq,hl,hw⟩:=hw;subst e1;cases r;obtain⟨its,rv,ht,hz⟩:=I.tuple hq;refine assign_Tuple_tuple (I.ok.hd hc) ht (by simp [hn,← hl,rv.length]) hst λh' hx=>?_;have I1:Inv X zG Z H { s with heap:=h' }:=I.kept (t':=s.toks) λb o e=>hx b o (dJ (ZB e)) e;exact h zG _ Z H xs _ Q I1 (by simpa using rv) hw
def aV(to ti:TE)(t:ZX):TG:=λv Z H Q=>to Z H λo H1=>ti Z H1 λi H2=>t o i v H2 λH3=>Q Z H3
theorem QQ{o i:dO}{to ti:TE}{t:ZX}(ho:PE X o to)(hi:PE X i ti)(hs:ay X t)
  (ha:∀v,assign (.Subscript o i pos) X.env v=(do
   let ov ← holding [v] (eval o X.env)
   let iv ← holding [v,ov] (eval i X.env)
   standAt pos
   holding [v,ov,iv] (setItem ov iv v)
   release [v,ov,iv] []):=by intro _; rfl):PG X (.Subscript o i pos) (aV to ti t):=by
 intro zG s Z H v u Q I r h;rw [ha];refine Db (e_ (thn (ho zG s Z H _ I h) λov s1 ⟨x,H1,I1,r1,q1⟩=>?_));refine Db (e_ (thn (hi zG s1 Z H1 _ I1 q1) λiv s2 ⟨y,H2,I2,r2,q2⟩=>?_));refine Db (jC (Db (e_ (thn (hs zG s2 Z H2 x y v ov iv u _ I2 r1 r2 r q2) λ_ s3 ⟨H3,I3,q3⟩=>?_))));exact wpAny_release ⟨Z,H3,I3,q3⟩
def Ob(te:TE)(g:TG):TS:=λD Z H=>te Z H λx H1=>g x Z H1 D.nx
theorem NZ{tg e:dO}{te:TE}{g:TG}(he:PE X e te)(hg:PG X tg g)(hs:swapsWithSole [tg] e pos.line X.env=pure false:=by rfl)(hw:swappedStores [tg] e X.env=pure none:=by rfl)
  (h1:(assignEach [tg] X.env).map (·.2)=[assign tg X.env]:=by rfl):PS X (.Assign [tg] e pos) (Ob te g):=by
 intro zG s Z H D I h;refine wpAny_Assign_stores (thn (he zG s Z H _ I h) λv s1 ⟨x,H1,I1,r1,q1⟩=>?_) hs hw;rw [h1];exact thn (hg zG s1 Z H1 x v _ I1 r1 q1) λ_ s2 q=>q
theorem Fb{i:Nat}{x:Str}{e:dO}{te:TE}{pos':Pos}(hN:X.N.Nodup)(hi:X.N[i]?=some x)(hx:Loc X.env.scope x)(he:PE X e te)(hs:swapsWith e (some (.Name x pos')) pos.line X.env=pure false:=by rfl)(hf:X.fn x=true\/X.env.scope.names.lookup x=some .local:=by first | exact .inl rfl | exact .inr rfl | assumption) :
  PS X (.Assign [.Name x pos'] e pos) (Ob te (JB i)):=by
 intro zG s Z H D I h;refine wpAny_Assign_Name (thn (he zG s Z H _ I h) λv s1 ⟨y,H1,I1,r1,q1⟩=>?_) hs;exact FR I1 hN hi hx r1 (λs2 I2=>⟨_,H1,I2,q1⟩) hf
def bX(i j:Nat)(ta:TA):TS:=λD Z H=>ta Z H λvs H1=>∃v w,vs=[v,w]/\D.nx ((Z.set i (some v)).set j (some w)) H1
theorem YU{i j:Nat}{x y:Str}{a b:dO}{ta:TA}{px py pt:Pos}{kt k2 pt2}(hc:X.calm=true)(hN:X.N.Nodup)(hi:X.N[i]?=some x)(hj:X.N[j]?=some y)(hij:i≠j)
  (hx:X.env.scope.names.lookup x=some .local) (hy:X.env.scope.names.lookup y=some .local) (ha:PA X [a,b] ta)
  (hw:swappedStores [.Tuple [.Name x px,.Name y py] kt pt] (.Tuple [a,b] k2 pt2) X.env=pure (some [x,y]))
  (hs:swapsWithSole [.Tuple [.Name x px,.Name y py] kt pt] (.Tuple [a,b] k2 pt2) pos.line X.env=pure false:=by rfl) :
  PS X (.Assign [.Tuple [.Name x px,.Name y py] kt pt] (.Tuple [a,b] k2 pt2) pos) (bX i j ta):=by
 intro zG s Z H D I h;rw [exec_Assign_arm];refine Db (jC ?_);rw [hs];refine Db (TW ?_);rw [if_neg (by decide)];refine Db (Tuple_ (thn (ha _ zG s Z H _ I h) λus s1 ⟨vs,H1,I1,r1,q1⟩=>?_));obtain⟨v,w,e1,q1⟩:=q1;subst e1
 obtain⟨u1,u2,rfl,rv,rw'⟩:∃u1 u2,us=[u1,u2]/\RelV v u1/\RelV w u2:=by
  cases r1 with
  | cons p q =>
   cases q with
   | cons p' q' =>
    cases q';exact⟨_,_,rfl,p,p'⟩
 refine eS ?_ (by show 2<=sizeLine; decide);have I2:Inv X zG Z H1 { s1 with heap:=s1.heap.push { cls:=.type "tuple",data:=.seq [u1,u2].toArray } }:=I1.kept (t':=s1.toks) λb o e=>No _ e;rw [hw];refine Db (TW ?_);show wpAny (model X.prog X.w) X.A (do rule "assign.swapped-stores"; let items ← unpackItems (.ref s1.heap.objs.size) 2 none; assignInOrder [λv=>bindName X.env y v,λv=>bindName X.env x v] items.reverse; pure Flow.next) _ _ _;refine Db (gR (Db (unpackItems_tuple (items:=#[u1,u2]) (I.ok.hd hc) (IsTup.new s1.heap _) λh' hx'=>?_)));have I3:=I2.kept (h':=h') (t':=s1.toks) λb o e=>hx' b o (dJ (ZB e)) e;show wpAny _ _ (assignInOrder [λv=>bindName X.env y v,λv=>bindName X.env x v] [u2,u1] >>= λ_=>pure Flow.next) _ _ _;refine Db (i8 (wpAny_bindName (FR I3 hN hj (.inl hy) rw' (λs2 I4=>?_) (.inr hy))));refine i8 (wpAny_bindName (FR I4 hN hi (.inl hx) rv (λs3 I5=>assignInOrder_nil (TW ?_)) (.inr hx)));rw [List.set_comm _ _ (eW hij)] at I5;exact⟨_,H1,I5,q1⟩
def bc(i:Nat)(te:TE)(ti:bM):TS:=λD Z H=>∃x,Z[i]?=some (some x)/\te Z H λy H1=>ti x y H1 λz H2=>D.nx (Z.set i (some z)) H2
theorem YV{i:Nat}{x:Str}{e:dO}{te:TE}{op:Operator}{ti:bM}{pos':Pos}(hN:X.N.Nodup)(hi:X.N[i]?=some x)(hx:Loc X.env.scope x)(he:PE X e te)(ho:cS X op ti)(hf:X.fn x=true\/X.env.scope.names.lookup x=some .local:=by first | exact .inl rfl | exact .inr rfl | assumption) :
  PS X (.AugAssign (.Name x pos') op e pos) (bc i te ti):=by
 intro zG s Z H D I h;obtain⟨v,e1,h⟩:=h;obtain⟨m,hn,hl⟩:=I.loc;have vis:ZV X.env.scope x:=by rcases hx with k | k; exact .inl k; exact .inr (.inl k)
 obtain⟨u,r,l⟩:=hl i x v hi e1 vis;refine wpAny_AugAssign_Name ?_
 have go:wpAny (model X.prog X.w) X.A (eval e X.env) (λw s₂=>wpAny (model X.prog X.w) X.A (inplaceOp op u w) (λr s₃=>wpAny (model X.prog X.w) X.A (storeName X.env x r) (λ_=>SP X zG D .next) X.xe s₃) X.xe s₂) X.xe s:=by
  refine thn (he zG s Z H _ I h) λw s1 ⟨y,H1,I1,r1,q1⟩=>?_;refine thn (ho zG s1 Z H1 v y u w _ I1 r r1 q1) λz s2 ⟨zv,H2,I2,r2,q2⟩=>?_;exact FR I2 hN hi hx r2 (λs3 I3=>⟨_,H2,I3,q2⟩) hf
 rcases l with ⟨hk,hm⟩ | ⟨hk,c,hc,hcell⟩
 ·exact wpAny_loadName_local I.ok.kind hk hn hm go
 ·rcases hk with hk | hk
  ·exact wpAny_loadName_cell I.ok.kind hk hc hcell go
  ·rcases hx with k | k
   ·have:X.env.scope.names.lookup x=some .free:=hk
    rw [k] at this; cases this
   ·have:X.env.scope.names.lookup x=some .free:=hk
    rw [k] at this; cases this
def cb(f:Int->Int->Int):bM:=λx y H Q=>∃i j,x=.int i/\y=.int j/\Q (.int (f i j)) H
theorem Y2:cS X .Add (cb λi j=>i+j):=by
 intro zG s Z H x y v u Q I r1 r2 h;obtain⟨i,j,e1,e2,q⟩:=h;subst e1; subst e2
 obtain⟨t,rfl⟩:=r1;obtain⟨t',rfl⟩:=r2;exact iadd_int ⟨.int _,H,I.tok _,⟨_,rfl⟩,q⟩
end
section
variable {X:Cx}{pos:Pos}
def YB(c:TT)(tb:TS):TS:=λD Z H=>∃W:Nat->St->Hp->Prop,(∃m,W m Z H)/\∀m Z H,W m Z H ->
 c Z H λb H1=>if b=true then ∃N:St->Hp->Prop,(∀zZ H',N zZ H'->∃m',m'<m/\W m' zZ H')/\tb { D with nx:=N,ct:=N,bk:=D.nx } Z H1 else D.nx Z H1
theorem Uh{c:dO}{body:List df}{tc:TT}{tb:TS}(hp:jm (model X.prog X.w) X.A X.env X.xe)(hc:PT X c tc)(hb:PSs X body tb):PS X (.While c body [] pos) (YB tc tb):=by
 intro zG s Z H D I h;obtain⟨W,⟨m0,w0⟩,turn⟩:=h;refine wpAny_While (codeAny_whileLoop (λn s'=>∃zZ H',Inv X zG zZ H' s'/\W n zZ H') ?_ m0 ⟨Z,H,I,w0⟩);rintro n s1 ⟨zK,H1,I1,w1⟩;refine f9 hp (thn (hc zG s1 zK H1 _ I1 (turn n zK H1 w1)) λb s2 ⟨H2,I2,q2⟩=>?_);cases b with
 | true =>
  obtain⟨N,hN,q2⟩:=q2;rw [if_pos rfl];refine f9 hp (thn (hb zG s2 zK H2 _ I2 q2) λf s3 q3=>?_);cases f with
  | next =>
   obtain⟨zV,H3,I3,n3⟩:=q3;obtain⟨m',hm,w3⟩:=hN zV H3 n3;exact⟨m',hm,zV,H3,I3,w3⟩
  | cont =>
   obtain⟨zV,H3,I3,n3⟩:=q3;obtain⟨m',hm,w3⟩:=hN zV H3 n3;exact⟨m',hm,zV,H3,I3,w3⟩
  | brk=>exact q3
  | ret v=>exact q3
 | false =>
  rw [if_neg dH];exact iU ⟨zK,H2,I2,q2⟩
end
structure It where
 go:Nat->Hp->Prop
 yld:Nat->Hp->V->Hp->Prop
 stop:Nat->Hp->Prop
def II(X:Cx)(zG:List (Ch×Obj))(H:Hp)(b:Ch):Prop :=
 H b=none/\b≠X.env.locals/\b∉X.fs/\(b∈X.ex\/X.s₀.heap.objs.size<=b)/\(∀x c,X.env.cells.lookup x=some c->c≠b)/\∀p∈X.pn++zG,p.1≠b
theorem Inv.fpOk{X:Cx}{zG:List (Ch×Obj)}{Z:St}{H H':Hp}{s:Op}{b:Ch}(I:Inv X zG Z H s)(hb:s.heap.objs.size<=b)(hn:H' b=none):II X zG H' b:=by
 refine⟨hn,g9 (dY I.lt hb),I.nofs hb,.inr (de I.sz hb),λx c e z=>?_,λp hp z=>?_⟩
 ·obtain⟨v,q⟩:=I.cell x c e
  exact absurd (dY q.lt (by rw [z]; exact hb)) (d9 _)
 ·exact absurd (dY (ZB (I.pin p hp).1) (by rw [z]; exact hb)) (d9 _)
structure Turn (P:dZ) (w:dh) (K:Frag) (tg:dO) (J:It) (fp:List Ch) (it:Ch) (tn:Nat->dL->Prop):Prop where
 mem:it∈fp
 obj:∀i h,tn i h->∀b∈fp,∃o,h.get? b=some o/\∀v,o.data≠.cell v
 keep:∀i h h',tn i h->(∀b∈fp,∀o,h.get? b=some o->h'.get? b=some o)->tn i h'
 item:∀(X:Cx),X.prog=P->X.w=w->X.K=K->X.calm=true->∀(i:Nat) (zG:List (Ch×Obj)) (s:Op) (Z:St) (H:Hp) (E:Ev->Op->Prop),Inv X zG Z H s->(∀b∈fp,II X zG H b)->tn i s.heap->J.go i H ->
  wpAny (model P w) X.A (pyNext (.ref it)) (λr s1=>∃u,r=some u /\
   wpAny (model P w) X.A (letOwnedTupleGo tg (.ref it) u) (λ_ s2=>∃x H',Inv X zG Z H' s2/\RelV x u/\J.yld i H x H'/\tn (i+1) s2.heap/\∀b∈fp,H' b=none) E s1) E s
 done:∀(X:Cx),X.prog=P->X.w=w->X.K=K->X.calm=true->∀(i:Nat) (zG:List (Ch×Obj)) (s:Op) (Z:St) (H:Hp) (E:Ev->Op->Prop),Inv X zG Z H s->(∀b∈fp,II X zG H b)->tn i s.heap->J.stop i H ->
  wpAny (model P w) X.A (pyNext (.ref it)) (λr s1=>r=none/\Inv X zG Z H s1) E s
 self:∀(A:eC) (i:Nat) (s:Op) (Q:Ev->Op->Prop) (E:Ev->Op->Prop),tn i s.heap->Q (.ref it) s->wpAny (model P w) A (pyIter (.ref it)) Q E s
abbrev TI:=St->Hp->(It->Hp->Prop)->Prop
def cT(X:Cx)(zG:List (Ch×Obj))(Z:St)(tg:dO)(R:It->Hp->Prop)(itv:Ev)(s2:Op):Prop :=
 ∃(it:Ch) (fp:List Ch) (tn:Nat->dL->Prop) (J:It) (H':Hp),itv=.ref it/\Inv X zG Z H' s2/\Turn X.prog X.w X.K tg J fp it tn/\tn 0 s2.heap/\(∀b∈fp,II X zG H' b)/\R J H'
def PI(X:Cx)(tg iter:dO)(wi:TI):Prop :=
 ∀(zG:List (Ch×Obj)) (s:Op) (Z:St) (H:Hp) (R:It->Hp->Prop),Inv X zG Z H s->wi Z H R ->
  wpAny (model X.prog X.w) X.A (eval iter X.env) (λv s1=>wpAny (model X.prog X.w) X.A (pyIter v) (cT X zG Z tg R) X.xe s1) X.xe s
theorem RZ {M : Model} {A : eC} {E : Ev → Op → Prop} {s : Op} {tg : dO} {it : Ch} {u : Ev} {o : Obj} {n : String} {vs : Array Ev} {Q : Unit → Op → Prop} (ho : s.heap.get? it = some o) (hc : o.cls = .type n) (hd : o.data = .fields vs)
    (hn : ["enumerate", "zip", "dict_itemiterator", "dict_reverseitemiterator", "odict_iterator", "itertools.zip_longest", "itertools.pairwise"].contains n = false) (hQ : Q () s) : wpAny M A (letOwnedTupleGo tg (.ref it) u) Q E s := by
  unfold letOwnedTupleGo
  cases tg <;> first
    | exact TW hQ
    | (cases u <;> first
        | exact TW hQ
        | (refine Db (wpAny_load ho ?_)
           rw [hc, hd];show wpAny M A (if (["enumerate", "zip", "dict_itemiterator", "dict_reverseitemiterator", "odict_iterator", "itertools.zip_longest", "itertools.pairwise"].contains n && vs[0]? == some (rawInt _)) = true then _ else _) Q E s;rw [if_neg (by intro h; rw [hn, gJ] at h; cases h)];exact TW hQ))
def cI(K:Frag)(a:Ch):It :=
 ⟨λi H=>∃xs x,SqL K H a xs/\xs[i]?=some x,λi H x H'=>H'=H/\∀xs,SqL K H a xs->xs[i]?=some x,λi H=>∃xs,SqL K H a xs/\xs.length<=i⟩
def Ze(K:Frag)(a:Ch):It :=
 ⟨λi H=>∃xs x,SqT K H a xs/\xs[i]?=some x,λi H x H'=>H'=H/\∀xs,SqT K H a xs->xs[i]?=some x,λi H=>∃xs,SqT K H a xs/\xs.length<=i⟩
def bB(lo:Int)(n:Nat):It:=⟨λi _=>i<n,λi H x H'=>H'=H/\x=.int (lo+i),λi _=>n<=i⟩
theorem SJ{P:dZ}{w:dh}{K:Frag}{tg:dO}(a it:Ch):Turn P w K tg (cI K a) [it] it (λi h=>h.IsListIter it a i) where
 mem:=by simp
 obj:=λi h st b hb=>by
  have e:b=it:=by simpa using hb
  subst e;obtain⟨o,e,c,d⟩:=st;exact⟨o,e,λv z=>by rw [d] at z; cases z⟩
 keep:=λi h h' st k=>st.at λo e=>k it (by simp) o e
 item:=by
  intro X hP hw hK hc i zG s Z H E I hf st hg;subst hP hw hK;obtain⟨xs,x,hq,hx⟩:=hg;obtain⟨its,rv,p,hz⟩:=I.list hq;obtain⟨u,hu,ru⟩:=rv.get hx;obtain⟨f0,f1,f2,f3,f4,f5⟩:=hf it (by simp);refine wpAny_pyNext_list_item st p.isList (x:=u) (by simpa using hu) λh' st' sb=>?_;have I1:Inv X zG Z H { s with heap:=h' }:=I.turned (t':=s.toks) (λb o hb e=>(sb.2 b hb).trans e) f0 f1 f3 f4 f5;obtain⟨o,e,c,d⟩:=id st';exact⟨u,rfl,RZ (s:={ s with heap:=h' }) e c d (by decide) ⟨x,H,I1,ru,⟨rfl,λys hy=>by rw [I.list_inj hy hq]; exact hx⟩,st',λb hb=>(hf b hb).1⟩⟩
 done:=by
  intro X hP hw hK hc i zG s Z H E I hf st hg;subst hP hw hK;obtain⟨xs,hq,hx⟩:=hg;obtain⟨its,rv,p,hz⟩:=I.list hq;obtain⟨f0,f1,f2,f3,f4,f5⟩:=hf it (by simp);have hl:=rv.length;exact wpAny_pyNext_list_end (I.ok.hd hc) st p.isList (by simp; omega) λh' eb=>⟨rfl,I.turned (t':=s.toks) (λb o hb e=>eb b o hb e) f0 f1 f3 f4 f5⟩
 self:=λ_ _ _ _ _ st h=>wpAny_pyIter_listiter st h
theorem KQ{P:dZ}{w:dh}{K:Frag}{tg:dO}(a it:Ch):Turn P w K tg (Ze K a) [it] it (λi h=>h.IsTupleIter it a i) where
 mem:=by simp
 obj:=λi h st b hb=>by
  have e:b=it:=by simpa using hb
  subst e;obtain⟨o,e,c,d⟩:=st;exact⟨o,e,λv z=>by rw [d] at z; cases z⟩
 keep:=λi h h' st k=>st.at λo e=>k it (by simp) o e
 item:=by
  intro X hP hw hK hc i zG s Z H E I hf st hg;subst hP hw hK;obtain⟨xs,x,hq,hx⟩:=hg;obtain⟨its,rv,p,hz⟩:=I.tuple hq;obtain⟨u,hu,ru⟩:=rv.get hx;obtain⟨f0,f1,f2,f3,f4,f5⟩:=hf it (by simp);refine wpAny_pyNext_tuple_item st (show s.heap.IsTuple a its.toArray from p) (x:=u) (by simpa using hu) λh' st' sb=>?_;have I1:Inv X zG Z H { s with heap:=h' }:=I.turned (t':=s.toks) (λb o hb e=>(sb.2 b hb).trans e) f0 f1 f3 f4 f5;obtain⟨o,e,c,d⟩:=id st';exact⟨u,rfl,RZ (s:={ s with heap:=h' }) e c d (by decide) ⟨x,H,I1,ru,⟨rfl,λys hy=>by rw [I.tuple_inj hy hq]; exact hx⟩,st',λb hb=>(hf b hb).1⟩⟩
 done:=by
  intro X hP hw hK hc i zG s Z H E I hf st hg;subst hP hw hK;obtain⟨xs,hq,hx⟩:=hg;obtain⟨its,rv,p,hz⟩:=I.tuple hq;obtain⟨f0,f1,f2,f3,f4,f5⟩:=hf it (by simp);have hl:=rv.length;exact wpAny_pyNext_tuple_end (I.ok.hd hc) st (show s.heap.IsTuple a its.toArray from p) (by simp; omega) λh' eb=>⟨rfl,I.turned (t':=s.toks) (λb o hb e=>eb b o hb e) f0 f1 f3 f4 f5⟩
 self:=λ_ _ _ _ _ st h=>wpAny_pyIter_tupleiter st h
theorem P2{P:dZ}{w:dh}{K:Frag}{tg:dO}(it:Ch)(lo:Int)(n:Nat):Turn P w K tg (bB lo n) [it] it (λi h=>IsRangeIter h it (lo+(i:Nat)*1) ((n:Int) - (i:Nat)) 1) where
 mem:=by simp
 obj:=λi h st b hb=>by
  have e:b=it:=by simpa using hb
  subst e
  exact⟨_,st,λv z=>by
   have z':Data.fields _=Data.cell v:=z;cases z'⟩
 keep:=λi h h' st k=>k it (by simp) _ st
 item:=by
  intro X hP hw hK hc i zG s Z H E I hf st hg;subst hP hw hK;obtain⟨f0,f1,f2,f3,f4,f5⟩:=hf it (by simp);have W:=Walks.range (prog:=X.prog) (w:=X.w) (I.ok.hd hc) it lo 1 n;refine W.item i s _ _ hg st λv h' tk hv st' kk=>?_;obtain⟨t,rfl⟩:=hv;have I1:Inv X zG Z H { s with heap:=h',toks:=tk }:=I.turned (λb o hb e=>kk b o (by simpa using hb) e) f0 f1 f3 f4 f5;refine⟨_,rfl,RZ (s:={ s with heap:=h',toks:=tk }) (n := "range_iterator") st' rfl rfl (by decide) ⟨.int (lo+i),H,I1,⟨t,?_⟩,⟨rfl,rfl⟩,st',λb hb=>(hf b hb).1⟩⟩;rw [Int.mul_one]
 done:=by
  intro X hP hw hK hc i zG s Z H E I hf st hg;subst hP hw hK;obtain⟨f0,f1,f2,f3,f4,f5⟩:=hf it (by simp);exact wpAny_pyNext_range_end (I.ok.hd hc) st (by have:n<=i:=hg; omega) λh' eb=>⟨rfl,I.turned (t':=s.toks) (λb o hb e=>eb b o hb e) f0 f1 f3 f4 f5⟩
 self:=λ_ _ _ _ _ st h=>wpAny_pyIter_rangeiter st h
section
variable {X:Cx}{tg:Expr}
def bu(K:Frag)(tl:TE):TI:=λZ H R=>tl Z H λx H1=>∃a,x=.ref a/\(∃xs,SqT K H1 a xs)/\R (Ze K a) H1
theorem Uo{l:dO}{tl:TE}(hl:PE X l tl):PI X tg l (bu X.K tl):=by
 intro zG s Z H R I h;refine thn (hl zG s Z H _ I h) λv s1 ⟨x,H1,I1,r1,q1⟩=>?_;obtain⟨a,e,⟨xs,hq⟩,q⟩:=q1;subst e;cases r1;obtain⟨its,rv,p,hz⟩:=I1.tuple hq;refine fK (show s1.heap.IsTuple a its.toArray from p) ?_;refine⟨s1.heap.objs.size,[s1.heap.objs.size],_,_,H1,rfl,I1.kept (t':=s1.toks) λb o e=>No _ e,KQ a _,⟨_,c7 _ rfl,rfl,rfl⟩,λb hb=>?_,q⟩;have e:b=s1.heap.objs.size:=by simpa using hb
 subst e;exact I1.fpOk (Sc _) (I1.hok.fresh (Sc _))
theorem Oz{zG:List (Ch×Obj)}{Z:St}{H:Hp}{s:Op}{R:It->Hp->Prop}{E:Ev->Op->Prop}{lo hi:Int}{t u v:Tok}{tk:Nat}(I:Inv X zG Z H s)(h1:-(2 ^ 62)<=lo)(h2:lo<2 ^ 62)(h3:-(2 ^ 62)<=hi)(h4:hi<2 ^ 62)
  (q:R (bB lo (hi - lo).toNat) H):wpAny (model X.prog X.w) X.A (pyIter (.ref s.heap.objs.size)) (cT X zG Z tg R) E { s with heap:=s.heap.push { cls:=.type "range",data:=.fields #[.int lo t,.int hi u,.int 1 v] },toks:=tk }:=by
 refine wpAny_pyIter_range (IsRange.new ..) (small_one h1 h2 h3 h4) ?_;have I1:Inv X zG Z H { s with heap:=s.heap.push { cls:=.type "range",data:=.fields #[.int lo t,.int hi u,.int 1 v] },toks:=tk }:=I.kept λb o e=>No _ e
 refine⟨(s.heap.push { cls:=.type "range",data:=.fields #[.int lo t,.int hi u,.int 1 v] }).objs.size,[(s.heap.push { cls:=.type "range",data:=.fields #[.int lo t,.int hi u,.int 1 v] }).objs.size],_,_,H,rfl,
  I1.kept (t':=tk) λb o e=>No _ e,P2 _ lo (hi - lo).toNat,?_,λb hb=>?_,q⟩
 ·have e1:lo+((0:Nat):Int)*1=lo:=by simp
  have e2:(((hi - lo).toNat:Nat):Int) - ((0:Nat):Int)=Builtin.Range.rangeSize lo hi 1:=by rw [rangeSize_one]; split <;> omega
  show IsRangeIter _ _ (lo+((0:Nat):Int)*1) ((((hi - lo).toNat:Nat):Int) - ((0:Nat):Int)) 1;rw [e1,e2];exact c7 _ rfl
 ·have e:b=(s.heap.push { cls:=.type "range",data:=.fields #[.int lo t,.int hi u,.int 1 v] }).objs.size:=by simpa using hb
  subst e;exact I1.fpOk (Sc _) (I1.hok.fresh (Sc _))
def aT(ta:TA):TI:=λZ H R=>ta Z H λvs H1=>∃j:Int,vs=[.int j]/\-(2 ^ 62)<=j/\j<2 ^ 62/\R (bB 0 j.toNat) H1
def aS(ta:TA):TI:=λZ H R=>ta Z H λvs H1=>∃i j:Int,vs=[.int i,.int j]/\(-(2 ^ 62)<=i/\i<2 ^ 62/\-(2 ^ 62)<=j/\j<2 ^ 62)/\R (bB i (j - i).toNat) H1
theorem Sr{a:dO}{ta:TA}{p pos:Pos}(hg:Gl X "range")(hm:X.mg "range"=none)(ha:PA X [a] ta)(hs:starEach [a] X.env=[(false,eval a X.env)]:=by rfl):PI X tg (.Call (.Name "range" p) [a] [] pos) (aT ta):=by
 intro zG s Z H R I h;refine Call_ (EV I hg hm boot_range (eg (thn (ha pos zG s Z H _ I h) λus s1 ⟨vs,H1,I1,r1,q1⟩=>?_) hs rfl));obtain⟨j,e,q1,q2,q⟩:=q1;subst e;cases r1 with
 | cons r rr =>
  cases rr;obtain⟨t,rfl⟩:=r;exact call_range_1 (Oz I1 (by omega) (by omega) q1 q2 (by simpa using q))
theorem Sq{a b:dO}{ta:TA}{p pos:Pos}(hg:Gl X "range")(hm:X.mg "range"=none)(ha:PA X [a,b] ta)(hs:starEach [a,b] X.env=[(false,eval a X.env),(false,eval b X.env)]:=by rfl)(hs2:starEach [b] X.env=[(false,eval b X.env)]:=by rfl) :
  PI X tg (.Call (.Name "range" p) [a,b] [] pos) (aS ta):=by
 intro zG s Z H R I h;refine Call_ (EV I hg hm boot_range (eg (thn (ha pos zG s Z H _ I h) λus s1 ⟨vs,H1,I1,r1,q1⟩=>?_) (by rw [hs,hs2]) (by rw [hs2]; rfl)));obtain⟨i,j,e,⟨q1,q2,q3,q4⟩,q⟩:=q1;subst e;cases r1 with
 | cons r rr =>
  cases rr with
  | cons r' rr =>
   cases rr;obtain⟨t,rfl⟩:=r;obtain⟨t',rfl⟩:=r';exact call_range_2 (Oz I1 q1 q2 q3 q4 q)
def bb(wi:TI)(g:TG)(tb:TS):TS:=λD Z H=>wi Z H λJ H1=>∃W:Nat->Nat->St->Hp->Prop,(∃m,W 0 m Z H1)/\∀i m Z H,W i m Z H ->
 (J.stop i H/\D.nx Z H)\/(J.go i H/\∃N:St->Hp->Prop,(∀zZ H',N zZ H'->∃m',m'<m/\W (i+1) m' zZ H')/\∀x H',J.yld i H x H'->g x Z H' λzN H2=>tb { D with nx:=N,ct:=N,bk:=D.nx } zN H2)
def Ks(fp:List Ch)(h:dL):List (Ch×Obj):=fp.filterMap λb=>(h.get? b).map λo=>(b,o)
theorem FA{fp:List Ch}{h:dL}{b:Ch}{o:Obj}(hb:b∈fp)(e:h.get? b=some o):(b,o)∈Ks fp h:=List.mem_filterMap.mpr ⟨b,hb,by rw [e]; rfl⟩
theorem S2{fp:List Ch}{h:dL}{p:Ch×Obj}(hp:p∈Ks fp h):p.1∈fp/\h.get? p.1=some p.2:=by
 obtain⟨b,hb,e⟩:=List.mem_filterMap.mp hp;cases q:h.get? b with
 | none=>rw [q] at e; cases e
 | some o =>
  rw [q] at e;have e':(b,o)=p:=c_ e;subst e';exact⟨hb,q⟩
theorem Inv.pinned{zG:List (Ch×Obj)}{Z:St}{H:Hp}{s:Op}{fp:List Ch}(I:Inv X zG Z H s)(hf:∀b∈fp,II X zG H b)(ho:∀b∈fp,∃o,s.heap.get? b=some o/\∀v,o.data≠.cell v):Inv X (zG++Ks fp s.heap) Z H s :=
 I.pins_of λp hp=>(dN.mp hp).elim (λz=>I.pin p (dG _ z)) λz=>by
  obtain⟨hb,e⟩:=S2 z;obtain⟨f0,f1,f2,_⟩:=hf p.1 hb;obtain⟨o,e',d⟩:=ho p.1 hb;rw [e] at e'; cases e'
  exact⟨e,f0,f1,f2,d⟩
theorem Inv.unpinned{zG pl:List (Ch×Obj)}{Z:St}{H:Hp}{s:Op}(I:Inv X (zG++pl) Z H s):Inv X zG Z H s:=I.pins_of λp hp=>I.pin p (dG _ (di _ hp))
theorem NY{iter:dO}{body:List df}{wi:TI}{g:TG}{tb:TS}{pos:Pos}(hp:jm (model X.prog X.w) X.A X.env X.xe)(hc:X.calm=true)(hi:PI X tg iter wi)(hg:PG X tg g)(hb:PSs X body tb)
  (hs:∀x,foldedSetIterable iter X.env x=pure x:=by intro _; rfl):PS X (.For tg iter body [] pos) (bb wi g tb):=by
 intro zG s Z H D I h;refine wpAny_For (thn (hi zG s Z H _ I h) λv s1 h1=>thn h1 λitv s2 h2=>?_) hs;obtain⟨it,fp,tn,J,H2,e,I2,T,st2,f2,W,⟨m0,w0⟩,turn⟩:=h2;subst e;have stat:∀{H':Hp},(∀b∈fp,H' b=none)->∀b∈fp,II X zG H' b:=λhn b hb=>⟨hn b hb,(f2 b hb).2⟩;refine codeAny_forLoop_any (λn s'=>∃i zZ H',Inv X zG zZ H' s'/\tn i s'.heap/\(∀b∈fp,H' b=none)/\W i n zZ H') ?_ m0 ⟨0,Z,H2,I2,st2,λb hb=>(f2 b hb).1,w0⟩;rintro n s3 ⟨i,zV,H3,I3,st3,fr3,w3⟩
 rcases turn i n zV H3 w3 with ⟨stop,qn⟩ | ⟨go,N,hN,step⟩
 ·refine f9 hp (thn (T.done X rfl rfl rfl hc i zG s3 zV H3 X.xe I3 (stat fr3) st3 stop) λr s4 ⟨hr,I4⟩=>?_)
  subst hr;exact iU ⟨zV,H3,I4,qn⟩
 ·refine f9 hp (thn (T.item X rfl rfl rfl hc i zG s3 zV H3 X.xe I3 (stat fr3) st3 go) λr s4 ⟨u,hr,h4⟩=>?_)
  subst hr;refine f9 hp (thn h4 λ_ s5 ⟨x,H5,I5,r5,y5,st5,fr5⟩=>?_);have I5':=I5.pinned (stat fr5) (T.obj _ _ st5);refine f9 hp (thn (hg _ s5 zV H5 x u _ I5' r5 (step x H5 y5)) λ_ s6 ⟨σ6,H6,I6,q6⟩=>?_);refine f9 hp (thn (hb _ s6 σ6 H6 _ I6 q6) λf s7 q7=>?_)
  have again:∀{zM:St} {H7:Hp},Inv X (zG++Ks fp s5.heap) zM H7 s7->N zM H7->∃m,m<n/\∃i zZ H',Inv X zG zZ H' s7/\tn i s7.heap/\(∀b∈fp,H' b=none)/\W i m zZ H':=λ{zM H7} I7 n7=>by
   obtain⟨m',hm,w7⟩:=hN zM H7 n7;refine⟨m',hm,i+1,zM,H7,I7.unpinned,T.keep _ _ _ st5 λb hb o e=>(I7.pin (b,o) (dG _ (dG _ (FA hb e)))).1,λb hb=>?_,w7⟩;obtain⟨o,e,d⟩:=T.obj _ _ st5 b hb;exact(I7.pin (b,o) (dG _ (dG _ (FA hb e)))).2.1
  cases f with
  | next=>obtain⟨zM,H7,I7,n7⟩:=q7; exact again I7 n7
  | cont=>obtain⟨zM,H7,I7,n7⟩:=q7; exact again I7 n7
  | brk=>obtain⟨zM,H7,I7,q7⟩:=q7; exact⟨zM,H7,I7.unpinned,q7⟩
  | ret v=>obtain⟨x7,zM,H7,I7,r7,q7⟩:=q7; exact⟨x7,zM,H7,I7.unpinned,r7,q7⟩
end
theorem Rg{K:Frag}{a:Ch}{xs:List V}{g:TG}{tb:TS}{D:Ends}{Z:St}{H:Hp}(Pv:Nat->St->Hp->Prop)(h0:Pv 0 Z H)(hl:∀i Z H,i<=xs.length->Pv i Z H->SqT K H a xs)
  (hs:∀i x Z H,xs[i]?=some x->Pv i Z H->g x Z H λzN H2=>tb { D with nx:=Pv (i+1),ct:=Pv (i+1),bk:=D.nx } zN H2) (hd:∀Z H,Pv xs.length Z H->D.nx Z H) :
  ∃W:Nat->Nat->St->Hp->Prop,(∃m,W 0 m Z H)/\∀i m Z H,W i m Z H ->
   ((Ze K a).stop i H/\D.nx Z H)\/((Ze K a).go i H/\∃N:St->Hp->Prop,(∀zZ H',N zZ H'->∃m',m'<m/\W (i+1) m' zZ H')/\∀x H',(Ze K a).yld i H x H'->g x Z H' λzN H2=>tb { D with nx:=N,ct:=N,bk:=D.nx } zN H2):=by
 refine⟨λi m Z H=>m=xs.length - i/\i<=xs.length/\Pv i Z H,⟨xs.length,by simp,dD _,h0⟩,?_⟩;rintro i m Z H ⟨rfl,hi,p⟩;have q:=hl i Z H hi p
 by_cases hlt:i<xs.length
 ·refine .inr ⟨⟨xs,xs[i],q,by simp [hlt]⟩,Pv (i+1),λzZ H' p'=>⟨xs.length - (i+1),by omega,rfl,hlt,p'⟩,λx H' y=>?_⟩
  obtain⟨e,y⟩:=y;subst e;exact hs i x Z _ (y xs q) p
 ·have e:i=xs.length:=by omega
  subst e;exact .inl ⟨⟨xs,q,Sc _⟩,hd Z H p⟩
abbrev R2:=V->V->Hp->VK->Prop
def OpR(X:Cx)(f:Ev->Ev->Sem Ev)(r:R2):Prop :=
 ∀(zG:List (Ch×Obj)) (s:Op) (Z:St) (H:Hp) (x y:V) (v u:Ev) (Q:VK),Inv X zG Z H s->RelV x v->RelV y u->r x y H Q ->
  wpAny (model X.prog X.w) X.A (f v u) (EP X zG Z Q) X.xe s
def cD(X:Cx)(f:Ev->Sem Ev)(r:V->Hp->VK->Prop):Prop :=
 ∀(zG:List (Ch×Obj)) (s:Op) (Z:St) (H:Hp) (x:V) (v:Ev) (Q:VK),Inv X zG Z H s->RelV x v->r x H Q ->
  wpAny (model X.prog X.w) X.A (f v) (EP X zG Z Q) X.xe s
def DB(X:Cx)(f:Ev)(r:List V->Hp->VK->Prop):Prop :=
 ∀(zG:List (Ch×Obj)) (s:Op) (Z:St) (H:Hp) (xs:List V) (us:List Ev) (Q:VK),Inv X zG Z H s->Vals xs us->r xs H Q ->
  wpAny (model X.prog X.w) X.A (call f us) (EP X zG Z Q) X.xe s
def cE(X:Cx)(r:V->Hp->(Bool->Hp->Prop)->Prop):Prop :=
 ∀(zG:List (Ch×Obj)) (s:Op) (Z:St) (H:Hp) (x:V) (v:Ev) (Q:Bool->Hp->Prop),Inv X zG Z H s->RelV x v->r x H Q ->
  wpAny (model X.prog X.w) X.A (truthy v) (TP X zG Z Q) X.xe s
def EZ(r:R2)(ta tb:TE):TE:=λZ H Q=>ta Z H λx H1=>tb Z H1 λy H2=>r x y H2 Q
def cV(r:V->Hp->VK->Prop)(ta:TE):TE:=λZ H Q=>ta Z H λx H1=>r x H1 Q
def rI(C:Int->Int->Prop)(g:Int->Int->V):R2:=λx y H Q=>∃i j,x=.int i/\y=.int j/\C i j/\Q (g i j) H
def I0(g:Int->Int->V):R2:=λx y H Q=>∃i j,x=.int i/\y=.int j/\Q (g i j) H
def rU(g:Int->V):V->Hp->VK->Prop:=λx H Q=>∃i,x=.int i/\Q (g i) H
section
variable {X:Cx}{a b:Expr}{ta tb:TE}{pos:Pos}
theorem ZP(ha:PE X a ta)(hb:PE X b tb){zG:List (Ch×Obj)}{s:Op}{Z:St}{H:Hp}{R:V->V->Hp->Prop}(I:Inv X zG Z H s)
  (h:ta Z H λx H1=>tb Z H1 λy H2=>R x y H2) {Q:Ev->Op->Prop} {f:Ev->Ev->Sem Ev}
  (hf:∀v u s2 x y H2,Inv X zG Z H2 s2->RelV x v->RelV y u->R x y H2->wpAny (model X.prog X.w) X.A (f v u) Q X.xe s2) :
  wpAny (model X.prog X.w) X.A (eval a X.env) (λv s₁=>wpAny (model X.prog X.w) X.A (eval b X.env) (λu s₂=>wpAny (model X.prog X.w) X.A (f v u) Q X.xe s₂) X.xe s₁) X.xe s:=by
 refine thn (ha zG s Z H _ I h) λv s1 ⟨x,H1,I1,r1,q1⟩=>?_;refine thn (hb zG s1 Z H1 _ I1 q1) λu s2 ⟨y,H2,I2,r2,q2⟩=>?_;exact hf v u s2 x y H2 I2 r1 r2 q2
theorem B4{op:Operator}{r:R2}(ho:OpR X (binaryOp op) r)(ha:PE X a ta)(hb:PE X b tb):PE X (.BinOp a op b pos) (EZ r ta tb):=by
 intro zG s Z H Q I h;exact wpAny_BinOp (ZP ha hb I h λv u s2 x y H2 I2 rx ry q=>ho zG s2 Z H2 x y v u Q I2 rx ry q)
theorem aK{op:UnaryOp}{r:V->Hp->VK->Prop}(ho:cD X (unaryOp op) r)(ha:PE X a ta):PE X (.UnaryOp op a pos) (cV r ta):=by
 intro zG s Z H Q I h;exact UnaryOp_ (thn (ha zG s Z H _ I h) λv s1 ⟨x,H1,I1,r1,q1⟩=>ho zG s1 Z H1 x v Q I1 r1 q1)
theorem bH{f:Ev->Ev->Sem Ev}{C:Int->Int->Prop}{g:Int->Int->Int}
  (rule:∀(i j:Int) (t u:Tok) (s:Op) (Q:Ev->Op->Prop) (E:Ev->Op->Prop),C i j->Q (.int (g i j) s.toks) { s with toks:=s.toks+1 }->wpAny (model X.prog X.w) X.A (f (.int i t) (.int j u)) Q E s) :
  OpR X f (rI C λi j=>.int (g i j)):=by
 intro zG s Z H x y v u Q I rx ry h;obtain⟨i,j,rfl,rfl,hc,q⟩:=h;obtain⟨t,rfl⟩:=rx;obtain⟨t',rfl⟩:=ry;exact rule i j t t' s _ _ hc ⟨.int (g i j),H,I.tok _,⟨_,rfl⟩,q⟩
theorem aO{f:Ev->Ev->Sem Ev}{g:Int->Int->Int}
  (rule:∀(i j:Int) (t u:Tok) (s:Op) (Q:Ev->Op->Prop) (E:Ev->Op->Prop),Q (.int (g i j) s.toks) { s with toks:=s.toks+1 }->wpAny (model X.prog X.w) X.A (f (.int i t) (.int j u)) Q E s) :
  OpR X f (I0 λi j=>.int (g i j)):=by
 intro zG s Z H x y v u Q I rx ry h;obtain⟨i,j,rfl,rfl,q⟩:=h;obtain⟨t,rfl⟩:=rx;obtain⟨t',rfl⟩:=ry;exact rule i j t t' s _ _ ⟨.int (g i j),H,I.tok _,⟨_,rfl⟩,q⟩
theorem WV{f:Ev->Ev->Sem Ev}{g:Int->Int->Bool}
  (rule:∀(i j:Int) (t u:Tok) (s:Op) (Q:Ev->Op->Prop) (E:Ev->Op->Prop),Q (.bool (g i j)) s->wpAny (model X.prog X.w) X.A (f (.int i t) (.int j u)) Q E s) :
  OpR X f (I0 λi j=>.bl (g i j)):=by
 intro zG s Z H x y v u Q I rx ry h;obtain⟨i,j,rfl,rfl,q⟩:=h;obtain⟨t,rfl⟩:=rx;obtain⟨t',rfl⟩:=ry;exact rule i j t t' s _ _ ⟨.bl (g i j),H,I,rfl,q⟩
def Tt(i j:Int):Prop:=0<j/\j<1073741824
def Jm(i j:Int):Prop:=0<=j/\j<=1000000/\i.natAbs<2 ^ 64
def CMul(i j:Int):Prop:=(-(2 ^ 64)<i/\i<2 ^ 64)\/(-(2 ^ 64)<j/\j<2 ^ 64)
theorem CMul.ok{i j:Int}(h:CMul i j):IntMulOk i j:=by
 rcases h with ⟨h1,h2⟩ | ⟨h1,h2⟩
 ·exact .of_left (intBits_le_64 h1 h2)
 ·exact .of_right (intBits_le_64 h1 h2)
theorem op_add:OpR X (binaryOp .Add) (I0 λi j=>.int (i+j)):=aO λ_ _ _ _ _ _ _ q=>add_int q
theorem op_sub:OpR X (binaryOp .Sub) (I0 λi j=>.int (i - j)):=aO λ_ _ _ _ _ _ _ q=>sub_int q
theorem op_mul:OpR X (binaryOp .Mult) (rI CMul λi j=>.int (i*j)):=bH λ_ _ _ _ _ _ _ hc q=>mul_int q hc.ok
theorem HR:OpR X (binaryOp .FloorDiv) (rI Tt λi j=>.int (i / j)):=bH λi j _ _ _ _ _ hc q=>by
 have h1:(0:Int)<j:=hc.1;have h2:j<1073741824:=hc.2;exact floordiv_int (by omega) (by rw [Int.fdiv_eq_ediv_of_nonneg i (by omega)]; exact q) (.inl (PyProof.noPylong_small (by omega)))
theorem EU:OpR X (binaryOp .Mod) (rI (λ_ j=>0<j) λi j=>.int (i % j)):=bH λi j _ _ _ _ _ hc q=>by
 have h1:(0:Int)<j:=hc;exact mod_int' (by omega) (by rw [Int.fmod_eq_emod_of_nonneg i (by omega)]; exact q)
theorem E_:OpR X (binaryOp .Pow) (rI Jm λi j=>.int (i ^ j.toNat)):=bH λ_ _ _ _ _ _ _ hc q=>pow_int_small hc.1 hc.2.1 hc.2.2 q
theorem cU{f:Ev->Sem Ev}{g:Int->Int}
  (rule:∀(i:Int) (t:Tok) (s:Op) (Q:Ev->Op->Prop) (E:Ev->Op->Prop),Q (.int (g i) s.toks) { s with toks:=s.toks+1 }->wpAny (model X.prog X.w) X.A (f (.int i t)) Q E s) :
  cD X f (rU λi=>.int (g i)):=by
 intro zG s Z H x v Q I rx h;obtain⟨i,rfl,q⟩:=h;obtain⟨t,rfl⟩:=rx;exact rule i t s _ _ ⟨.int (g i),H,I.tok _,⟨_,rfl⟩,q⟩
theorem X6:cD X (unaryOp .USub) (rU λi=>.int (-i)):=cU λ_ _ _ _ _ q=>neg_int q
end
def Z3:V->V->Bool
 | .non,.non=>true | .non,.int _=>true | .int _,.non=>true | .non,.bl _=>true | .bl _,.non=>true | .non,.str _=>true | .str _,.non=>true
 | .int _,.int _=>true | .bl _,.bl _=>true | .str _,.str _=>true | .byt _,.byt _=>true
 | .int _,.str _=>true | .str _,.int _=>true | .bl _,.str _=>true | .str _,.bl _=>true
 | _,_=>false
def cN:R2:=λx y H Q=>Z3 x y=true/\Q (.bl (decide (x=y))) H
def cK:R2:=λx y H Q=>Z3 x y=true/\Q (.bl (!decide (x=y))) H
theorem J5{i j:Int}:decide (V.int i=V.int j)=(i==j):=by
 rw [eG];simp
theorem N8{i j:Bool}:decide (V.bl i=V.bl j)=(i==j):=by
 rw [eG];simp
theorem J4{i j:Str}:decide (V.str i=V.str j)=(i==j):=by
 rw [eG];simp
theorem Rt{i j:Array UInt8}:decide (V.byt i=V.byt j)=(i.toList==j.toList):=by
 rw [eG];cases i;cases j;simp
section
variable {X:Cx}{a b c:Expr}{ta tb tc:TE}{pos:Pos}
theorem A5{zG:List (Ch×Obj)}{Z:St}{H:Hp}{s:Op}{Q:VK}{k k':Bool}(I:Inv X zG Z H s)(q:Q (.bl k) H)(e:k=k'):EP X zG Z Q (.bool k') s:=by
 subst e;exact⟨.bl k,H,I,rfl,q⟩
theorem Ef:OpR X (compareOp .Eq) cN:=by
 intro zG s Z H x y v u Q I rx ry h;obtain⟨hs,q⟩:=h;cases x with
 | non =>
  cases rx;cases y with
  | non=>cases ry; exact PySem.EqNone.eq_none_none (A5 I q (by simp))
  | bl j=>cases ry; exact PySem.EqNone.eq_none_bool (A5 I q (by simp))
  | int j=>obtain⟨t',rfl⟩:=ry; exact PySem.EqNone.eq_none_int (A5 I q (by simp))
  | str j=>obtain⟨t',rfl⟩:=ry; exact PySem.EqNone.eq_none_str (A5 I q (by simp))
  | _=>exact absurd (show false=true from hs) dH
 | bl i =>
  cases rx;cases y with
  | non=>cases ry; exact PySem.EqNone.eq_bool_none (A5 I q (by simp))
  | bl j=>cases ry; exact eq_bool (A5 I q N8)
  | str j=>obtain⟨t',rfl⟩:=ry; exact PySem.EqMixed.eq_bool_str (A5 I q (by simp))
  | _=>exact absurd (show false=true from hs) dH
 | int i =>
  obtain⟨t,rfl⟩:=rx;cases y with
  | non=>cases ry; exact PySem.EqNone.eq_int_none (A5 I q (by simp))
  | int j=>obtain⟨t',rfl⟩:=ry; exact eq_int (A5 I q J5)
  | str j=>obtain⟨t',rfl⟩:=ry; exact PySem.EqMixed.eq_int_str (A5 I q (by simp))
  | _=>exact absurd (show false=true from hs) dH
 | str i =>
  obtain⟨t,rfl⟩:=rx;cases y with
  | non=>cases ry; exact PySem.EqNone.eq_str_none (A5 I q (by simp))
  | bl j=>cases ry; exact PySem.EqMixed.eq_str_bool (A5 I q (by simp))
  | int j=>obtain⟨t',rfl⟩:=ry; exact PySem.EqMixed.eq_str_int (A5 I q (by simp))
  | str j=>obtain⟨t',rfl⟩:=ry; exact eq_str (A5 I q J4)
  | _=>exact absurd (show false=true from hs) dH
 | byt i =>
  obtain⟨t,rfl⟩:=rx;cases y with
  | byt j=>obtain⟨t',rfl⟩:=ry; exact PySem.W.eq_bytes (A5 I q Rt)
  | _=>exact absurd (show false=true from hs) dH
 | _=>cases y <;> exact absurd (show false=true from hs) dH
theorem Ee:OpR X (compareOp .NotEq) cK:=by
 intro zG s Z H x y v u Q I rx ry h;obtain⟨hs,q⟩:=h;cases x with
 | non =>
  cases rx;cases y with
  | non=>cases ry; exact PySem.EqNone.ne_none_none (A5 I q (by simp))
  | bl j=>cases ry; exact PySem.EqNone.ne_none_bool (A5 I q (by simp))
  | int j=>obtain⟨t',rfl⟩:=ry; exact PySem.EqNone.ne_none_int (A5 I q (by simp))
  | str j=>obtain⟨t',rfl⟩:=ry; exact PySem.EqNone.ne_none_str (A5 I q (by simp))
  | _=>exact absurd (show false=true from hs) dH
 | bl i =>
  cases rx;cases y with
  | non=>cases ry; exact PySem.EqNone.ne_bool_none (A5 I q (by simp))
  | bl j=>cases ry; exact ne_bool (A5 I q (congrArg not N8))
  | str j=>obtain⟨t',rfl⟩:=ry; exact PySem.EqMixed.ne_bool_str (A5 I q (by simp))
  | _=>exact absurd (show false=true from hs) dH
 | int i =>
  obtain⟨t,rfl⟩:=rx;cases y with
  | non=>cases ry; exact PySem.EqNone.ne_int_none (A5 I q (by simp))
  | int j=>obtain⟨t',rfl⟩:=ry; exact ne_int (A5 I q (congrArg not J5))
  | str j=>obtain⟨t',rfl⟩:=ry; exact PySem.EqMixed.ne_int_str (A5 I q (by simp))
  | _=>exact absurd (show false=true from hs) dH
 | str i =>
  obtain⟨t,rfl⟩:=rx;cases y with
  | non=>cases ry; exact PySem.EqNone.ne_str_none (A5 I q (by simp))
  | bl j=>cases ry; exact PySem.EqMixed.ne_str_bool (A5 I q (by simp))
  | int j=>obtain⟨t',rfl⟩:=ry; exact PySem.EqMixed.ne_str_int (A5 I q (by simp))
  | str j=>obtain⟨t',rfl⟩:=ry; exact ne_str (A5 I q (congrArg not J4))
  | _=>exact absurd (show false=true from hs) dH
 | byt i =>
  obtain⟨t,rfl⟩:=rx;cases y with
  | byt j=>obtain⟨t',rfl⟩:=ry; exact PySem.W.ne_bytes (A5 I q (congrArg not Rt))
  | _=>exact absurd (show false=true from hs) dH
 | _=>cases y <;> exact absurd (show false=true from hs) dH
theorem op_lt:OpR X (compareOp .Lt) (I0 λi j=>.bl (decide (i<j))):=WV λ_ _ _ _ _ _ _ q=>jt q
theorem op_le:OpR X (compareOp .LtE) (I0 λi j=>.bl (decide (i<=j))):=WV λ_ _ _ _ _ _ _ q=>le_int q
theorem Xg:OpR X (compareOp .Gt) (I0 λi j=>.bl (decide (j<i))):=WV λ_ _ _ _ _ _ _ q=>gt_int q
theorem Xh:OpR X (compareOp .GtE) (I0 λi j=>.bl (decide (j<=i))):=WV λ_ _ _ _ _ _ _ q=>ge_int q
theorem Sx:OpR X (compareOp .Lt) (λx y H Q=>∃i j,x=.str i/\y=.str j/\Q (.bl (decide (i.cps.toList<j.cps.toList))) H):=by
 intro zG s Z H x y v u Q I rx ry h;obtain⟨i,j,rfl,rfl,q⟩:=h;obtain⟨t,rfl⟩:=rx;obtain⟨t',rfl⟩:=ry;exact lt_str (A5 I q rfl)
theorem S0:OpR X (compareOp .In) (λx y H Q=>∃i j,x=.str i/\y=.str j/\Q (.bl (!(eR j i 0 j.length 1).isEmpty)) H):=by
 intro zG s Z H x y v u Q I rx ry h;obtain⟨i,j,rfl,rfl,q⟩:=h;obtain⟨t,rfl⟩:=rx;obtain⟨t',rfl⟩:=ry;exact in_str (A5 I q rfl)
theorem Ih:OpR X (compareOp .Is) (λx y H Q=>y=.non/\Q (.bl (decide (x=.non))) H):=by
 intro zG s Z H x y v u Q I rx ry h;obtain⟨rfl,q⟩:=h;cases ry;refine is_none_gen (A5 I q ?_)
 cases x <;> first
  | (cases rx; rfl)
  | (obtain⟨t,rfl⟩:=rx; rfl)
theorem Ju:OpR X (compareOp .IsNot) (λx y H Q=>y=.non/\Q (.bl (!decide (x=.non))) H):=by
 intro zG s Z H x y v u Q I rx ry h;obtain⟨rfl,q⟩:=h;cases ry;refine isnot_none_gen (A5 I q ?_)
 cases x <;> first
  | (cases rx; rfl)
  | (obtain⟨t,rfl⟩:=rx; rfl)
theorem OpR.or{f:Ev->Ev->Sem Ev}{r r':R2}(h:OpR X f r)(h':OpR X f r'):OpR X f (λx y H Q=>r x y H Q\/r' x y H Q):=by
 intro zG s Z H x y v u Q I rx ry q
 rcases q with q | q
 ·exact h zG s Z H x y v u Q I rx ry q
 ·exact h' zG s Z H x y v u Q I rx ry q
theorem Ak(b:dO){op:CmpOp}(h:op≠.In:=by decide)(h2:op≠.NotIn:=by decide):behindInMarks op b=false:=by
 have e1:(op==CmpOp.In)=false:=by cases op <;> first | rfl | exact absurd rfl h
 have e2:(op==CmpOp.NotIn)=false:=by cases op <;> first | rfl | exact absurd rfl h2
 cases b <;> simp [behindInMarks,e1,e2]
theorem WR{op:CmpOp}{r:R2}(ho:OpR X (compareOp op) r)(ha:PE X a ta)(hb:PE X b tb)(hm:behindInMarks op b=false):PE X (.Compare a [op] [b] pos) (EZ r ta tb):=by
 intro zG s Z H Q I h;exact wpAny_Compare1 (ZP ha hb I h λv u s2 x y H2 I2 rx ry q=>ho zG s2 Z H2 x y v u Q I2 rx ry q) hm
def Q8(t:TE):TT:=λZ H Q=>t Z H λx H'=>∃k,x=.bl k/\Q k H'
theorem HM{op:CmpOp}{r:R2}(ho:OpR X (compareOp op) r)(ha:PE X a ta)(hb:PE X b tb)(hm:behindInMarks op b=false):PT X (.Compare a [op] [b] pos) (Q8 (EZ r ta tb)):=by
 intro zG s Z H Q I h
 refine wpAny_isTrue_Compare1 (thn (ha zG s Z H _ I h) λv s1 ⟨x,H1,I1,r1,q1⟩=>thn (hb zG s1 Z H1 _ I1 q1) λu s2 ⟨y,H2,I2,r2,q2⟩ =>
  thn (ho zG s2 Z H2 x y v u _ I2 r1 r2 q2) λc s3 ⟨z,H3,I3,r3,k,e,q3⟩=>?_) hm
 subst e;cases r3;exact e8 ⟨H3,I3,q3⟩
def P8(r r':R2)(ta tb tc:TE):TE:=λZ H Q=>ta Z H λx H1=>tb Z H1 λy H2=>r x y H2 λz H3=>∃k,z=.bl k /\
 (if k=true then tc Z H3 λw' H4=>r' y w' H4 Q else Q (.bl false) H3)
theorem Uw{op op':CmpOp}{r r':R2}(ho:OpR X (compareOp op) r)(ho':OpR X (compareOp op') r')(ha:PE X a ta)(hb:PE X b tb)(hc:PE X c tc)
  (hm:lastMarks [op,op'] [b,c]=false:=by with_unfolding_all rfl):PE X (.Compare a [op,op'] [b,c] pos) (P8 r r' ta tb tc):=by
 intro zG s Z H Q I h
 refine Compare_chain (thn (ha zG s Z H _ I h) λv s1 ⟨x,H1,I1,r1,q1⟩=>chain_link (thn (hb zG s1 Z H1 _ I1 q1) λu s2 ⟨y,H2,I2,r2,q2⟩ =>
  thn (ho zG s2 Z H2 x y v u _ I2 r1 r2 q2) λd s3 ⟨z,H3,I3,r3,k,e,q3⟩=>?_)) hm
 subst e;cases r3;refine e8 ?_;cases k with
 | false=>exact ite_ff ⟨.bl false,H3,I3,rfl,q3⟩
 | true=>exact ite_tt (chain_last (thn (hc zG s3 Z H3 _ I3 q3) λw' s4 ⟨z',H4,I4,r4,q4⟩=>ho' zG s4 Z H4 y z' u w' Q I4 r2 r4 q4))
theorem Ug{op op':CmpOp}{r r':R2}(ho:OpR X (compareOp op) r)(ho':OpR X (compareOp op') r')(ha:PE X a ta)(hb:PE X b tb)(hc:PE X c tc)
  (hm:lastMarks [op,op'] [b,c]=false:=by with_unfolding_all rfl):PT X (.Compare a [op,op'] [b,c] pos) (Q8 (P8 r r' ta tb tc)):=by
 intro zG s Z H Q I h
 refine isTrue_chain (thn (ha zG s Z H _ I h) λv s1 ⟨x,H1,I1,r1,q1⟩=>test_link (thn (hb zG s1 Z H1 _ I1 q1) λu s2 ⟨y,H2,I2,r2,q2⟩ =>
  thn (ho zG s2 Z H2 x y v u _ I2 r1 r2 q2) λd s3 ⟨z,H3,I3,r3,k,e,q3⟩=>?_)) hm
 subst e;cases r3;refine e8 ?_;cases k with
 | false =>
  obtain⟨k',e',q'⟩:=q3;cases e';exact ite_ff ⟨H3,I3,q'⟩
 | true =>
  refine ite_tt (test_last (thn (hc zG s3 Z H3 _ I3 q3) λw' s4 ⟨z',H4,I4,r4,q4⟩=>thn (ho' zG s4 Z H4 y z' u w' _ I4 r2 r4 q4) λd' s5 ⟨z2,H5,I5,r5,k2,e2,q5⟩=>?_));subst e2;cases r5;exact e8 ⟨H5,I5,q5⟩
def ZW(K:Frag)(x:V)(H:Hp)(k:Bool):Prop :=
 match x with
 | .non=>k=false
 | .bl b=>k=b
 | .int i=>k=(i != 0)
 | .str y=>y.length<=sizeLine/\k=((y.length:Int) != 0)
 | .byt y=>y.size<=sizeLine/\k=((y.size:Int) != 0)
 | .ref p=>(∃xs,SqL K H p xs/\k=!xs.isEmpty)\/(∃xs,SqT K H p xs/\k=!xs.isEmpty)\/∃kvs,H p=some (.dK kvs)/\k=!kvs.isEmpty
 | _=>False
theorem Qf{κ:Type}{kvs:List (κ×V)}{vs:List (κ×Ev)}(r:KV kvs vs):(!vs.isEmpty)=!kvs.isEmpty:=by
 cases r <;> rfl
theorem K_{xs:List V}{its:List Ev}(r:Vals xs its):(!its.toArray.isEmpty)=!xs.isEmpty:=by
 cases r <;> simp
theorem Il:(sizeLine:Nat)<2 ^ 63:=by rw [d7]; decide
theorem X_:cE X (λx H Q=>∃k,ZW X.K x H k/\Q k H):=by
 intro zG s Z H x v Q I rx h;obtain⟨k,e,q⟩:=h;have hl:=Il;have hs:sizeLine=16777216:=d7;cases x with
 | non =>
  cases rx;have e':k=false:=e;subst e';exact truthy_none ⟨H,I,q⟩
 | bl b =>
  cases rx;have e':k=b:=e;subst e';exact e8 ⟨H,I,q⟩
 | int i =>
  obtain⟨t,rfl⟩:=rx;have e':k=(i != 0):=e;subst e';exact PySem.P.truthy_int ⟨H,I,q⟩
 | str y =>
  obtain⟨t,rfl⟩:=rx;obtain⟨hy,e'⟩:y.length<=sizeLine/\k=((y.length:Int) != 0):=e;subst e';exact PySem.P.truthy_str (by omega) ⟨H,I.tok _,q⟩
 | byt y =>
  obtain⟨t,rfl⟩:=rx;obtain⟨hy,e'⟩:y.size<=sizeLine/\k=((y.size:Int) != 0):=e;subst e';exact PySem.W.truthy_bytes (by omega) ⟨H,I.tok _,q⟩
 | ref p =>
  cases rx;have e':(∃xs,SqL X.K H p xs/\k=!xs.isEmpty)\/(∃xs,SqT X.K H p xs/\k=!xs.isEmpty)\/∃kvs,H p=some (.dK kvs)/\k=!kvs.isEmpty:=e
  rcases e' with ⟨xs,hx,e'⟩ | ⟨xs,hx,e'⟩ | ⟨kvs,hx,e'⟩
  ·subst e'
   obtain⟨its,r,pl,hz⟩:=I.list hx;have hlen:=r.length;exact wpAny_truthy_list pl.isList (by simp only [Tk]; omega) ⟨H,I.tok _,by rw [K_ r]; exact q⟩
  ·subst e'
   obtain⟨its,r,pl,hz⟩:=I.tuple hx;have hlen:=r.length;exact truthy_tuple pl (by simp only [Tk]; omega) ⟨H,I.tok _,by rw [K_ r]; exact q⟩
  ·subst e'
   obtain⟨hz,hS,vs,r,m⟩:kvs.length<=sizeLine/\(p==sysModules)=false/\∃vs,KV kvs vs/\s.heap.DictOf (BE X.prog X.w) p vs:=I.hok p _ hx;have hlen:kvs.length=vs.length:=Paired.length r;exact wpAny_truthy_dict hS m (by omega) ⟨H,I.tok _,by rw [Qf r]; exact q⟩
 | _=>exact(show False from e).elim
theorem Ue(ha:PE X a ta)(he:∀whole,isTrue a X.env whole=(do let v ← whole; standAt a.pos; holding [v] (truthy v))) :
  PT X a (λZ H Q=>ta Z H λx H'=>∃k,ZW X.K x H' k/\Q k H'):=by
 intro zG s Z H Q I h;exact isTrue_plain (thn (ha zG s Z H _ I h) λv s1 ⟨x,H1,I1,r1,q1⟩=>X_ zG s1 Z H1 x v Q I1 r1 q1) (he _)
theorem QS:OpR X (binaryOp .Add) (λx y H Q=>∃i j,x=.str i/\y=.str j/\i.length+j.length<=sizeLine/\Q (.str (i++j)) H):=by
 intro zG s Z H x y v u Q I rx ry h;obtain⟨i,j,rfl,rfl,hz,q⟩:=h;obtain⟨t,rfl⟩:=rx;obtain⟨t',rfl⟩:=ry;exact add_str (λt' tk=>⟨.str (i++j),H,I.tok _,⟨_,rfl⟩,q⟩) hz
theorem vals1{x:V}{us:List Ev}(r:Vals [x] us):∃u,us=[u]/\RelV x u:=by
 cases r with
 | cons r1 r2=>cases r2; exact⟨_,rfl,r1⟩
theorem vals2{x y:V}{us:List Ev}(r:Vals [x,y] us):∃u w',us=[u,w']/\RelV x u/\RelV y w':=by
 cases r with
 | cons r1 r2 =>
  cases r2 with
  | cons r3 r4=>cases r4; exact⟨_,_,rfl,r1,r3⟩
theorem LX:DB X (.builtin "abs") (λxs H Q=>∃i,xs=[.int i]/\Q (.int (if i<0 then -i else i)) H):=by
 intro zG s Z H xs us Q I r h;obtain⟨i,rfl,q⟩:=h;obtain⟨u,rfl,t,rfl⟩:=vals1 r;exact call_abs_int λu tk=>⟨.int (if i<0 then -i else i),H,I.tok _,⟨_,rfl⟩,q⟩
theorem Mf(hc:X.calm=true):DB X (.builtin "min") (λxs H Q=>∃i j,xs=[.int i,.int j]/\Q (.int (if j<i then j else i)) H):=by
 intro zG s Z H xs us Q I r h;obtain⟨i,j,rfl,q⟩:=h;obtain⟨u,w',rfl,⟨t,rfl⟩,⟨t',rfl⟩⟩:=vals2 r;refine min_two_ints (I.ok.hd hc) λh' tk k=>⟨_,H,I.kept k,?_,q⟩
 by_cases hj:j<i
 ·rw [if_pos hj,if_pos hj]; exact⟨_,rfl⟩
 ·rw [if_neg hj,if_neg hj]; exact⟨_,rfl⟩
theorem Tj:DB X (.type "int") (λxs H Q=>(∃i,xs=[.int i]/\Q (.int i) H)\/∃k,xs=[.bl k]/\Q (.int (if k then 1 else 0)) H):=by
 intro zG s Z H xs us Q I r h
 rcases h with ⟨i,rfl,q⟩ | ⟨k,rfl,q⟩
 ·obtain⟨u,rfl,t,rfl⟩:=vals1 r
  exact call_int_int ⟨.int i,H,I,⟨_,rfl⟩,q⟩
 ·obtain⟨u,rfl,r1⟩:=vals1 r
  cases r1;exact call_int_bool ⟨.int (if k then 1 else 0),H,I.tok _,⟨_,rfl⟩,q⟩
def Zd(K:Frag)(x:V)(H:Hp)(n:Nat):Prop :=
 match x with
 | .str y=>y.length<=sizeLine/\n=y.length
 | .byt y=>y.size<=sizeLine/\n=y.size
 | .ref p=>(∃xs,SqL K H p xs/\n=xs.length)\/∃xs,SqT K H p xs/\n=xs.length
 | _=>False
theorem A3:DB X (.builtin "len") (λxs H Q=>∃x n,xs=[x]/\Zd X.K x H n/\Q (.int n) H):=by
 intro zG s Z H xs us Q I r h;obtain⟨x,n,rfl,e,q⟩:=h;obtain⟨u,rfl,rx⟩:=vals1 r;have hl:=Il;have hs:sizeLine=16777216:=d7;cases x with
 | str y =>
  obtain⟨t,rfl⟩:=rx;obtain⟨hy,e'⟩:y.length<=sizeLine/\n=y.length:=e;subst e';exact len_str (by omega) ⟨.int _,H,I.tok _,⟨_,rfl⟩,q⟩
 | byt y =>
  obtain⟨t,rfl⟩:=rx;obtain⟨hy,e'⟩:y.size<=sizeLine/\n=y.size:=e;subst e';exact PySem.W.len_bytes (by omega) ⟨.int _,H,I.tok _,⟨_,rfl⟩,q⟩
 | ref p =>
  cases rx;have e':(∃xs,SqL X.K H p xs/\n=xs.length)\/∃xs,SqT X.K H p xs/\n=xs.length:=e
  rcases e' with ⟨xs,hx,e'⟩ | ⟨xs,hx,e'⟩
  ·subst e'
   obtain⟨its,r',pl,hz⟩:=I.list hx;have hlen:=r'.length;exact Calls.call_len_list pl.isList (by simp only [Tk]; omega) ⟨.int xs.length,H,I.tok _,⟨_,by simp only [Tk]; rw [hlen]⟩,q⟩
  ·subst e'
   obtain⟨its,r',pl,hz⟩:=I.tuple hx;have hlen:=r'.length;exact len_tuple pl (by simp only [Tk]; omega) ⟨.int xs.length,H,I.tok _,⟨_,by simp only [Tk]; rw [hlen]⟩,q⟩
 | _=>exact(show False from e).elim
end
structure ObjM (h:dL) (x dx C:Ch) (mA:Str->Option Ev):Prop where
 obj:h.get? x=some (PySem.W.instObj C dx)
 ns:h.Ns1 dx mA
 ne:dx≠x
theorem TF{h:dL}{dx:Ch}{mA:Str->Option Ev}(n:h.Ns1 dx mA):∃od,h.get? dx=some od/\∀name,PySem.W.lookIn name od=some (mA name):=by
 obtain⟨o,es,ep,ho,hd,hk,_,hm⟩:=n;refine⟨o,ho,λname=>?_⟩;have e:=hm name;unfold nsFind findBy at e;rw [← Array.find?_toList] at e;unfold PySem.W.lookIn;rw [hd]
 dsimp only
 split
 ·rename_i y q
  rw [q] at e;exact congrArg some e
 ·rename_i q
  rw [q] at e
  have a:es.toList.any (·.refKey)=false:=by
   rw [List.any_eq_false];intro y hy;obtain⟨z,t,hkey⟩:=hk y (j_.mp hy);simp [DictEntry.refKey,hkey]
  have a':¬es.toList.any (·.refKey)=true:=by rw [a]; exact dH
  rw [if_neg a'];exact congrArg some e
theorem ObjM.look{h:dL}{x dx C:Ch}{mA:Str->Option Ev}(I:ObjM h x dx C mA):∃od,PySem.W.InstAt h x (PySem.W.instObj C dx) C (some od)/\∀name,PySem.W.lookIn name od=some (mA name) :=
 let ⟨od,ho,hl⟩:=TF I.ns
 ⟨od,⟨I.obj,rfl,rfl,ho⟩,hl⟩
theorem RelO.some_of{v:V}{o:Option Ev}(r:RelO (some v) o):∃u,o=some u/\RelV v u:=by
 cases o with
 | none=>exact(show False from r).elim
 | some u=>exact⟨u,rfl,r⟩
section
variable {P:Program}{w:World}{H:Hp}{h:Heap}{a C dx:Addr}{fs:List (Str×V)}
theorem Wj(hok:HOk P w H h)(e:H a=some (.ins C dx fs)):∃mA,ObjM h a dx C mA/\(∀f,RelO (fs.lookup f) (mA f))/\PySem.Within mA (fs.map (·.1))/\fs.length<=1000/\H dx=some (.own a):=by
 obtain⟨d,z,ne,ob,mA,n,r,q⟩:=(show ObjOk P w H h a (.ins C dx fs) from hok a _ e);exact⟨mA,⟨ob,n,ne⟩,r,q,z,d⟩
end
structure Cls (K:Frag) (C:Ch):Prop where
 pg:PySem.W.plainGet K C Str.empty=true
 hd:PySem.W.hasDictIn K C=true
 po:PySem.W.plainOver K C=true
 sa:PySem.W.findIn K (.ref C) "__setattr__"=some (some (.builtin "object.__setattr__"))
theorem Cls.get{K:Frag}{C:Ch}(c:Cls K C)(f:Str):PySem.W.plainGet K C f=true:=c.pg
structure cz (K:Frag) (C:Ch) (f:Str) (v:V) (u:Ev):Prop where
 at_:PySem.W.findIn K (.ref C) f=some (some u)
 rel:RelV v u
 get:PySem.W.specialIn K u "__get__"=some none
 cp:PySem.W.copiedNames.contains f=false
structure cr (K:Frag) (C:Ch) (m:Str) (f:Ch):Prop where
 at_:PySem.W.findIn K (.ref C) m=some (some (.ref f))
 fn:PySem.W.isFn K (.ref f)=true
 kp:keepIn K (.ref f)=true
section
variable {X:Cx}{zG:List (Addr×Obj)}{Z:St}{H:Hp}{s:Shared}{A:Around}{E:Value->Shared->Prop}{Q:Value->Shared->Prop}{c:Value}{b:Bool}
inductive HC (K:Frag) (H:Hp):V->Ev->Prop where
 | non:HC K H .non (.type "NoneType")
 | bl (x:Bool):HC K H (.bl x) (.type "bool")
 | int (i:Int):HC K H (.int i) (.type "int")
 | str (x:Str):HC K H (.str x) (.type "str")
 | flt (x:UInt64):HC K H (.flt x) (.type "float")
 | lst {a:Ch} {xs:List V} (e:H a=some (.lst xs)):HC K H (.ref a) (.type "list")
 | frz {a:Ch} {o:Obj} {xs:List V} (e:H a=some (.frz o (.lst xs))):HC K H (.ref a) (.type "list")
 | tup {a:Ch} {xs:List V} (e:H a=some (.tup xs)):HC K H (.ref a) (.type "tuple")
 | dF {a:Ch} {o:Obj} {kvs:List (Key×V)} (e:H a=some (.frz o (.dK kvs))):HC K H (.ref a) (.type "dict")
 | dK {a:Ch} {kvs:List (Key×V)} (e:H a=some (.dK kvs)):HC K H (.ref a) (.type "dict")
 | dT {a:Ch} {kvs:List (List Key×V)} (e:H a=some (.dT kvs)):HC K H (.ref a) (.type "dict")
 | ins {a C dx:Ch} {fs:List (Str×V)} (e:H a=some (.ins C dx fs)) (cl:Cls K C) (ha:PySem.W.findIn K (.ref C) "__class__"=some (some (.builtin "object.__class__")))
   (hn:PySem.W.specialIn K (.builtin "object.__class__") "__get__"=some (some (.builtin "getset_descriptor.__get__"))) (htk:PySem.W.takesIn K (.builtin "object.__class__")=some true)
   (hm:PySem.W.mroIn K C (.type "object")=some true):HC K H (.ref a) (.ref C)
theorem TR{x:V}{u t:Ev}(I:Inv X zG Z H s)(rx:RelV x u)(ty:HC X.K H x t)(e:PySem.W.kitOne X.K t c=some b)(h:∀tk,Q (.bool b) { s with toks:=tk }) :
  wpAny (model X.prog X.w) A (call (.builtin "isinstance") [u,c]) Q E s:=by
 cases ty with
 | non=>cases (show u=dk from rx); exact PySem.W.kia_one PySem.W.kitx_none I.kIn fu e (λz=>nomatch z) h
 | bl y=>cases (show u=hX y from rx); exact PySem.W.kia_one PySem.W.kitx_bool I.kIn fu e (λz=>nomatch z) h
 | int i=>obtain⟨t,q⟩:=(show ∃t,u=kG i t from rx); cases q; exact PySem.W.kia_one PySem.W.kitx_int I.kIn fu e (λz=>nomatch z) h
 | str y=>obtain⟨t,q⟩:=(show ∃t,u=kH y t from rx); cases q; exact PySem.W.kia_one PySem.W.kitx_str I.kIn fu e (λz=>nomatch z) h
 | flt y=>obtain⟨t,q⟩:=(show ∃t,u=Value.float y t from rx); cases q; exact PySem.W.kia_one PySem.W.kitx_float I.kIn fu e (λz=>nomatch z) h
 | @lst a xs ea =>
  cases (show u=dn a from rx);obtain⟨_,_,n,_,h1⟩:=(show ObjOk X.prog X.w H s.heap a (.lst xs) from I.hok a _ ea);exact PySem.W.kia_one PySem.W.kitx_list I.kIn ⟨_,h1,rfl⟩ e (λz=>nomatch z) h
 | @frz a ob xs ea =>
  cases (show u=dn a from rx);obtain⟨_,_,_,n,_,h1⟩:=(show ObjOk X.prog X.w H s.heap a (.frz ob (.lst xs)) from I.hok a _ ea);exact PySem.W.kia_one PySem.W.kitx_list I.kIn ⟨_,h1,rfl⟩ e (λz=>nomatch z) h
 | @tup a xs ea =>
  cases (show u=dn a from rx);obtain⟨_,_,_,p⟩:=(show ObjOk X.prog X.w H s.heap a (.tup xs) from I.hok a _ ea);obtain⟨o,h1,h2,_⟩:=p;exact PySem.W.kia_one PySem.W.kitx_tuple I.kIn ⟨o,h1,h2⟩ e (λz=>nomatch z) h
 | @dF a ob kvs ea =>
  cases (show u=dn a from rx);obtain⟨_,_,_,vs,_,p⟩:=(show ObjOk X.prog X.w H s.heap a (.frz ob (.dK kvs)) from I.hok a _ ea);obtain⟨o,es,ep,h1,h2,_⟩:=p;exact PySem.W.kia_one PySem.W.kitx_dict I.kIn ⟨o,h1,h2.1⟩ e (λz=>nomatch z) h
 | @dK a kvs ea =>
  cases (show u=dn a from rx);obtain⟨_,_,vs,_,p⟩:=(show ObjOk X.prog X.w H s.heap a (.dK kvs) from I.hok a _ ea);obtain⟨o,es,ep,h1,h2,_⟩:=p;exact PySem.W.kia_one PySem.W.kitx_dict I.kIn ⟨o,h1,h2.1⟩ e (λz=>nomatch z) h
 | @dT a kvs ea =>
  cases (show u=dn a from rx);obtain⟨_,_,xs,_,o,es,ep,h1,h2,_⟩:=(show ObjOk X.prog X.w H s.heap a (.dT kvs) from I.hok a _ ea);exact PySem.W.kia_one PySem.W.kitx_dict I.kIn ⟨o,h1,h2.1⟩ e (λz=>nomatch z) h
 | @ins a C dx fs ea cl ha hn htk hm =>
  cases (show u=dn a from rx);obtain⟨mA,O,_⟩:=Wj I.hok ea;obtain⟨od,J,_⟩:=O.look;exact PySem.W.kia_one (PySem.W.kitx_own (cl.get _) cl.hd ha hn htk hm) I.kIn J e (λz=>nomatch z) h
end
structure Room (k:Nat) (A:eC):Prop where
 hd:A.handled=none
 dp:A.depth+3*k+5<recursionLimit
 un:A.units+16*k+200<cLine
 gd:A.guards=some []
theorem Room.mono{j k:Nat}{A:eC}(r:Room k A)(h:j<=k):Room j A:=⟨r.hd,by have:=r.dp; omega,by have:=r.un; omega,by first | exact r.gd | (show pushGuards _ _=_; rw [r.gd]; rfl) | (simp [kL,pushGuards,Code.guards,kM,r.gd])⟩
theorem Room.deeper{k:Nat}{A:eC}(r:Room (k+1) A)(env:Env):Room k (A.deeper env) :=
 ⟨r.hd,by have:=r.dp; show A.depth+1+3*k+5<_; omega,by have:=r.un; show A.units+3+16*k+200<_; omega,by first | exact r.gd | (show pushGuards _ _=_; rw [r.gd]; rfl) | (simp [kL,pushGuards,Code.guards,kM,r.gd])⟩
theorem Room.in1{k:Nat}{A:eC}(r:Room (k+1) A):Room k A.in1 :=
 ⟨r.hd,by have:=r.dp; show A.depth+3*k+5<_; omega,by have:=r.un; show A.units+1+16*k+200<_; omega,by first | exact r.gd | (show pushGuards _ _=_; rw [r.gd]; rfl) | (simp [kL,pushGuards,Code.guards,kM,r.gd])⟩
theorem Room.depth{k:Nat}{A:eC}(r:Room k A):A.depth<recursionLimit:=by have:=r.dp; omega
theorem Room.units{k:Nat}{A:eC}(r:Room k A):A.units+64<cLine:=by have:=r.un; omega
theorem Room.units0{k:Nat}{A:eC}(r:Room k A):A.units<cLine:=by have:=r.un; omega
def WD:TA:=λ_ H Q=>Q [] H
def Q9(ta:TE)(tr:TA):TA:=λZ H Q=>ta Z H λx H1=>tr Z H1 λxs H2=>Q (x::xs) H2
section
variable {X:Cx}{e:Expr}{es:List Expr}{te:TE}{t:TA}{pos:Pos}
theorem Ds:PA X [] WD:=λ_ _ _ _ H Q I h=>gD ⟨[],H,I,.nil,h⟩
theorem CA(ha:PE X e te)(hr:PA X es t)(hs:starEach (e::es) X.env=(false,eval e X.env)::starEach es X.env:=by rfl):PA X (e::es) (Q9 te t):=by
 intro pos zG s Z H Q I h;rw [hs];show wpAny _ _ (spliced ((false,eval e X.env)::backTo pos (starEach es X.env))) _ _ s;refine fc (thn (ha zG s Z H _ I h) λu s1 ⟨x,H1,I1,r1,q1⟩=>?_);exact thn (hr pos zG s1 Z H1 _ I1 q1) λus s2 ⟨xs,H2,I2,r2,q2⟩=>⟨x::xs,H2,I2,.cons r1 r2,q2⟩
def bV(t:TA):TE:=λZ H Q=>t Z H λxs H1=>xs.length<=sizeLine/\∀p,H1 p=none->Q (.ref p) (BK H1 p (.tup xs))
def bZ(t:TA):TE:=λZ H Q=>t Z H λxs H1=>xs.length<=sizeLine/\∀p,H1 p=none->Q (.ref p) (BK H1 p (.lst xs))
theorem YW{x1}(h:PA X es t):PE X (.Tuple es x1 pos) (bV t):=by
 intro zG s Z H Q I hq;refine wpAny_Tuple_spliced (thn (h pos zG s Z H _ I hq) λus s1 ⟨xs,H1,I1,r,z,q⟩=>⟨by rw [← r.length]; exact z,?_⟩);have hf:H1 s1.heap.objs.size=none:=I1.hok.fresh (Sc _);refine⟨.ref s1.heap.objs.size,BK H1 s1.heap.objs.size (.tup xs),I1.laid (t':=s1.toks) (λb u e=>No _ e) (Sc _) ?_,rfl,q _ hf⟩;exact⟨z,us,r,IsTupN.new _ _⟩
theorem QR(h:PA X es t):PE X (.List es pos) (bZ t):=by
 intro zG s Z H Q I hq;refine wpAny_List_spliced (thn (h pos zG s Z H _ I hq) λus s1 ⟨xs,H1,I1,r,z,q⟩=>⟨by rw [← r.length]; exact z,?_⟩);have hf:H1 s1.heap.objs.size=none:=I1.hok.fresh (Sc _);refine⟨.ref s1.heap.objs.size,BK H1 s1.heap.objs.size (.lst xs),I1.laid (t':=s1.toks) (λb u e=>No _ e) (Sc _) ?_,rfl,q _ hf⟩;exact⟨z,us,0,r,c7 _ rfl⟩
end
abbrev Sp:=List V->Hp->VK->XK->Prop
abbrev V0:=List Env->Hp->Op->XK->Ev->Op->Prop
structure Env0 (P:dZ) (w:dh) (K:Frag) (mg:Str->Option Ev) (base:dL) (A:eC) (outer:List Env) (s:Op) (H:Hp):Prop where
 frames:A.frames=some outer
 mod:Mod K mg base
 bs:∀b o,base.get? b=some o->s.heap.get? b=some o/\H b=none
 bsz:base.objs.size<=s.heap.objs.size
 funs:s.heap.FunFrames base outer
 frf:∀b∈Rf outer,H b=none
 hok:HOk P w H s.heap
 bare:h_ s.gens
def CE(outer:List Env)(P:dZ)(w:dh)(H:Hp)(s:Op)(Q:VK)(u:Ev)(s':Op):Prop :=
 ∃v H',s'.os=s.os/\h_ s'.gens/\Un (Rf outer) [] H H' s.heap s'.heap/\HOk P w H' s'.heap/\RelV v u/\Q v H'
def CR(CX:V0)(outer:List Env)(P:dZ)(w:dh)(H:Hp)(s:Op)(Q:VK)(E:XK)(r:Result)(s':Op):Prop :=
 match r with
 | .ok (.ret u)=>CE outer P w H s Q u s'
 | .ok _=>False
 | .error e=>CX outer H s E e s'
structure A8 (P:dZ) (w:dh) (K:Frag) (mg:Str->Option Ev) (base:dL) (CX:V0) (k:Nat) (f:Ch) (fd:eI) (ps:List Str) (sp:Sp):Prop where
 len:∀vs H Q E,sp vs H Q E->vs.length=ps.length
 run:∀(A:eC) (outer:List Env) (s:Op) (H:Hp) (args:Args) (us:List Ev) (vs:List V) (Q:VK) (E:XK),Room k A->Env0 P w K mg base A outer s H->jW s fd args (ps.zip us)->Vals vs us->sp vs H Q E ->
  codeAny (model P w) A (.call (.ref f) args) (CR CX outer P w H s Q E) s
theorem Env0.in1{P:dZ}{w:dh}{K:Frag}{mg:Str->Option Ev}{base:dL}{A:eC}{outer:List Env}{s:Op}{H:Hp}(e:Env0 P w K mg base A outer s H) :
  Env0 P w K mg base A.in1 outer s H:=⟨e.frames,e.mod,e.bs,e.bsz,e.funs,e.frf,e.hok,e.bare⟩
section
variable {X:Cx}{zG:List (Addr×Obj)}{Z:St}{H:Hp}{s s':Shared}
theorem Inv.env0(I:Inv X zG Z H s):Env0 X.prog X.w X.K X.mg X.base X.A X.stack s H :=
 ⟨I.ok.frames,I.ok.mod,I.bs,de I.ok.bsz I.sz,I.stack,I.stkFree,I.hok,I.bare⟩
theorem Inv.after{Q:VK}{u:Ev}(I:Inv X zG Z H s)(h:CE X.stack X.prog X.w H s Q u s'):EP X zG Z Q u s':=by
 obtain⟨v,H',os,bare,un,hok,r,q⟩:=h;obtain⟨hh,g,d,t,os'⟩:=s';obtain rfl:os'=s.os:=os;exact⟨v,H',I.call (h':=hh) (g':=g) (d':=d) (t':=t) (ch:=[]) un hok bare (λb z=>absurd z (by simp)),r,q⟩
end
def UK(sp:Sp)(dvs:List V)(E:XK)(t:TA):TE:=λZ H Q=>t Z H λvs H1=>sp (vs++dvs) H1 Q E
def Binds(K:Frag)(fd:eI)(ps:List Str)(ds:List Ev):Prop :=
 ∀(s:Op) (us:List Ev),K.In s.heap->(us++ds).length=ps.length->jW s fd ⟨us,[]⟩ (ps.zip (us++ds))
theorem Binds.all{K:Frag}{fd:eI}{ps:List Str}(h:∀us:List Ev,us.length=ps.length->bindArgs fd ⟨us,[]⟩=pure (ps.zip us)):Binds K fd ps []:=λs us _ hl=>by
 rw [dX] at hl ⊢;exact .of_eq (h us hl)
def Qy(CX:V0)(X:Cx)(E:XK):Prop:=∀(zG:List (Ch×Obj)) (Z:St) (H:Hp) (s:Op) (e:Ev) (s':Op),Inv X zG Z H s->CX X.stack H s E e s'->X.xe e s'
section
variable {X:Cx}{CX:V0}{k:Nat}{f C:Addr}{fd:FuncData}{ps:List Str}{sp:Sp}{dvs:List V}{ds:List Value}{E:XK}{x:Str}{p pos:Pos}{e:Expr}{es:List Expr}{t:TA}
theorem YI{zG:List (Ch×Obj)}{Z:St}{H:Hp}{s:Op}{Q:VK}{us:List Ev}{vs:List V}(F:A8 X.prog X.w X.K X.mg X.base CX k f fd ps sp)(hr:Room k X.A)(hb:Binds X.K fd ps ds)(hd:Vals dvs ds)(hx:Qy CX X E)
  (I:Inv X zG Z H s) (r:Vals vs us) (h:sp (vs++dvs) H Q E):wpAny (model X.prog X.w) X.A (call (.ref f) us) (EP X zG Z Q) X.xe s:=by
 have r2:Vals (vs++dvs) (us++ds):=r.append hd;have hl:(us++ds).length=ps.length:=by rw [← r2.length]; exact F.len _ _ _ _ h
 refine wpAny_call (jX (F.run X.A X.stack s H ⟨us,[]⟩ (us++ds) (vs++dvs) Q E hr I.env0 (hb s us I.kIn hl) r2 h) λr s' hq=>?_);cases r with
 | error e=>exact hx zG Z H s e s' I hq
 | ok fl =>
  cases fl with
  | ret u=>exact I.after hq
  | next=>exact fQ hq
  | brk=>exact fQ hq
  | cont=>exact fQ hq
theorem RK(F:A8 X.prog X.w X.K X.mg X.base CX k f fd ps sp)(hr:Room k X.A)(hg:Gl X x)(hm:X.mg x=some (.ref f))(hk:keepIn X.K (.ref f)=true)(hb:Binds X.K fd ps ds)(hd:Vals dvs ds)(hx:Qy CX X E)
  (ha:PA X (e::es) t) (hdb:(x==("__debug__":Str))=false:=by decide) (he:starEach (e::es) X.env=(false,eval e X.env)::starEach es X.env:=by rfl) (hpl:(backTo pos (starEach es X.env)).any (·.1)=false:=by rfl) :
  PE X (.Call (.Name x p) (e::es) [] pos) (UK sp dvs E t):=by
 intro zG s Z H Q I h;refine fe (RS I hg hm ?_ hdb);refine PySem.W.callWith_K (h₀:=X.base) I.ok.mod.kin hk (thn (ha pos zG s Z H _ I h) λus s1 ⟨vs,H1,I1,r,q⟩=>⟨I1.kIn,?_⟩) he hpl;exact YI F hr hb hd hx I1 r q
structure Mk (K:Frag) (C f:Ch):Prop where
 makes:PySem.W.makesIn K C=true
 init:PySem.W.findIn K (.ref C) "__init__"=some (some (.ref f))
 fn:PySem.W.isFn K (.ref f)=true
 kp:keepIn K (.ref C)=true
end
section
variable {fd:FuncData}{ps ks:List Str}
structure cG (K:Frag) (fd:eI) (ps ks:List Str) (g:List Ev->List Ev->List Ev) (gV:List V->List V->List V):Prop where
 to:∀(s:Op) (us ws:List Ev),K.In s.heap->(g us ws).length=ps.length->jW s fd ⟨us,ks.zip ws⟩ (ps.zip (g us ws))
 rel:∀{vs:List V} {us:List Ev} {zs:List V} {ws:List Ev},Vals vs us->Vals zs ws->Vals (gV vs zs) (g us ws)
end
structure Ae (N P:List Str) (sc:ft):Prop where
 kind:sc.kind=.function
 co:sc.isCoroutine=false
 gen:sc.isGenerator=false
 nd:N.Nodup
 pre:N.take P.length=P
 par:∀x∈P,sc.names.lookup x=some .local\/sc.names.lookup x=some .cell
 nofree:∀y∈sc.names,y.2≠.free
theorem Mh{kindOf:Str->Option fi}{x:Str}:∀{binds:List (Str×Ev)} {m:Str->Option Ev},(∀v,(x,v)∉binds)->bindL kindOf binds m x=m x
 | [],_,_=>rfl
 | (n,v)::r,m,h=>by
  unfold bindL;rw [Mh λw hw=>h w (Rs _ hw)]
  split
  ·have:x≠n:=by rintro rfl; exact h v On
   simp [this]
  ·rfl
theorem Mj{kindOf:Str->Option fi}{x:Str}:∀{binds:List (Str×Ev)} {m:Str->Option Ev},(∀v,(x,v)∉binds)->bindC kindOf binds m x=m x
 | [],_,_=>rfl
 | (n,v)::r,m,h=>by
  unfold bindC;rw [Mj λw hw=>h w (Rs _ hw)]
  split
  ·rfl
  ·have:x≠n:=by rintro rfl; exact h v On
   simp [this]
theorem Mi{kindOf:Str->Option fi}{x:Str}{v:Ev}:∀{P:List Str} {vs:List Ev} {i:Nat} {m:Str->Option Ev},P.Nodup->P[i]?=some x->vs[i]?=some v->kindOf x=some .local ->
  bindL kindOf (P.zip vs) m x=some v
 | [],_,_,_,_,h,_,_=>by simp at h
 | _::_,[],_,_,_,_,h,_=>by simp at h
 | p::P,w::vs,0,m,nd,h1,h2,hk=>by
  simp at h1 h2; subst h1; subst h2
  show bindL kindOf ((p,w)::P.zip vs) m p=_;unfold bindL;rw [Mh λv hv=>(dP.mp nd).1 (iV hv).1,if_pos hk];simp
 | p::P,w::vs,i+1,m,nd,h1,h2,hk=>by
  show bindL kindOf ((p,w)::P.zip vs) m x=_;unfold bindL;exact Mi (i:=i) (dP.mp nd).2 (by simpa using h1) (by simpa using h2) hk
theorem Ml{kindOf:Str->Option fi}{x:Str}{v:Ev}:∀{P:List Str} {vs:List Ev} {i:Nat} {m:Str->Option Ev},P.Nodup->P[i]?=some x->vs[i]?=some v->kindOf x≠some .local ->
  bindC kindOf (P.zip vs) m x=some v
 | [],_,_,_,_,h,_,_=>by simp at h
 | _::_,[],_,_,_,_,h,_=>by simp at h
 | p::P,w::vs,0,m,nd,h1,h2,hk=>by
  simp at h1 h2; subst h1; subst h2
  show bindC kindOf ((p,w)::P.zip vs) m p=_;unfold bindC;rw [Mj λv hv=>(dP.mp nd).1 (iV hv).1,if_neg hk];simp
 | p::P,w::vs,i+1,m,nd,h1,h2,hk=>by
  show bindC kindOf ((p,w)::P.zip vs) m x=_;unfold bindC;exact Ml (i:=i) (dP.mp nd).2 (by simpa using h1) (by simpa using h2) hk
def start(N:List Str)(vs:List V):St:=vs.map some++XV (N.length - vs.length) none
def ME(CX:V0)(P:dZ)(w:dh)(K:Frag)(mg:Str->Option Ev)(base:dL)(N:List Str)(qual:Str)(scope:ft)(f:Ch)(cd:Ev)(A:eC)(outer:List Env)(s:Op)(H:Hp)(E:XK):Cx where
 prog:=P
 w:=w
 K:=K
 mg:=mg
 base:=base
 A:=A.deeper (envOfC qual scope s.heap.objs.size f cd)
 N:=N
 s₀:=s
 H₀:=H
 env:=envOfC qual scope s.heap.objs.size f cd
 outer:=outer
 stack:=envOfC qual scope s.heap.objs.size f cd::outer
 ex:=[]
 calm:=true
 fn:=λ_=>true
 pn:=[]
 xe:=λe s'=>wpAny (model P w) (A.deeper (envOfC qual scope s.heap.objs.size f cd)) (leaving (envOfC qual scope s.heap.objs.size f cd) e) (λ_ s''=>CX outer H s E e s'') (λe' s''=>CX outer H s E e' s'') s'
theorem Pp{sc:ft}{n:Nat}{x:Str}(h:sc.names.lookup x=some .cell):∃c,(cellsFrom n sc.names []).lookup x=some c:=by
 have q:=PySem.W.cellsFrom_some sc.names n [] (.inl h);exact Option.isSome_iff_exists.mp q
theorem TV{CX:V0}{P:dZ}{w:dh}{K:Frag}{mg:Str->Option Ev}{base:dL}{N ps:List Str}{qual:Str}{scope:ft}{f:Ch}{cd:Ev}{A:eC}{outer:List Env}{s s1:Op}{H:Hp}{E:XK}{us:List Ev}{vs:List V}
  (S:Ae N ps scope) (hd:A.handled=none) (e0:Env0 P w K mg base A outer s H) (hl:vs.length=ps.length) (r:Vals vs us)
  (x:InCallC s s.heap.objs.size (bindL (envOfC qual scope s.heap.objs.size f cd).kindOf (ps.zip us) λ_=>none) (cellsFrom (s.heap.objs.size+1) scope.names []) (bindC (envOfC qual scope s.heap.objs.size f cd).kindOf (ps.zip us) λ_=>none) s1) :
  Inv (ME CX P w K mg base N qual scope f cd A outer s H E) [] (start N vs) H s1:=by
 have hpl:ps.length<=N.length:=by have:=congrArg fN S.pre; rw [fC] at this; omega
 obtain⟨h1,tk,rfl,hk⟩:=x.done;have noA:∀b:Ch,b∉(ME CX P w K mg base N qual scope f cd A outer s H E).ex:=λb z=>absurd (show b∈([]:List Ch) from z) (by simp)
 refine⟨⟨e0.mod,S.kind,rfl,rfl,Sc _,λy z c h1 h2=>?_,λy hy=>?_,λy c _ h=>?_,λ_=>hd,Around.frames_deeper e0.frames,.inr ⟨rfl,rfl⟩,λb z=>absurd z (noA b),e0.bs,e0.bsz,λb _ _=>noA b,λb z=>absurd z (noA b),e0.funs,e0.frf⟩,
  rfl,e0.bare,Un.kept hk,⟨_,x.toInCall.ns,λi y v h1 h2 h3=>?_⟩,λy c h=>⟨_,x.cell y c h⟩,e0.hok.fresh (Sc _),λy c h=>?_,λp hp=>absurd (show p∈([]:List (Ch×Obj)) from hp) (by simp),e0.hok.kept hk,?_⟩
 ·exact name_of_addr x.apart (PySem.mem_of_lookup h1) (PySem.mem_of_lookup h2)
 ·have hy:scope.names.lookup y=some .cell\/scope.names.lookup y=some .free:=hy
  rcases hy with hy | hy
  ·exact Pp hy
  ·exact absurd rfl (S.nofree _ (PySem.mem_of_lookup hy))
 ·exact iT (x.above y c (PySem.mem_of_lookup h))
 ·have hi:i<vs.length:=by
   unfold start at h2
   by_cases hi:i<vs.length
   ·exact hi
   ·rw [eQ (by simpa using hi)] at h2
    rw [iB] at h2
    split at h2 <;> cases h2
  have ha:vs[i]?=some v:=by
   unfold start at h2;rw [gG (by simpa using hi),dC] at h2;cases e:vs[i]? with
   | none=>rw [e] at h2; cases h2
   | some a=>rw [e] at h2; cases h2; rfl
  obtain⟨u,hu,rv⟩:=r.get ha
  have hp:ps[i]?=some y:=by
   rw [← S.pre,List.getElem?_take_of_lt (by omega)]; exact h1
  have ndP:ps.Nodup:=by rw [← S.pre]; exact S.nd.sublist (List.take_sublist _ _)
  refine⟨u,rv,?_⟩
  rcases S.par y (eo hp) with k | k
  ·exact .inl ⟨k,Mi ndP hp hu k⟩
  ·obtain⟨c,e⟩:=Pp (n:=s.heap.objs.size+1) k
   refine .inr ⟨.inl k,c,e,?_⟩;have q:=x.cell y c e;rw [Ml ndP hp hu (by show scope.names.lookup y≠_; rw [k]; decide)] at q;exact q
 ·exact e0.hok.fresh (iT (x.above y c (PySem.mem_of_lookup h)))
 ·unfold start
  show _=N.length;rw [c9,Go,jy];omega
theorem aX{CX:V0}{P:dZ}{w:dh}{K:Frag}{mg:Str->Option Ev}{base:dL}{k:Nat}{f:Ch}{name qual:Str}{params:Arguments}{body:List df}{scope:ft}{dV kV doc pm cdv ct oc:Ev}{an od:Option Ch}
  {osl:Array (Option Ev)} {N ps:List Str} {sp:Sp} (lk:K.lookup f=some ⟨oc,od,.func (fnOf name qual params body scope dV kV doc pm an cdv ct),osl⟩) (hcd:codeIn K cdv qual=true) (S:Ae N ps scope)
  (len:∀vs H Q E,sp vs H Q E->vs.length=ps.length)
  (hbody:∀(A:eC) (outer:List Env) (s:Op) (H:Hp) (vs:List V) (Q:VK) (E:XK),Room k (A.deeper (envOfC qual scope s.heap.objs.size f cdv))->sp vs H Q E ->
   ∃t,PSs (ME CX P w K mg base N qual scope f cdv A outer s H E) body t/\t { nx:=λ_ H'=>Q .non H',rt:=Q } (start N vs) H) :
  A8 P w K mg base CX (k+1) f (fnOf name qual params body scope dV kV doc pm an cdv ct) ps sp:=by
 refine⟨len,λA outer s H args us vs Q E hr e0 hb r hsp=>?_⟩;have hl:=len _ _ _ _ hsp;have KX:K.In s.heap:=e0.mod.kin.keeps λb o e=>(e0.bs b o e).1;have lim:s.heap.NoLimit:=e0.mod.nolimit.keeps λb o e=>(e0.bs b o e).1
 have hkind:∀y∈ps.zip us,scope.names.lookup y.1=some .local\/(scope.names.lookup y.1=some .cell/\((cellsFrom (s.heap.objs.size+1) scope.names []).lookup y.1).isSome=true):=fun⟨n,v⟩ hy=>by
  rcases S.par n (iV hy).1 with q | q
  ·exact .inl q
  ·exact .inr ⟨q,PySem.W.cellsFrom_some _ _ _ (.inl q)⟩
 refine codeAny_call_function hr.depth (KX _ _ lk) rfl S.co S.gen rfl (PySem.W.codeRec_of KX hcd) (hb _ _ _ _ ?_);refine wpAny_newFunctionEnv_cells S.kind hkind λenv he s1 x=>?_;subst he;refine⟨lim.keeps x.toInCall.keep,codeAny_func ?_⟩;obtain⟨t,ht,hq⟩:=hbody A outer s H vs Q E (hr.deeper _) hsp;have I:Inv (ME CX P w K mg base N qual scope f cdv A outer s H E) [] (start N vs) H s1:=TV S hr.hd e0 hl r x;refine eU (ht [] s1 (start N vs) H _ I hq) (λfl s' hs=>?_) λe s' hs=>hs
 have fin:∀{zZ:St} {H':Hp} {v:V} {u:Ev},Inv (ME CX P w K mg base N qual scope f cdv A outer s H E) [] zZ H' s'->RelV v u->Q v H'->CE outer P w H s Q u s' :=
  λ{zZ H' v u} J rv q=>⟨v,H',J.os,J.bare,J.base,J.hok,rv,q⟩
 cases fl with
 | ret u =>
  obtain⟨v,zZ,H',J,rv,q⟩:=hs;exact fin J rv q
 | next =>
  obtain⟨zZ,H',J,q⟩:=hs;exact fin (v:=V.non) (u:=dk) J rfl q
 | brk =>
  obtain⟨_,_,_,q⟩:=hs;exact fQ q
 | cont =>
  obtain⟨_,_,_,q⟩:=hs;exact fQ q
section
variable {X:Cx}{x:Str}{p pos:Pos}{e:Expr}{es:List Expr}{t:TA}{id T:String}{r:List V->Hp->VK->Prop}
def bF(r:List V->Hp->VK->Prop)(t:TA):TE:=λZ H Q=>t Z H λvs H1=>r vs H1 Q
theorem HQ(hc:DB X (.builtin id) r)(hg:Gl X x)(hm:X.mg x=none)(hv:bootBuiltins x=some (.builtin id))(ha:PA X (e::es) t)(hn:x ≠ "__name__":=by decide)(hdb:(x==("__debug__":Str))=false:=by decide)
  (he:starEach (e::es) X.env=(false,eval e X.env)::starEach es X.env:=by rfl) (hpl:(backTo pos (starEach es X.env)).any (·.1)=false:=by rfl):PE X (.Call (.Name x p) (e::es) [] pos) (bF r t):=by
 intro zG s Z H Q I h;refine fe (EV I hg hm hv ?_ hn hdb);exact PyProof.Rows.callWith_builtin1 (thn (ha pos zG s Z H _ I h) λus s1 ⟨vs,H1,I1,r1,q1⟩=>hc zG s1 Z H1 vs us Q I1 r1 q1) he hpl
theorem MR(hc:DB X (.type T) r)(hg:Gl X x)(hm:X.mg x=none)(hv:bootBuiltins x=some (.type T))(ha:PA X (e::es) t)(hn:x ≠ "__name__":=by decide)(hdb:(x==("__debug__":Str))=false:=by decide)
  (he:starEach (e::es) X.env=(false,eval e X.env)::starEach es X.env:=by rfl) (hpl:(backTo pos (starEach es X.env)).any (·.1)=false:=by rfl):PE X (.Call (.Name x p) (e::es) [] pos) (bF r t):=by
 intro zG s Z H Q I h;refine fe (EV I hg hm hv ?_ hn hdb);exact eg (thn (ha pos zG s Z H _ I h) λus s1 ⟨vs,H1,I1,r1,q1⟩=>hc zG s1 Z H1 vs us Q I1 r1 q1) he hpl
end
end L2
namespace HT
section
variable {prog:Program}{w:World}{A:Around}{E:Value->Shared->Prop}{s:Shared}
theorem cat_tup{t b:Ch}{vs ws:List Ev}{Q:Ev->Op->Prop}(ht:IsTup s.heap t vs.toArray)(hb:IsTup s.heap b ws.toArray)(hv:vs≠[])
  (h1:ws=[]->Q (.ref t) s) (h2:ws≠[]->Q (.ref s.heap.objs.size) { s with heap:=s.heap.push { cls:=.type "tuple",data:=.seq (vs++ws).toArray } })
  (hsz:vs.length+ws.length<=sizeLine):wpAny (model prog w) A (binaryOp .Add (.ref t) (.ref b)) Q E s:=by
 obtain⟨⟨cls,dd,data,sl⟩,ho,hc,n,hd⟩:=id ht;obtain⟨⟨cls2,dd2,data2,sl2⟩,ho2,hc2,n2,hd2⟩:=id hb;simp only at hc hd hc2 hd2;subst hc hd hc2 hd2;have e:vs.toArray++ws.toArray=(vs++ws).toArray:=by simp
 by_cases hw:ws=[]
 ·exact concat_meets ⟨_,ho,rfl⟩ ⟨_,ho2,rfl⟩ jY seq_tuple_add PySem.F.slot_tuple_add PySem.F.entry_tuple_add (PySem.F.args_tuple_add_2 _ _)
   (tuple_addW1 t b vs.toArray ws.toArray n n2 dd dd2 sl sl2 (by simpa using hv) (by simp [hw])) ⟨ho,ho2,h1 hw⟩
 ·refine concat_meets ⟨_,ho,rfl⟩ ⟨_,ho2,rfl⟩ jY seq_tuple_add PySem.F.slot_tuple_add PySem.F.entry_tuple_add (PySem.F.args_tuple_add_2 _ _)
   (tuple_addW2 t b vs.toArray ws.toArray n n2 dd dd2 sl sl2 (by simpa using hv) (by simpa using hw) (by rw [Tk,Tk]; exact hsz)) ⟨ho,ho2,?_⟩
  rw [e];exact h2 hw
def sIx(n d:Nat):Option Int->Nat
 | none=>d
 | some v=>if v<0 then (v+(n:Int)).toNat else min v.toNat n
theorem sIx_none(n d:Nat):sIx n d none=d:=rfl
theorem sIx_nat(n d k:Nat):sIx n d (some (k:Int))=min k n:=by
 show (if (k:Int)<0 then ((k:Int)+(n:Int)).toNat else min (k:Int).toNat n)=min k n;rw [if_neg (by omega),gE]
theorem YH(n d:Nat)(hd:d<=n)(o:Option Int):sIx n d o<=n:=by
 cases o with
 | none=>exact hd
 | some v =>
  show (if v<0 then (v+(n:Int)).toNat else min v.toNat n)<=n
  by_cases hv:v<0
  ·rw [if_pos hv]; omega
  ·rw [if_neg hv]; exact gj _ _
theorem Rx(v:Int)(n d:Nat):(if v<0 then max (v+(n:Int)) 0 else min v (n:Int))=((sIx n d (some v):Nat):Int):=by
 show (if v<0 then max (v+(n:Int)) 0 else min v (n:Int))=(((if v<0 then (v+(n:Int)).toNat else min v.toNat n):Nat):Int)
 by_cases hv:v<0
 ·simp only [if_pos hv]; omega
 ·simp only [if_neg hv]; omega
theorem Qv(lo hi:Option Int)(n:Nat):gx lo hi 1 (n:Int)=(((sIx n 0 lo:Nat):Int),((sIx n n hi:Nat):Int)):=by
 have h1:¬((1:Int)<0):=by omega
 unfold gx;simp only [h1,if_false];refine Prod.ext ?_ ?_
 ·cases lo with
  | none=>rfl
  | some v=>exact Rx v n 0
 ·cases hi with
  | none=>rfl
  | some v=>exact Rx v n n
theorem QO(i j:Nat):gH (i:Int) (j:Int) 1=j - i:=by
 unfold gH;have h1:(1:Int) > 0:=by omega
 simp only [h1,if_true,Int.ediv_one]
 split <;> omega
theorem Ka{v:Ev}{o:Option Int}{Q:Option Int->Op->Prop}(p:iW v o)(h:Q o s):wpAny (model prog w) A (Builtin.Slice.slicePartIndex v) Q E s:=by
 cases p with
 | none=>exact slicePart_none h
 | int i t=>exact slicePart_int h
theorem sliceApplied_gen{sl:Ch}{vl vu:Ev}{lo hi:Option Int}{n:Nat}{Q:Int×Int×Nat->Op->Prop}(hs:s.heap.IsSliceOf sl vl vu .none)(pl:iW vl lo)(pu:iW vu hi)
  (h:Q (((sIx n 0 lo:Nat):Int),1,sIx n n hi - sIx n 0 lo) s):wpAny (model prog w) A (jD (.ref sl) (pure (n:Int))) Q E s:=by
 obtain⟨os,hos,hcs,hds⟩:=id hs;unfold jD Builtin.Slice.sliceFields;refine Db (Db (fB hos hds (x:=vl) rfl (Db (fB hos hds (x:=vu) rfl (Db (fB hos hds (x:=.none) rfl (TW ?_)))))));refine Db (slicePart_none ?_);show wpAny _ _ (if ((1:Int)==0)=true then _ else _) _ _ s;rw [if_neg (by decide)];refine Db (Ka pl (Db (Ka pu (Db (TW ?_)))));show wpAny _ _ (match gx lo hi 1 (n:Int) with | (lo,hi)=>pure (lo,(1:Int),gH lo hi 1)) _ _ s;rw [Qv lo hi n];show wpAny _ _ (pure (((sIx n 0 lo:Nat):Int),(1:Int),gH ((sIx n 0 lo:Nat):Int) ((sIx n n hi:Nat):Int) 1)) _ _ s;rw [QO];exact TW h
theorem Ul(xs:Array Ev)(i k:Nat):((dW k).filterMap fun(m:Nat)=>xs[((i:Int)+(m:Int)*1).toNat]?).toArray=((xs.toList.drop i).take k).toArray:=by
 have e:(fun(m:Nat)=>xs[((i:Int)+(m:Int)*1).toNat]?)=λm=>xs[i+m]?:=by
  funext m
  have:((i:Int)+(m:Int)*1).toNat=i+m:=by omega
  rw [this]
 rw [e]
 have:=pick_run xs i k
 rw [List.filterMap_map] at this;have e2:((λx=>xs[x]?)∘λx=>i+x)=λm=>xs[i+m]?:=rfl;rw [e2] at this;rw [this]
theorem getItem_tuple_cut{t sl:Ch}{items:Array Ev}{vl vu:Ev}{lo hi:Option Int}{Q:Ev->Op->Prop}(ht:IsTup s.heap t items)(hs:s.heap.IsSliceOf sl vl vu .none)(pl:iW vl lo)(pu:iW vu hi)
  (hw:¬(sIx items.size 0 lo=0/\sIx items.size items.size hi=items.size))
  (h:Q (.ref s.heap.objs.size) { s with heap:=s.heap.push { cls:=.type "tuple",data:=.seq ((items.toList.drop (sIx items.size 0 lo)).take (sIx items.size items.size hi - sIx items.size 0 lo)).toArray } })
  (hsz:items.size<=sizeLine):wpAny (model prog w) A (getItem (.ref t) (.ref sl)) Q E s:=by
 have htake:sizeOk (.seq ((items.toList.drop (sIx items.size 0 lo)).take (sIx items.size items.size hi - sIx items.size 0 lo)).toArray):=by
  show ((items.toList.drop (sIx items.size 0 lo)).take (sIx items.size items.size hi - sIx items.size 0 lo)).toArray.size<=sizeLine;rw [Tk,fC,fm,eP];omega
 have hj:sIx items.size items.size hi<=items.size:=YH _ _ (Sc _) hi;obtain⟨os,hos,hcs,hds⟩:=id hs;have hTs:s.TypeIs (.ref sl) "slice":=⟨os,hos,hcs⟩;unfold getItem
 try with_reducible refine e_ ?_
 first | refine Db (TW ?_) | skip
 refine Db (wpAny_sequenceKey ht.typeIs (by decide) ?_)
 refine Db (fS (name:=eE "__getitem__") ht.typeIs eT
  (gL eT ht.typeIs entry_tuple_getitem ?_ (args_tuple_getitem _ _)))
 show wpAny _ _ (jE (.ref t) >>= _) _ _ s;refine Db (tupleItemsOf_ ht ?_);refine Db (gM hTs ?_);rw [if_pos (by decide)];refine Db (sliceApplied_gen hs pl pu ?_)
 have hno:¬((((sIx items.size 0 lo:Nat):Int)==0&&(1:Int)==1&&(sIx items.size items.size hi - sIx items.size 0 lo)==items.size)=true):=by
  intro q;rw [UF,UF] at q;have q1:((sIx items.size 0 lo:Nat):Int)=0:=eq_of_beq q.1.1;have q2:sIx items.size items.size hi - sIx items.size 0 lo=items.size:=eq_of_beq q.2;exact hw ⟨by omega,by omega⟩
 show wpAny _ _ (if (((sIx items.size 0 lo:Nat):Int)==0&&(1:Int)==1&&(sIx items.size items.size hi - sIx items.size 0 lo)==items.size)=true then _ else _) _ _ s;rw [if_neg hno,Ul]
 first
  | exact Db (m:=fL _) (eS (TW ⟨_,rfl,TW h⟩) htake)
  | exact Db (m:=fL _) (eS (Db (TW (TW ⟨_,rfl,TW h⟩))) htake)
  | exact Db (Db (m:=fL _) (eS (TW (TW ⟨_,rfl,TW h⟩)) htake))
  | exact Db (Db (m:=fL _) (eS (TW ⟨_,rfl,TW h⟩) htake))
end
end HT
namespace L2
abbrev TO:=St->Hp->(Option Int->Hp->Prop)->Prop
def PO(X:Cx)(e:Option dO)(t:TO):Prop :=
 ∀(zG:List (Ch×Obj)) (s:Op) (Z:St) (H:Hp) (Q:Option Int->Hp->Prop),Inv X zG Z H s->t Z H Q ->
  wpAny (model X.prog X.w) X.A (evalPart e X.env) (λu s'=>∃o H',Inv X zG Z H' s'/\iW u o/\Q o H') X.xe s
def WC:TO:=λ_ H Q=>Q none H
def Zv(t:TE):TO:=λZ H Q=>t Z H λx H1=>∃i,x=.int i/\Q (some i) H1
section
variable {X:Cx}{e:Expr}{te:TE}{lo hi:Option Expr}{tl th:TO}{pos p2:Pos}
theorem RI:PO X none WC:=by
 intro zG s Z H Q I h;rw [evalPart_none];exact TW ⟨none,H,I,.none,h⟩
theorem RH(h:PE X e te):PO X (some e) (Zv te):=by
 intro zG s Z H Q I hw;rw [evalPart_some];refine thn (h zG s Z H _ I hw) λu s1 ⟨x,H1,I1,r1,q1⟩=>?_;obtain⟨i,rfl,q⟩:=q1;obtain⟨t,rfl⟩:=r1;exact⟨some i,H1,I1,.int i t,q⟩
def SlR(X:Cx)(r:V->Option Int->Option Int->Hp->VK->Prop):Prop :=
 ∀(zG:List (Ch×Obj)) (s:Op) (Z:St) (H:Hp) (x:V) (v vl vu:Ev) (lo hi:Option Int) (sl:Ch) (Q:VK),Inv X zG Z H s->RelV x v->s.heap.IsSliceOf sl vl vu .none->iW vl lo->iW vu hi->r x lo hi H Q ->
  ∃T id,typeLookup (.type T) "__getitem__"=pure (some (.builtin id))/\s.TypeIs v T/\wpAny (model X.prog X.w) X.A (getItem v (.ref sl)) (EP X zG Z Q) X.xe s
theorem SlR.or{r r':V->Option Int->Option Int->Hp->VK->Prop}(h:SlR X r)(h':SlR X r'):SlR X (λx lo hi H Q=>r x lo hi H Q\/r' x lo hi H Q):=by
 intro zG s Z H x v vl vu lo hi sl Q I rx hs pl pu q
 rcases q with q | q
 ·exact h zG s Z H x v vl vu lo hi sl Q I rx hs pl pu q
 ·exact h' zG s Z H x v vl vu lo hi sl Q I rx hs pl pu q
def cW(r:V->Option Int->Option Int->Hp->VK->Prop)(te:TE)(tl th:TO):TE:=λZ H Q=>te Z H λx H1=>tl Z H1 λl H2=>th Z H2 λu H3=>r x l u H3 Q
theorem O0{r:V->Option Int->Option Int->Hp->VK->Prop}(hr:SlR X r)(he:PE X e te)(hl:PO X lo tl)(hu:PO X hi th):PE X (.Subscript e (.Slice lo hi none p2) pos) (cW r te tl th):=by
 intro zG s Z H Q I h;refine Subscript_ (thn (he zG s Z H _ I h) λv s1 ⟨x,H1,I1,r1,q1⟩=>?_);refine wpAny_Slice (thn (hl zG s1 Z H1 _ I1 q1) λvl s2 ⟨l,H2,I2,pl,q2⟩=>thn (hu zG s2 Z H2 _ I2 q2) λvu s3 ⟨u,H3,I3,pu,q3⟩=>?_);rw [evalPart_none];refine TW ?_;have I4:Inv X zG Z H3 { s3 with heap:=s3.heap.push { cls:=.type "slice",data:=.fields #[vl,vu,.none] } }:=I3.kept (t':=s3.toks) λb ob q=>No _ q;obtain⟨T,id,hT,ht,hg⟩:=hr zG { s3 with heap:=s3.heap.push { cls:=.type "slice",data:=.fields #[vl,vu,.none] } } Z H3 x v vl vu l u s3.heap.objs.size Q I4 r1 (Heap.IsSliceOf.new ..) pl pu q3;show wpAny (model X.prog X.w) X.A (subscriptTail e (.Slice lo hi none p2) v (.ref s3.heap.objs.size)) (EP X zG Z Q) X.xe { s3 with heap:=s3.heap.push { cls:=.type "slice",data:=.fields #[vl,vu,.none] } };exact tail_any (ops:=[.ref s3.heap.objs.size,v]) ht hT hg (by with_unfolding_all rfl)
def MF(xs:List V)(lo hi:Option Int):List V:=(xs.drop (HT.sIx xs.length 0 lo)).take (HT.sIx xs.length xs.length hi - HT.sIx xs.length 0 lo)
theorem JH(xs:List V)(lo hi:Option Int):(MF xs lo hi).length<=xs.length:=by
 unfold MF;rw [fC,fm];omega
def Z7(K:Frag):V->Option Int->Option Int->Hp->VK->Prop:=λx lo hi H Q=>∃a xs,x=.ref a/\SqT K H a xs /\
 ¬(HT.sIx xs.length 0 lo=0/\HT.sIx xs.length xs.length hi=xs.length)/\∀p,H p=none->Q (.ref p) (BK H p (.tup (MF xs lo hi)))
theorem sl_tup:SlR X (Z7 X.K):=by
 intro zG s Z H x v vl vu lo hi sl Q I rx hs pl pu h;obtain⟨a,xs,rfl,hx,hw,q⟩:=h;cases rx;obtain⟨its,r,ht,hz⟩:=I.tuple hx;have hlen:its.toArray.size=xs.length:=by rw [Tk]; exact r.length.symm
 refine⟨"tuple",_,eT.lookup,ht.typeIs,?_⟩;refine HT.getItem_tuple_cut ht hs pl pu (by rw [hlen]; exact hw) ?_ (by rw [hlen]; exact hz);rw [hlen];refine⟨.ref s.heap.objs.size,_,I.laid (t':=s.toks) (o:=.tup (MF xs lo hi)) (λb ob q=>No _ q) (Sc _) ?_,rfl,q _ (I.hok.fresh (Sc _))⟩;exact⟨de (JH xs lo hi) hz,_,(r.drop (HT.sIx xs.length 0 lo)).take (HT.sIx xs.length xs.length hi - HT.sIx xs.length 0 lo),IsTupN.new _ _⟩
def Ua(K:Frag):R2:=λx y H Q=>∃a b xs ys,x=.ref a/\y=.ref b/\SqT K H a xs/\SqT K H b ys/\xs≠[]/\xs.length+ys.length<=sizeLine /\
 (ys=[]->Q (.ref a) H)/\(ys≠[]->∀p,H p=none->Q (.ref p) (BK H p (.tup (xs++ys))))
theorem Vals.nil_iff{xs:List V}{us:List Ev}(r:Vals xs us):us=[]↔xs=[]:=by
 cases r with
 | nil=>simp
 | cons _ _=>simp
theorem op_catT:OpR X (binaryOp .Add) (Ua X.K):=by
 intro zG s Z H x y v u Q I rx ry h;obtain⟨a,b,xs,ys,rfl,rfl,ha,hb,hx,hz,q1,q2⟩:=h;cases rx;cases ry;obtain⟨its,r1,p1,_⟩:=I.tuple ha;obtain⟨its2,r2,p2,_⟩:=I.tuple hb;refine HT.cat_tup p1 p2 (λz=>hx (r1.nil_iff.mp z)) (λz=>⟨.ref a,H,I,rfl,q1 (r2.nil_iff.mp z)⟩) (λz=>?_) (by rw [← r1.length,← r2.length]; exact hz);refine⟨.ref s.heap.objs.size,_,I.laid (t':=s.toks) (o:=.tup (xs++ys)) (λb ob q=>No _ q) (Sc _) ?_,rfl,q2 (λw=>z (r2.nil_iff.mpr w)) _ (I.hok.fresh (Sc _))⟩;exact⟨by rw [c9]; exact hz,_,r1.append r2,IsTupN.new _ _⟩
end
def V2(n:Nat)(i:Int):Option Nat:=if 0<=i then (if i<n then some i.toNat else none) else if -(n:Int)<=i then some (i+n).toNat else none
def atI{α:Type}(xs:List α)(i:Int):Option α:=(V2 xs.length i).bind λj=>xs[j]?
theorem RX{n:Nat}{i:Int}{j:Nat}(h:V2 n i=some j):seqIndex? i n=some j/\j<n/\-(n:Int)<=i/\i<n:=by
 unfold V2 at h
 by_cases h0:0<=i
 ·rw [if_pos h0] at h
  by_cases h1:i<n
  ·rw [if_pos h1] at h
   have e:i.toNat=j:=c_ h;exact⟨by rw [seqIndex_of h0 h1,e],by omega,by omega,h1⟩
  ·rw [if_neg h1] at h; cases h
 ·rw [if_neg h0] at h
  by_cases h1:-(n:Int)<=i
  ·rw [if_pos h1] at h
   have e:(i+n).toNat=j:=c_ h;exact⟨by rw [seqIndex_neg (by omega) h1,e],by omega,h1,by omega⟩
  ·rw [if_neg h1] at h; cases h
theorem OF{α:Type}{xs:List α}{i:Int}{v:α}(h:atI xs i=some v):∃j,seqIndex? i xs.length=some j/\xs[j]?=some v/\j<xs.length/\-(xs.length:Int)<=i/\i<xs.length:=by
 unfold atI at h;cases e:V2 xs.length i with
 | none=>rw [e] at h; cases h
 | some j =>
  rw [e] at h;obtain⟨h1,h2,h3,h4⟩:=RX e;exact⟨j,h1,h,h2,h3,h4⟩
theorem AH{α:Type}{xs:List α}{j:Nat}{v:α}(h:xs[j]?=some v):atI xs (j:Int)=some v:=by
 have hj:j<xs.length:=(c8.mp h).1
 have e:V2 xs.length (j:Int)=some j:=by
  unfold V2;rw [if_pos (by omega),if_pos (by omega)]; simp
 unfold atI; rw [e]; exact h
theorem Vp{α:Type}(xs:List α)(v:α):atI (xs++[v]) (-1)=some v:=by
 have hl:(xs++[v]).length=xs.length+1:=by simp
 have e:V2 (xs++[v]).length (-1)=some xs.length:=by
  unfold V2;rw [hl,if_neg (by decide),if_pos (by omega)]
  congr 1
  omega
 unfold atI;rw [e];show (xs++[v])[xs.length]?=some v;simp
def SF(b:dO):Prop:=∀o i,subscripted b false o i=operate [o,i] (getItem o i)
def IxR(X:Cx)(r:R2):Prop :=
 ∀(value slice:dO) (zG:List (Ch×Obj)) (s:Op) (Z:St) (H:Hp) (x y:V) (v u:Ev) (Q:VK),Inv X zG Z H s->RelV x v->RelV y u->r x y H Q ->
  subscripted slice false v u=operate [v,u] (getItem v u)->wpAny (model X.prog X.w) X.A (subscriptTail value slice v u) (EP X zG Z Q) X.xe s
def Zc(X:Cx)(id:String)(r:V->List V->Hp->VK->Prop):Prop :=
 ∀(zG:List (Ch×Obj)) (s:Op) (Z:St) (H:Hp) (x:V) (xs:List V) (v:Ev) (us:List Ev) (Q:VK),Inv X zG Z H s->RelV x v->Vals xs us->r x xs H Q ->
  wpAny (model X.prog X.w) X.A (call (.builtin id) (v::us)) (EP X zG Z Q) X.xe s
section
variable {X:Cx}{a b:Expr}{ta tb:TE}{pos:Pos}
theorem IxR.or{r r':R2}(h:IxR X r)(h':IxR X r'):IxR X (λx y H Q=>r x y H Q\/r' x y H Q):=by
 intro value slice zG s Z H x y v u Q I rx ry q hs
 rcases q with q | q
 ·exact h value slice zG s Z H x y v u Q I rx ry q hs
 ·exact h' value slice zG s Z H x y v u Q I rx ry q hs
theorem FI{r:R2}(hr:IxR X r)(ha:PE X a ta)(hb:PE X b tb)(hs:SF b):PE X (.Subscript a b pos) (EZ r ta tb):=by
 intro zG s Z H Q I h;exact Subscript_ (ZP ha hb I h λv u s2 x y H2 I2 rx ry q=>hr a b zG s2 Z H2 x y v u Q I2 rx ry q (hs _ _))
def YN(K:Frag):R2:=λx y H Q=>∃p xs i v,x=.ref p/\y=.int i/\SqL K H p xs/\atI xs i=some v/\Q v H
def aC(K:Frag):R2:=λx y H Q=>∃p xs i v,x=.ref p/\y=.int i/\SqT K H p xs/\atI xs i=some v/\Q v H
def aD:R2:=λx y H Q=>∃z i c,x=.str z/\y=.int i/\z.length<=sizeLine/\atI z.cps.toList i=some c/\Q (.str ⟨#[c]⟩) H
theorem ix_list:IxR X (YN X.K):=by
 intro value slice zG s Z H x y v u Q I rx ry h hs;obtain⟨p,xs,i,z,rfl,rfl,hq,he,q⟩:=h;cases rx;obtain⟨t,rfl⟩:=ry;obtain⟨its,r,pl,hz⟩:=I.list hq;obtain⟨j,h1,h2,h3,h4,h5⟩:=OF he;obtain⟨w,ew,rw'⟩:=r.get h2;have hl:=r.length;have hn:=Il;have fin:EP X zG Z Q w s:=⟨z,H,I,rw',q⟩
 by_cases h0:0<=i
 ·have hj:i.toNat=j:=by
   rw [seqIndex_of h0 h5] at h1;exact c_ h1
  exact item_listR pl.isList h0 (by omega) (by rw [hj]; simpa using ew) fin hs
 ·have hj:(i+(its.toArray.size:Int)).toNat=j:=by
   rw [seqIndex_neg (by omega) h4] at h1;rw [Tk,← hl];exact c_ h1
  exact subscriptTail_builtinR (x:=w) pl.isList.typeIs slot_list_getitem.lookup
   (wpAny_getItem_list_neg (Q:=λr s'=>r=w/\EP X zG Z Q r s') pl.isList (by omega) (by rw [Tk] <;> omega) (by omega) (by rw [hj]; simpa using ew) ⟨rfl,fin⟩) hs
theorem ix_tup:IxR X (aC X.K):=by
 intro value slice zG s Z H x y v u Q I rx ry h hs;obtain⟨p,xs,i,z,rfl,rfl,hq,he,q⟩:=h;cases rx;obtain⟨t,rfl⟩:=ry;obtain⟨its,r,pl,hz⟩:=I.tuple hq;obtain⟨j,h1,h2,h3,h4,h5⟩:=OF he;obtain⟨w,ew,rw'⟩:=r.get h2;have hl:=r.length;have hn:=Il;have fin:EP X zG Z Q w s:=⟨z,H,I,rw',q⟩
 exact subscriptTail_builtinR (x:=w) pl.typeIs eT.lookup
  (getItem_tuple (j:=j) (Q:=λr s'=>r=w/\EP X zG Z Q r s') pl (by omega) (by omega) (by rw [Tk,← hl]; exact h1) (by simpa using ew) ⟨rfl,fin⟩) hs
theorem Yx:IxR X aD:=by
 intro value slice zG s Z H x y v u Q I rx ry h hs;obtain⟨z,i,c,rfl,rfl,hz,he,q⟩:=h;obtain⟨t,rfl⟩:=rx;obtain⟨t',rfl⟩:=ry;obtain⟨j,h1,h2,h3,h4,h5⟩:=OF he;have hl:z.cps.toList.length=z.length:=by simp [Str.length]
 rw [hl] at h1 h4 h5;have hn:=Il
 exact tail_any (typeIs_str s z t) slot_str_getitem.lookup (getItem_str (c:=c) (by
  have e1:decide (i < -(2 ^ 63:Int))=false:=decide_eq_false (by omega);have e2:decide (i≥2 ^ 63)=false:=decide_eq_false (by omega);rw [e1,e2,kC]) (by rw [h1]; simpa using h2) ⟨.str ⟨#[c]⟩,H,I.tok _,⟨_,rfl⟩,q⟩) hs
def cL(K:Frag):R2:=λx y H Q=>YN K x y H Q\/aC K x y H Q\/aD x y H Q
theorem AK:IxR X (cL X.K):=ix_list.or (ix_tup.or Yx)
theorem Qb(its:List Ev)(n j:Nat)(u:Ev):eB (·.setIfInBounds j u) { cls:=.type "list",data:=.seq its.toArray n }={ cls:=.type "list",data:=.seq (its.set j u).toArray n }:=by
 simp [eB]
theorem Inv.lst{zG:List (Ch×Obj)}{Z:St}{H:Hp}{s:Op}{p:Ch}{xs:List V}(I:Inv X zG Z H s)(h:H p=some (.lst xs)) :
  ∃(its:List Ev) (n:Nat),Vals xs its/\s.heap.get? p=some { cls:=.type "list",data:=.seq its.toArray n }/\xs.length<=sizeLine:=by
 obtain⟨z,its,n,r,e⟩:=I.hok p _ h;exact⟨its,n,r,e,z⟩
theorem Inv.lstUpd{zG:List (Ch×Obj)}{Z:St}{H:Hp}{s:Op}{p:Ch}{xs ys:List V}{its its':List Ev}{n n':Nat}{f:Obj->Obj}(I:Inv X zG Z H s)(h:H p=some (.lst xs))
  (ho:s.heap.get? p=some { cls:=.type "list",data:=.seq its.toArray n }) (hf:f { cls:=.type "list",data:=.seq its.toArray n }={ cls:=.type "list",data:=.seq its'.toArray n' }) (r:Vals ys its') (hz:ys.length<=sizeLine) (t:Nat) :
  Inv X zG Z (BK H p (.lst ys)) { s with heap:=s.heap.update p f,toks:=t }:=by
 have e:(s.heap.update p f).get? p=some { cls:=.type "list",data:=.seq its'.toArray n' }:=by
  rw [ge f ho (by rw [hf] <;> rfl),hf]
 refine I.write (x:=p) (e:=p) (by rw [h]; trivial) (.inl rfl) (λb u hb q=>(dM _ _ (eW hb)).trans q) ⟨_,e⟩ ?_;exact⟨hz,its',n',r,e⟩
def XQ:V->V->V->Hp->(Hp->Prop)->Prop:=λo i v H Q=>∃p xs k j,o=.ref p/\i=.int k/\H p=some (.lst xs)/\V2 xs.length k=some j/\Q (BK H p (.lst (xs.set j v)))
theorem set_list:ay X XQ:=by
 intro zG s Z H o i v ov iv u Q I ro ri rv h;obtain⟨p,xs,k,j,rfl,rfl,hp,hj,q⟩:=h;cases ro;obtain⟨t,rfl⟩:=ri;obtain⟨its,n,r,ho,hz⟩:=I.lst hp;obtain⟨h1,h2,h3,h4⟩:=RX hj;have hl:=r.length;have hn:=Il
 have I':Inv X zG Z (BK H p (.lst (xs.set j v))) { s with heap:=s.heap.update p (eB (·.setIfInBounds j u)) } :=
  I.lstUpd hp ho (Qb its n j u) (r.set rv j) (by rw [f_]; exact hz) s.toks
 by_cases h0:0<=k
 ·have hk:k.toNat=j:=by
   rw [seqIndex_of h0 h4] at h1;exact c_ h1
  exact PySem.W.ki_setAt ho h0 (by omega) (by rw [Tk,← hl]; exact h4) (by rw [hk]; exact⟨_,I',q⟩)
 ·have hk:(k+(its.toArray.size:Int)).toNat=j:=by
   rw [seqIndex_neg (by omega) h3] at h1;rw [Tk,← hl];exact c_ h1
  exact PySem.W.ki_setBack ho (by omega) (by rw [Tk,← hl]; exact h3) (by omega) (by rw [hk]; exact⟨_,I',q⟩)
theorem NF(lo hi:Option Int)(n:Nat):(sliceBounds lo hi none n).1=((HT.sIx n 0 lo:Nat):Int)/\(sliceBounds lo hi none n).2.1=((HT.sIx n n hi:Nat):Int)/\(sliceBounds lo hi none n).2.2=1:=by
 refine⟨?_,?_,rfl⟩
 ·cases lo with
  | none=>simp [sliceBounds,HT.sIx]
  | some i =>
   simp only [sliceBounds,HT.sIx,Option.getD_none,show (1:Int) > 0 by decide,if_true]
   by_cases h:i<0
   ·simp only [h,if_true] <;> omega
   ·simp only [h,if_false] <;> omega
 ·cases hi with
  | none=>simp [sliceBounds,HT.sIx]
  | some i =>
   simp only [sliceBounds,HT.sIx,Option.getD_none,show (1:Int) > 0 by decide,if_true]
   by_cases h:i<0
   ·simp only [h,if_true] <;> omega
   ·simp only [h,if_false] <;> omega
theorem Ls(its:List Ev)(lo hi:Option Int):slicePick its.toArray lo hi none=((its.drop (HT.sIx its.length 0 lo)).take (HT.sIx its.length its.length hi - HT.sIx its.length 0 lo)).toArray:=by
 obtain⟨h1,h2,h3⟩:=NF lo hi its.toArray.size;unfold slicePick;rw [h1,h2,h3];simp only [sliceRange_one,pick_run,Tk] <;> rfl
def Z8(K:Frag):V->Option Int->Option Int->Hp->VK->Prop:=λx lo hi H Q=>∃a xs,x=.ref a/\SqL K H a xs/\∀p,H p=none->Q (.ref p) (BK H p (.lst (MF xs lo hi)))
theorem sl_list:SlR X (Z8 X.K):=by
 intro zG s Z H x v vl vu lo hi sl Q I rx hs pl pu h;obtain⟨a,xs,rfl,hx,q⟩:=h;cases rx;obtain⟨its,r,ht,hz⟩:=I.list hx;have hlen:=r.length;refine⟨"list",_,slot_list_getitem.lookup,ht.isList.typeIs,?_⟩;refine wpAny_getItem_list_slice ht.isList hs pl pu .none (by simp) ?_ (by rw [Tk] <;> omega);rw [Ls,← hlen];refine⟨.ref s.heap.objs.size,_,I.laid (t':=s.toks) (o:=.lst (MF xs lo hi)) (λb ob q=>No _ q) (Sc _) ?_,rfl,q _ (I.hok.fresh (Sc _))⟩;exact⟨de (JH xs lo hi) hz,_,0,(r.drop (HT.sIx xs.length 0 lo)).take (HT.sIx xs.length xs.length hi - HT.sIx xs.length 0 lo),c7 _ rfl⟩
def Xj:V->Bool
 | .non=>true
 | .bl _=>true
 | .int _=>true
 | .str _=>true
 | _=>false
def ag:V->V->Bool
 | .non,.non=>true
 | .bl a,.bl b=>a==b
 | .bl a,.int b=>(if a then 1 else 0)==b
 | .int a,.bl b=>a==(if b then 1 else 0)
 | .int a,.int b=>a==b
 | .str a,.str b=>a==b
 | _,_=>false
theorem N3{A:eC}{s:Op}{y x:V}{u v:Ev}(ry:RelV y u)(rx:RelV x v)(fy:Xj y=true)(fx:Xj x=true):SeqAt.EqAt A s u v (ag y x):=by
 cases y with
 | non =>
  cases ry;cases x with
  | non=>cases rx; exact SeqAt.EqAt.same _
  | bl b=>cases rx; exact SeqAt.EqAt.none_bool b
  | int b=>obtain⟨t,rfl⟩:=rx; exact SeqAt.EqAt.none_int b t
  | str b=>obtain⟨t,rfl⟩:=rx; exact SeqAt.EqAt.none_str b t
  | _=>exact absurd (show false=true from fx) dH
 | bl a =>
  cases ry;cases x with
  | non=>cases rx; exact SeqAt.EqAt.bool_none a
  | bl b=>cases rx; exact SeqAt.EqAt.bool_bool a b
  | int b=>obtain⟨t,rfl⟩:=rx; exact SeqAt.EqAt.bool_int a b t
  | str b=>obtain⟨t,rfl⟩:=rx; exact SeqAt.EqAt.bool_str a b t
  | _=>exact absurd (show false=true from fx) dH
 | int a =>
  obtain⟨t',rfl⟩:=ry;cases x with
  | non=>cases rx; exact SeqAt.EqAt.int_none a t'
  | bl b=>cases rx; exact SeqAt.EqAt.int_bool a t' b
  | int b=>obtain⟨t,rfl⟩:=rx; exact SeqAt.EqAt.int_int a t' b t
  | str b=>obtain⟨t,rfl⟩:=rx; exact kI a t' b t
  | _=>exact absurd (show false=true from fx) dH
 | str a =>
  obtain⟨t',rfl⟩:=ry;cases x with
  | non=>cases rx; exact SeqAt.EqAt.str_none a t'
  | bl b=>cases rx; exact SeqAt.EqAt.str_bool a t' b
  | int b=>obtain⟨t,rfl⟩:=rx; exact kJ a t' b t
  | str b=>obtain⟨t,rfl⟩:=rx; exact SeqAt.EqAt.str_str a t' b t
  | _=>exact absurd (show false=true from fx) dH
 | _=>exact absurd (show false=true from fy) dH
theorem OD:DB X (.type "list") (λxs H Q=>∃p ys,xs=[.ref p]/\(SqL X.K H p ys\/SqT X.K H p ys)/\∀l,H l=none->Q (.ref l) (BK H l (.lst ys))):=by
 intro zG s Z H xs us Q I r h;obtain⟨p,ys,rfl,hq,q⟩:=h;obtain⟨u,rfl,rx⟩:=vals1 r;cases rx
 have fin:∀(its:List Ev),Vals ys its->ys.length<=sizeLine->∀(h':dL) (c':Nat),(∀b o',s.heap.get? b=some o'->h'.get? b=some o') ->
   h'.get? s.heap.objs.size=some { cls:=.type "list",dict:=none,data:=.seq its.toArray c',slots:=#[] }->EP X zG Z Q (.ref s.heap.objs.size) { s with heap:=h' }:=λits r' hz h' c' kp e =>
  ⟨.ref s.heap.objs.size,_,I.laid (t':=s.toks) kp (Sc _) (show ObjOk X.prog X.w _ h' _ (.lst ys) from⟨hz,its,c',r',e⟩),rfl,q _ (I.hok.fresh (Sc _))⟩
 rcases hq with hq | hq
 ·obtain⟨its,r',pl,hz⟩:=I.list hq
  have hlen:=r'.length;obtain⟨o,ho,hc,n,hd⟩:=pl.isList;exact call_list_seq p (.inl rfl) ho hc hd (λh' c' kp e=>fin its r' hz h' c' kp e) (by simp only [Tk] <;> omega)
 ·obtain⟨its,r',pl,hz⟩:=I.tuple hq
  have hlen:=r'.length;obtain⟨o,ho,hc,n,hd⟩:=pl;exact call_list_seq p (.inr rfl) ho hc hd (λh' c' kp e=>fin its r' hz h' c' kp e) (by simp only [Tk] <;> omega)
theorem BY:DB X (.type "tuple") (λxs H Q=>∃p ys,xs=[.ref p]/\((SqL X.K H p ys/\∀l,H l=none->Q (.ref l) (BK H l (.tup ys)))\/(SqT X.K H p ys/\Q (.ref p) H))):=by
 intro zG s Z H xs us Q I r h;obtain⟨p,ys,rfl,h⟩:=h;obtain⟨u,rfl,rx⟩:=vals1 r;cases rx
 rcases h with ⟨hq,q⟩ | ⟨hq,q⟩
 ·obtain⟨its,r',pl,hz⟩:=I.list hq
  have hlen:=r'.length;refine call_tuple_list pl.isList (λh' kp=>?_) (by simp only [Tk] <;> omega);have I1:Inv X zG Z H { s with heap:=h' }:=I.kept (t':=s.toks) kp
  have I2:Inv X zG Z (BK H h'.objs.size (.tup ys)) { s with heap:=h'.push { cls:=.type "tuple",data:=.seq its.toArray } } :=
   I1.laid (t':=s.toks) (λb o e=>No _ e) (Sc _) (show ObjOk X.prog X.w _ _ _ (.tup ys) from⟨hz,its,r',IsTupN.new _ _⟩)
  exact⟨.ref h'.objs.size,_,I2,rfl,q _ (I1.hok.fresh (Sc _))⟩
 ·obtain⟨its,r',pl,hz⟩:=I.tuple hq
  exact call_tuple_same pl ⟨.ref p,H,I,rfl,q⟩
def bS(K:Frag)(T:String)(x:V)(H:Hp):Prop:=match x with
 | .str _=>T = "str"
 | .int _=>T = "int"
 | .ref p=>(T = "list"/\∃xs,SqL K H p xs)\/(T = "tuple"/\∃o,K.lookup p=some o/\o.cls=.type "tuple"/\o.dict=none) \/
   (T = "dict"/\((∃kvs,H p=some (.dK kvs))\/∃kvs,H p=some (.dT kvs)))\/(T = "set"/\∃S n,H p=some (.set S n))
 | _=>False
theorem X7{zG:List (Ch×Obj)}{Z:St}{H:Hp}{s:Op}{T:String}{x:V}{v:Ev}(I:Inv X zG Z H s)(r:RelV x v)(ty:bS X.K T x H) :
  s.TypeIs v T/\∀a,v=.ref a->∃ob,s.heap.get? a=some ob/\ob.dict=none:=by
 cases x with
 | str z =>
  obtain⟨t,rfl⟩:=r;cases (show T = "str" from ty);exact⟨typeIs_str s z t,λ_ e=>nomatch e⟩
 | int i =>
  obtain⟨t,rfl⟩:=r;cases (show T = "int" from ty);exact⟨typeIs_int s i t,λ_ e=>nomatch e⟩
 | ref p =>
  cases r
  rcases ty with ⟨rfl,xs,hq⟩ | ⟨rfl,o,hk,hc,hd⟩ | ⟨rfl,hk⟩ | ⟨rfl,S,n,hk⟩
  ·obtain⟨its,_,pl,_⟩:=I.list hq
   refine⟨pl.isList.typeIs,λa e=>?_⟩;cases e;obtain⟨o,n,e,c,hd,_⟩:=pl;exact⟨o,e,hd⟩
  ·refine⟨⟨o,I.kIn p o hk,hc⟩,λa e=>?_⟩
   cases e;exact⟨o,I.kIn _ o hk,hd⟩
  ·have z:∃o,s.heap.get? p=some o/\o.ExactDict:=by
    rcases hk with ⟨kvs,hk⟩ | ⟨kvs,hk⟩
    ·obtain⟨_,_,_,_,o,_,_,e,ex,_⟩:=I.hok p _ hk
     exact⟨o,e,ex⟩
    ·obtain⟨_,_,_,_,o,_,_,e,ex,_⟩:=I.hok p _ hk
     exact⟨o,e,ex⟩
   obtain⟨o,e,ex⟩:=z;refine⟨⟨o,e,ex.1⟩,λa e2=>?_⟩;cases e2;exact⟨o,e,ex.2.1⟩
  ·obtain⟨o,_,_,_,e,ex,_⟩:=I.hok p _ hk
   refine⟨⟨o,e,ex.1⟩,λa e2=>?_⟩;cases e2;exact⟨o,e,ex.2.1⟩
 | _=>exact fQ ty
def cZ(K:Frag)(T:String)(r:V->List V->Hp->VK->Prop)(to:TE)(t:TA):TE:=λZ H Q=>to Z H λx H1=>bS K T x H1/\t Z H1 λxs H2=>r x xs H2 Q
variable {o e:Expr}{es:List Expr}{to:TE}{t:TA}{name:Str}{apos cpos:Pos}{T id:String}{r:V->List V->Hp->VK->Prop}
theorem Xd(pa:PlainAttrs T)(slot:Slot T name id)(hty:typeOf (.builtin id)=pure (.type "method_descriptor"))(hm:Zc X id r)(ho:PE X o to)(ha:PA X (e::es) t)
  (hbase:attributeBase o name X.env (eval o X.env)=eval o X.env:=by rfl)
  (hfew:((backTo cpos (starEach (e::es) X.env)).all (λx=>!x.1)&&(backToKw cpos (keywordEach [] X.env)).all (λx=>x.1.isSome)
   && decide ((e::es).length+([]:List gK).length+(if ([]:List gK).isEmpty then 0 else 1)<30))=true:=by rfl)
  (hline:(apos.endLine==cpos.line)=true:=by rfl) (hs:starEach (e::es) X.env=(false,eval e X.env)::starEach es X.env:=by rfl) (hplain:(backTo cpos (starEach es X.env)).any (·.1)=false:=by rfl) :
  PE X (.Call (.Attribute o name apos) (e::es) [] cpos) (cZ X.K T r to t):=by
 intro zG s Z H Q I h;refine wpAny_Call_method_late hbase hfew hline rfl (thn (ho zG s Z H _ I h) λv s1 ⟨x,H1,I1,r1,ty,q1⟩=>?_);obtain⟨h1,h2⟩:=X7 I1 r1 ty;refine⟨T,id,pa,slot,hty,h1,h2,?_⟩;have hA:=ha cpos zG s1 Z H1 _ I1 q1;rw [hs] at hA ⊢;refine fw (by show (false||(backTo cpos (starEach es X.env)).any (·.1))=false; rw [hplain] <;> rfl) (gk ?_);exact thn hA λus s2 ⟨vs,H2,I2,r2,q2⟩=>hm zG s2 Z H2 x vs v us Q I2 r1 r2 q2
end
def cq(X:Cx)(id:String)(r:V->List V->Hp->VK->Prop):Prop :=
 ∀(zG:List (Ch×Obj)) (s:Op) (Z:St) (H:Hp) (x:V) (xs:List V) (v:Ev) (us:List Ev) (Q:VK),Inv X zG Z H s->RelV x v->Vals xs us->r x xs H Q ->
  wpAny (model X.prog X.w) X.A (call (.builtin id) (v::us)) (EP X zG Z Q) X.xe s
theorem Vals.one:∀{x:V} {us:List Ev},Vals [x] us->∃u,us=[u]/\RelV x u
 | _,_,.cons r .nil=>⟨_,rfl,r⟩
theorem Vals.eraseIdx:∀{xs:List V} {us:List Ev} (i:Nat),Vals xs us->Vals (xs.eraseIdx i) (us.eraseIdx i)
 | _,_,_,.nil=>.nil
 | _,_,0,.cons _ t=>t
 | _,_,i+1,.cons r t=>.cons r (Vals.eraseIdx i t)
theorem Vals.reverse{xs:List V}{us:List Ev}(h:Vals xs us):Vals xs.reverse us.reverse:=by
 induction h with
 | nil=>exact .nil
 | cons r t ih=>rw [iE,iE]; exact Vals.append ih (.cons r .nil)
theorem MV{α:Type}:∀(l:List α) (i:Nat),(l.eraseIdx i).length<=l.length
 | [],_=>Sc _
 | _::_,0=>fO _
 | _::r,i+1=>iN (MV r i)
section
variable {X:Cx}{zG:List (Addr×Obj)}{Z:St}{H:Hp}{s:Shared}{l:Addr}{xs ys:List V}
theorem Inv.lset{its its':List Ev}{n:Nat}{f:Array Ev->Array Ev}{t':Nat}(I:Inv X zG Z H s)(hH:H l=some (.lst xs))
  (e:s.heap.get? l=some { cls:=.type "list",data:=.seq its.toArray n }) (hf:f its.toArray=its'.toArray) (hv:Vals ys its') (hz:ys.length<=sizeLine) :
  Inv X zG Z (BK H l (.lst ys)) { s with heap:=s.heap.update l (eB f),toks:=t' }:=by
 have q:=PySem.IsL.update e f;rw [hf] at q;refine I.write (x:=l) (e:=l) (by rw [hH]; exact trivial) (.inl rfl) (λb' u hb hu=>(dM s.heap (eB f) (eW hb)).trans hu) ⟨_,q⟩ ?_;exact⟨hz,its',_,hv,q⟩
theorem Inv.lnew{its:List Ev}{t':Nat}(I:Inv X zG Z H s)(hv:Vals ys its)(hz:ys.length<=sizeLine) :
  Inv X zG Z (BK H s.heap.objs.size (.lst ys)) { s with heap:=s.heap.push { cls:=.type "list",data:=.seq its.toArray },toks:=t' } :=
 I.laid (λ_ _ q=>No _ q) (Sc _) ⟨hz,its,0,hv,c7 _ rfl⟩
theorem Inv.fresh(I:Inv X zG Z H s):H s.heap.objs.size=none:=I.hok.fresh (Sc _)
theorem Inv.lstM(I:Inv X zG Z H s)(hH:H l=some (.lst xs)):xs.length<=sizeLine/\∃(its:List Ev) (n:Nat),Vals xs its/\xs.length=its.length/\s.heap.get? l=some { cls:=.type "list",data:=.seq its.toArray n }:=by
 obtain⟨z,its,n,r,e⟩:=I.hok l _ hH;exact⟨z,its,n,r,r.length,e⟩
end
section
variable {X:Cx}
def RC:V->List V->Hp->VK->Prop:=λx vs H Q=>∃l xs y,x=.ref l/\vs=[y]/\H l=some (.lst xs)/\xs.length<sizeLine/\Q .non (BK H l (.lst (xs++[y])))
theorem BZ:cq X "list.append" RC:=by
 intro zG s Z H x vs v us Q I rx rv h;obtain⟨l,xs,y,rfl,rfl,hH,hz,q⟩:=h;cases rx;obtain⟨u,rfl,ru⟩:=rv.one;obtain⟨z,its,n,r,hl,e⟩:=I.lstM hH;refine call_meets F.slot_list_append ⟨_,e,rfl⟩ F.entry_list_append (F.args_list_append_2 _ _) (PySem.list_append l its.toArray n u (by rw [Tk]; omega)) ⟨e,?_⟩;refine⟨.non,_,I.lset (its':=its++[u]) hH e (by simp) (r.append (.cons ru .nil)) ?_,rfl,q⟩;rw [c9,dR];omega
end
end L2
namespace Att
open PySem.W PySem.Calls
theorem Jj{P:Params}{h:dL}:∀(ns:List Int) (vs:List Ev),WellAll P h vs (ns.map WData.int)->IntsAre vs ns:=by
 intro ns
 induction ns with
 | nil =>
  intro vs w;rw [gf] at w;cases w;exact .nil
 | cons n ns ih =>
  intro vs w;rw [dA] at w;cases w with
  | cons a b =>
   cases a;exact .cons _ _ (ih _ b)
theorem SW{l:OpenLaw}{n:Nat}(hn:l.most=some n){P:Params}{h:dL}{args:List WData}{vals:List Ev}
  (hpre:l.row.toRowW.claim.pre args=true) (hwl:WellAll P h vals args) :
  ∃a vs ns,vals=[dn a]/\args=[WData.list (ns.map WData.int)]/\h.get? a=some { cls:=.type "list",data:=.seq vs.toArray }/\IntsAre vs ns/\ns.length<=n:=by
 have hsh:WShape.hasAll [] args [.list .int]=true:=(pre_splitW hpre).1;have hc:l.pre.holds [] { args:=args }=true:=(pre_splitW hpre).2;obtain⟨d,r,rfl,h1,h2⟩:=hasAllW_cons hsh;obtain rfl:=hasAllW_nil h2;obtain⟨xs,rfl,h3⟩:=hasW_list h1;obtain⟨ns,rfl⟩:=items_int h3
 have hlen:ns.length<=n:=by
  unfold OpenLaw.pre at hc
  have h4:(WTm.not (.lt (.lit (.int (n:Int))) (.len (.arg 0)))).holds [] { args:=[.list (ns.map .int)] }=true:=by
   have h4:=(holds_andW hc).1;rw [hn] at h4;exact h4
  have h5:=condW_of h4 (w_not (w_lt w_lit (w_len_list (w_arg rfl))));rw [Go] at h5;refine Nat.le_of_not_lt λq=>?_;have q':(n:Int)<((ns.length:Nat):Int):=by omega
  first
   | (rw [decide_eq_true q'] at h5; exact absurd h5 (by decide))
   | (simp at h5; omega)
 cases hwl with
 | cons w1 w2 =>
  cases w2;cases w1 with
  | list ho hall=>exact⟨_,_,ns,rfl,rfl,ho,Jj ns _ hall,hlen⟩
theorem Sn(l:OpenLaw)(args:List WData):l.row.toRowW.claim.post args (.bool true) args=true :=
 postW_of (r:=l.row.toRowW) (X:=(true==true))
  (show WShape.has [] (.bool true) .bool=true by first | rfl | decide | simp [WShape.has,WShape.arms,WShape.armsAll])
  (show (WTm.eq .res (.lit (.bool true))).value [] { args:=args,res:=some (.bool true),after:=args }=some (.bool (true==true)) from w_eq_bool (w_res rfl) w_lit) rfl
theorem attach_call{l:OpenLaw}{n:Nat}{q:dZ}{loose:List Str}{XP:(Str->Option Ev)->dL->Prop}{YP:dh->dL->Prop}{d:DefRec}
  (hn:l.most=some n) (hdf:d.params.defaults=[])
  (call:∀(w:dh) (s₀ s₁:Op) (mg mb:Str->Option Ev) (fa:Ch) (o:Obj) (pm cd doc:Ev) (a:Ch) (vs:List Ev) (ns:List Int),
   Ground q loose [] XP w s₀ mg mb s₁.heap->YP w s₁.heap ->
   s₁.heap.get? fa=some o->o.data=.func (docDef d.name d.params d.body d.scope pm cd doc)->s₁.heap.CodeRec cd d.name->mg d.name=some (.ref fa) ->
   s₁.heap.get? a=some { cls:=.type "list",data:=.seq vs.toArray }->IntsAre vs ns->ns.length<=n->s₁.gens=#[] ->
   codeAny (model l.prog w) callerA (.call (.ref fa) ⟨[.ref a],[]⟩) (λr s'=>r=.ok (.ret (.bool true))/\OldK s₁.heap s'.heap/\s'.os=s₁.os/\h_ s'.gens) s₁) :
  WalkO q loose XP YP l.row.toRowW d [] (λf vs=>PySem.call f vs):=by
 intro w s₀ s₁ mg mb G Y fa o pm cd doc dV kV ho hd hcd hD hmg hg args vals as hpre hlay hrd hwl hlo;obtain rfl:dV=.none:=Dflts.none hD hdf;obtain rfl:kV=.none:=Dflts.noKw hD;obtain⟨a,vs,ns,rfl,rfl,hobj,hints,hlen⟩:=SW hn hpre hwl;refine enter_call (jX (call w s₀ s₁ mg mb fa o pm cd doc a vs ns G Y ho (fd_plain hd) hcd hmg hobj hints hlen hg) λr s' hq=>?_);obtain⟨rfl,h2,h3,h4⟩:=hq;exact⟨.inl ⟨.bool true,.bool true,[],rfl,λ_=>rfl,.bool true,Sn l _,λ_=>⟨jN,λ_ hm=>(nomatch hm)⟩⟩,h2,h3,h4⟩
end Att
namespace L2
theorem MK:∀{vs:List Ev} {ns:List Int},IntsAre vs ns->Vals (ns.map V.int) vs
 | _,_,.nil=>.nil
 | _,_,.cons n t h=>.cons ⟨t,rfl⟩ (MK h)
def ZZ(H:Hp):Prop:=∀b,H b=none\/∃o xs,H b=some (.frz o (.lst xs))
theorem VD{P:dZ}{w:dh}{K:Frag}{mg mb:Str->Option Ev}{CX:V0}{k:Nat}{fa a:Ch}{fd:eI}{x:Str}{sp:Sp}{s₁:Op}{vs:List Ev}{ns:List Int}
  (KX:K.In s₁.heap) (hns:s₁.heap.Ns mainGlobals mg) (hb:s₁.heap.Ns builtinsNs mb) (hbb:∀x:Str,x ≠ "__name__"->mb x=bootBuiltins x) (hlim:s₁.heap.NoLimit) (hg:s₁.gens=#[])
  (ha:s₁.heap.get? a=some { cls:=.type "list",data:=.seq vs.toArray }) (hi:IntsAre vs ns) (hl:ns.length<=sizeLine) (hr:Room k callerA)
  (F:∀base:dL,K.In base->base.Ns mainGlobals mg->A8 P w K mg base CX k fa fd [x] sp) (hbind:∀(s:Op) (u:Ev),jW s fd ⟨[u],[]⟩ [(x,u)])
  (hsp:∀H:Hp,ZZ H->SqL K H a (ns.map V.int)->sp [.ref a] H (λv _=>v=.bl true) λ_ _ _=>False)
  (hCX:∀H e s',CX [] H s₁ (λ_ _ _=>False) e s'->False) :
  codeAny (model P w) callerA (.call (.ref fa) ⟨[.ref a],[]⟩) (λr s'=>r=.ok (.ret (.bool true))/\OldK s₁.heap s'.heap/\s'.os=s₁.os/\h_ s'.gens) s₁:=by
 have rv:=MK hi;have lenV:=hi.length
 have core:∀H:Hp,ZZ H->SqL K H a (ns.map V.int)->HOk P w H s₁.heap->(∀b,H b≠none->b=a)->(H a≠none->K.lookup a=none) ->
   codeAny (model P w) callerA (.call (.ref fa) ⟨[.ref a],[]⟩) (λr s'=>r=.ok (.ret (.bool true))/\OldK s₁.heap s'.heap/\s'.os=s₁.os/\h_ s'.gens) s₁:=by
  intro H hO hS hok hA hK;have base_of:∀{b:Ch} {o:Obj},s₁.heap.get? b=some o->H b=none->(Nv s₁.heap H).get? b=some o:=λe n=>VN e n
  have noA:∀{b:Ch} {o:Obj} {es:Array DictEntry} {ep:Nat},s₁.heap.get? b=some o->o.data=.dict es ep->H b=none:=λ{b o es ep} e d=>by
   cases q:H b with
   | none=>rfl
   | some u =>
    have e':b=a:=hA b (by rw [q]; simp);subst e';rw [ha] at e; cases e
    have d':Data.seq vs.toArray _=Data.dict es ep:=d;cases d'
  have nsK:∀{b:Ch} {m:Str->Option Ev},s₁.heap.Ns b m->(Nv s₁.heap H).Ns b m:=λ{b m} ⟨o,es,ep,e,d,r⟩=>⟨o,es,ep,base_of e (noA e d),d,r⟩
  have hKb:K.In (Nv s₁.heap H):=λb o e=>base_of (KX b o e) (by
   cases q:H b with
   | none=>rfl
   | some u =>
    have e':b=a:=hA b (by rw [q]; simp);subst e';rw [hK (by rw [q]; simp)] at e; cases e)
  have hM:Mod K mg (Nv s₁.heap H):=⟨hKb,nsK hns,⟨mb,nsK hb,hbb⟩,let ⟨mc,h1,h2⟩:=hlim; ⟨mc,nsK h1,h2⟩⟩;have e0:Env0 P w K mg (Nv s₁.heap H) callerA [] s₁ H:=⟨rfl,hM,λb o e=>WY e,jZ (TZ _ _),trivial,λb hb=>absurd (show b∈([]:List Ch) from hb) (by simp),hok,.of_eq hg⟩;refine jX ((F _ hKb (nsK hns)).run callerA [] s₁ H ⟨[.ref a],[]⟩ [.ref a] [.ref a] _ _ hr e0 (hbind s₁ (.ref a)) (.cons rfl .nil) (hsp H hO hS)) λr s' h=>?_;cases r with
  | error e=>exact(hCX H e s' h).elim
  | ok fl =>
   cases fl with
   | next=>exact fQ h
   | brk=>exact fQ h
   | cont=>exact fQ h
   | ret u =>
    obtain⟨v,H',os,bare,un,hok',r',q⟩:=h;have q':v=.bl true:=q;subst q';obtain rfl:u=hX true:=r';refine⟨rfl,OldK.of_keep λb o e=>?_,os,bare⟩;cases q:H b with
    | none=>exact un.keep b o e q (by intro z; exact absurd (show b∈([]:List Ch) from z) (by simp)) (by simp)
    | some u =>
     rcases hO b with z | ⟨ob,xs,z⟩
     ·rw [q] at z; cases z
     ·have z2:=un.frzs b ob _ z
      obtain⟨e1,_⟩:=hok b _ z;obtain⟨e2,_⟩:=hok' b _ z2;rw [e] at e1; cases e1
      exact e2
 cases hk:K.lookup a with
 | some o =>
  have e:=KX a o hk;rw [ha] at e;cases e;refine core (λ_=>none) (λ_=>.inl rfl) (.inr ⟨_,vs.toArray,_,hk,rfl,rfl,rfl,by rw [Tk,lenV]; exact hl,by simpa using rv⟩) (λb u z=>by have z':(none:Option HO)=some u:=z; cases z') (λb z=>absurd rfl z) λz=>absurd rfl z
 | none =>
  refine core (λb=>if b=a then some (.frz { cls:=.type "list",data:=.seq vs.toArray } (.lst (ns.map V.int))) else none) (λb=>?_) (.inl (.inr ⟨{ cls:=.type "list",data:=.seq vs.toArray },if_pos rfl⟩)) (λb u z=>?_) (λb z=>?_) λ_=>hk
  ·by_cases hb:b=a
   ·exact .inr ⟨_,_,if_pos hb⟩
   ·exact .inl (if_neg hb)
  ·by_cases hb:b=a
   ·have z':=(if_pos hb).symm.trans z
    cases z';subst hb;exact⟨ha,by rw [Go]; exact hl,vs,_,rv,ha⟩
   ·have z':=(if_neg hb).symm.trans z
    cases z'
  ·by_cases hb:b=a
   ·exact hb
   ·exact absurd (if_neg hb) z
theorem Qz{l:PySem.W.OpenLaw}{n k:Nat}{q:dZ}{loose:List Str}{XP:(Str->Option Ev)->dL->Prop}{YP:dh->dL->Prop}{d:DefRec}{K:Params->Frag}{CX:dh->V0}{sp:dh->Sp}{x:Str}
  (hn:l.most=some n) (hn2:n<=sizeLine) (hdf:d.params.defaults=[]) (hr:Room k callerA)
  (hY:∀(w:dh) (h:dL),YP w h->(K w.params).In h)
  (F:∀(w:dh) (mg:Str->Option Ev) (fa:Ch) (h:dL),(K w.params).In h->h.Ns mainGlobals mg->mg d.name=some (.ref fa) ->
   ∃fd:eI,(∀(s:Op) (u:Ev),jW s fd ⟨[u],[]⟩ [(x,u)]) /\
    ∀base:dL,(K w.params).In base->base.Ns mainGlobals mg->A8 l.prog w (K w.params) mg base (CX w) k fa fd [x] (sp w))
  (hsp:∀(w:dh) (H:Hp) (a:Ch) (ns:List Int),ns.length<=n->ZZ H->SqL (K w.params) H a (ns.map V.int)->sp w [.ref a] H (λv _=>v=.bl true) λ_ _ _=>False)
  (hCX:∀(w:dh) (H:Hp) (s:Op) (e:Ev) (s':Op),CX w [] H s (λ_ _ _=>False) e s'->False) :
  PySem.W.WalkO q loose XP YP l.row.toRowW d [] (λf vs=>PySem.call f vs):=by
 refine Att.attach_call hn hdf λw s₀ s₁ mg mb fa o pm cd doc a vs ns G Y ho hd hcd hmg hobj hints hlen hg=>?_;have KX:=hY w _ Y;obtain⟨fd,hb,hF⟩:=F w mg fa _ KX G.T.g hmg;exact VD KX G.T.g G.T.b G.T.builtins G.T.nolimit hg hobj hints (de hlen hn2) hr hF hb (λH hO hS=>hsp w H a ns hlen hO hS) λH e s'=>hCX w H s₁ e s'
end L2
/- THE LAST THEOREM (shape; LID, My.* are yours):
   My.Adr: a structure of the addresses that your layer names (classes, functions); My.Txt K t: a structure (Prop) of the equations over K;
   My.txt_mk : {K} {implicit addresses ..} (e1 : nsIn K mainGlobals "law" = some (some (.ref f))) (e2 : K.lookup f = some ⟨oc, od, .func (fnOf "law" "law" params body scope dV kV doc pm an cdv ct), sl⟩) (e3 : codeIn K cdv "law" = true) .. : ∃ t, My.Txt K t
set_option maxRecDepth 100000 in
set_option maxHeartbeats 0 in
theorem PySem.Challenge.cw_LID_holds : PySem.Challenge.rw_LID.Holds := by
 w_on; o_law; k_head; (case hw=>w_witness2)
 k_fill
 refine L2.Qz (l:=PySem.Challenge.rw_LID) (n:=63) (k:=40) (x := "script") (CX:=λw=>..) (sp:=λ_=>My.sp_law) rfl (by decide) rfl ⟨rfl,by decide,by decide⟩ (λw h Y=>PySem.W.kIn_of Y) ?F ?S ?C
 case F =>
  intro w mg fa h KX G hmg
  have T:∃t,My.Txt (L2.KOf KX) t:=by
   dsimp only [L2.KOf]                          -- K must stand as «<heap const> w.params» for k_is
   refine' My.txt_mk ?e1 ?e2 ?e3 ..
   (case e1=>PySem.W.k_is)                    -- in the order: a name -> its address -> its object -> its parts
   (case e2=>PySem.W.k_is)
   ..
  obtain⟨t,T⟩:=T;have e0:=hmg.symm.trans (mg_of KX G T.law);cases e0                                       -- fa is the law's own address;exact⟨_,λs u=>.of_eq rfl,λbase kb nb=>My.law_fn T kb nb⟩     -- if «.of_eq rfl» comes too early: refine' ⟨_,?b,λbase kb nb=>My.law_fn T kb nb⟩; exact λs u=>.of_eq rfl
 case S=>exact λw H a ns hl hO hS=>..
 case C=>exact ..
(the tactic k_is has no namespace: write k_is) -/
namespace L2
def ED(s:df):Arguments:=match s with
 | .FunctionDef _ a _ _ _ _ _ _ _ _=>a
 | _=>{ posonlyargs:=[],args:=[],vararg:=none,kwonlyargs:=[],kw_defaults:=[],kwarg:=none,defaults:=[] }
def CP(s:df):List df:=match s with
 | .FunctionDef _ _ b _ _ _ _ _ _ _=>b
 | _=>[]
def AQ(s:df):ft:=match s with
 | .FunctionDef _ _ _ _ _ _ sc _ _ _=>sc
 | _=>{ kind:=.function,names:=[],isGenerator:=false,isCoroutine:=false }
abbrev B9:V0:=λ_ _ _ _ _ _=>False
abbrev E0:XK:=λ_ _ _=>False
theorem Xe{X:Cx}:Qy B9 X E0:=λ_ _ _ _ _ _ _ h=>h.elim
structure Fun (K:Frag) (x qual:Str) (st:df) (f:Ch) (fd:eI):Prop where
 ex:∃(oc:Ev) (od:Option Ch) (kV doc pm:Ev) (an:Option Ch) (cdv ct:Ev) (osl:Array (Option Ev)),
  fd=fnOf x qual (ED st) (CP st) (AQ st) .none kV doc pm an cdv ct/\K.lookup f=some ⟨oc,od,.func fd,osl⟩/\codeIn K cdv qual=true
 kp:keepIn K (.ref f)=true
section
variable {P:Program}{w:World}{K:Frag}{mg:Str->Option Value}{base:Heap}
theorem Fun.ok{x qual:Str}{st:df}{f:Ch}{fd:eI}{N ps:List Str}{k:Nat}{sp:Sp}(F:Fun K x qual st f fd)(S:Ae N ps (AQ st))(len:∀vs H Q E,sp vs H Q E->vs.length=ps.length)
  (hbody:∀(cdv:Ev) (A:eC) (outer:List Env) (s:Op) (H:Hp) (vs:List V) (Q:VK) (E:XK),Room k (A.deeper (envOfC qual (AQ st) s.heap.objs.size f cdv))->sp vs H Q E ->
   ∃t,PSs (ME B9 P w K mg base N qual (AQ st) f cdv A outer s H E).nox (CP st) t/\t { nx:=λ_ H'=>Q .non H',rt:=Q } (start N vs) H):A8 P w K mg base B9 (k+1) f fd ps sp:=by
 obtain⟨oc,od,kV,doc,pm,an,cdv,ct,osl,rfl,lk,hcd⟩:=F.ex;refine aX lk hcd S len λA outer s H vs Q E hr hsp=>?_;obtain⟨t,h,q⟩:=hbody cdv A outer s H vs Q E hr hsp;exact⟨t,h.nox,q⟩
theorem Fun.binds{x qual:Str}{st:df}{f:Ch}{fd:eI}{ps:List Str}(F:Fun K x qual st f fd)
  (h:∀(kV doc pm:Ev) (an:Option Ch) (cdv ct:Ev) (us:List Ev),us.length=ps.length->bindArgs (fnOf x qual (ED st) (CP st) (AQ st) .none kV doc pm an cdv ct) ⟨us,[]⟩=pure (ps.zip us)):Binds K fd ps []:=by
 obtain⟨oc,od,kV,doc,pm,an,cdv,ct,osl,rfl,lk,hcd⟩:=F.ex;exact .all (h kV doc pm an cdv ct)
theorem VO{x qual:Str}{st:df}{f:Ch}{oc:Ev}{od an:Option Ch}{osl:Array (Option Ev)}{kV doc pm cdv ct:Ev}(l:K.lookup f=some ⟨oc,od,.func (fnOf x qual (ED st) (CP st) (AQ st) .none kV doc pm an cdv ct),osl⟩)
  (c:codeIn K cdv qual=true) (k:keepIn K (.ref f)=true):Fun K x qual st f (fnOf x qual (ED st) (CP st) (AQ st) .none kV doc pm an cdv ct):=⟨⟨oc,od,kV,doc,pm,an,cdv,ct,osl,rfl,l,c⟩,k⟩
end
theorem LB{A:eC}{k:Nat}(hr:Room k A):A.units+1<cLine:=Nat.lt_of_le_of_lt (Nat.add_le_add_left (by decide:1<=64) _) hr.units
section
variable {X:Cx}
theorem pv(i:Nat){x:Str}{pos:Pos}(hN:X.N[i]?=some x:=by rfl)(hv:ZV X.env.scope x:=by first | exact Uf rfl | exact fH (Uf rfl) | exact fH (fH rfl))(hd:(x==("__debug__":Str))=false:=by decide)
  (hcd:(x==("__classdict__":Str))=false:=by decide):PE X (.Name x pos) (CG i):=Nb hN hv hd hcd
end
theorem BV{A B:Prop}(h:B):if false=true then A else B:=by
 rw [if_neg dH];exact h
theorem B3{A B:Prop}(h:A):if true=true then A else B:=by
 rw [if_pos rfl];exact h
theorem D6{c A B:Prop}[Decidable c](h1:c->A)(h2:¬c->B):if c then A else B:=by
 by_cases h:c
 ·rw [if_pos h]
  exact h1 h
 ·rw [if_neg h]
  exact h2 h
section
variable {κ:Type}[DecidableEq κ]
def DQ(kvs:List (κ×V))(k:κ):Option V:=(kvs.find? λkv=>decide (kv.1=k)).map (·.2)
def putK(kvs:List (κ×V))(k:κ)(v:V):List (κ×V) :=
 if (kvs.any λkv=>decide (kv.1=k))=true then kvs.map (λkv=>if kv.1=k then (kv.1,v) else kv) else kvs++[(k,v)]
theorem FP{p:κ×V}{r:List (κ×V)}{k:κ}(e:p.1=k):DQ (p::r) k=some p.2:=by simp [DQ,gS,e]
theorem FQ{p:κ×V}{r:List (κ×V)}{k:κ}(e:¬p.1=k):DQ (p::r) k=DQ r k:=by simp [DQ,gS,e]
theorem OV(k:κ):∀kvs:List (κ×V),(kvs.any λkv=>decide (kv.1=k))=(DQ kvs k).isSome
 | []=>rfl
 | p::r=>by
  rw [jF]
  by_cases e:p.1=k
  ·simp only [FP e,decide_eq_true e,Bool.true_or,Option.isSome_some]
  ·rw [FQ e,decide_eq_false e,Bool.false_or]; exact OV k r
theorem Fc(kvs:List (κ×V))(k:κ)(v:V):(putK kvs k v).length<=kvs.length+1:=by
 unfold putK
 split
 ·rw [Go]; omega
 ·rw [c9,c6,e6]; omega
theorem RelO.isSome_eq{o:Option V}{u:Option Ev}(r:RelO o u):o.isSome=u.isSome:=by
 cases o with
 | none=>cases u with
  | none=>rfl
  | some _=>exact(show False from r).elim
 | some _=>cases u with
  | none=>exact(show False from r).elim
  | some _=>rfl
theorem RelO.getD{o:Option V}{u:Option Ev}{d:V}{d':Ev}(r:RelO o u)(rd:RelV d d'):RelV (o.getD d) (u.getD d'):=by
 cases o with
 | none=>cases u with
  | none=>exact rd
  | some _=>exact(show False from r).elim
 | some _=>cases u with
  | none=>exact(show False from r).elim
  | some _=>exact r
theorem KV.val{kvs:List (κ×V)}{vs:List (κ×Ev)}(r:KV kvs vs)(k:κ):RelO (DQ kvs k) (valueAt vs k):=by
 unfold KV at r
 induction r with
 | nil=>exact fu
 | @cons p q ps qs h t ih =>
  obtain⟨h1,h2⟩:=h
  by_cases e:p.1=k
  ·have e':q.1=k:=h1.symm.trans e
   have b:valueAt (q::qs) k=some q.2:=by simp [valueAt,gS,e']
   rw [FP e,b]; exact h2
  ·have e':¬q.1=k:=λz=>e (h1.trans z)
   have b:valueAt (q::qs) k=valueAt qs k:=by simp [valueAt,gS,e']
   rw [FQ e,b]; exact ih
theorem KV.any{kvs:List (κ×V)}{vs:List (κ×Ev)}(r:KV kvs vs)(k:κ):(kvs.any λkv=>decide (kv.1=k))=vs.any λkv=>decide (kv.1=k):=by
 unfold KV at r
 induction r with
 | nil=>rfl
 | cons h t ih=>rw [jF,jF,ih,h.1]
theorem KV.repl{kvs:List (κ×V)}{vs:List (κ×Ev)}(r:KV kvs vs)(k:κ){y:V}{u:Ev}(ry:RelV y u) :
  KV (kvs.map λkv=>if kv.1=k then (kv.1,y) else kv) (vs.map λkv=>if kv.1=k then (kv.1,u) else kv):=by
 unfold KV at r ⊢
 induction r with
 | nil=>exact .nil
 | @cons p q ps qs h t ih =>
  rw [dA,dA];refine .cons ?_ ih;obtain⟨h1,h2⟩:=h
  by_cases e:p.1=k
  ·rw [if_pos e,if_pos (h1.symm.trans e)]; exact⟨h1,ry⟩
  ·rw [if_neg e,if_neg (λz=>e (h1.trans z))]; exact⟨h1,h2⟩
theorem KV.put{kvs:List (κ×V)}{vs:List (κ×Ev)}(r:KV kvs vs)(k:κ){y:V}{u:Ev}(ry:RelV y u):KV (putK kvs k y) (stored vs k u):=by
 unfold putK stored;rw [r.any k]
 by_cases e:(vs.any λkv=>decide (kv.1=k))=true
 ·rw [if_pos e,if_pos e]; exact r.repl k ry
 ·rw [if_neg e,if_neg e]; exact Paired.snoc r ⟨rfl,ry⟩
theorem KV.keys{kvs:List (κ×V)}{vs:List (κ×Ev)}(r:KV kvs vs):kvs.map (·.1)=vs.map (·.1):=by
 unfold KV at r
 induction r with
 | nil=>rfl
 | cons h t ih=>rw [dA,dA,ih,h.1]
theorem KV.length{kvs:List (κ×V)}{vs:List (κ×Ev)}(r:KV kvs vs):kvs.length=vs.length:=Paired.length r
end
theorem Hc{P:dZ}{w:dh}{k:Key}{u:Ev}(r:RelV (kV k) u):(BE P w).is k u=true:=by
 cases k with
 | inl i=>obtain⟨t,e⟩:=(show ∃t,u=kG i t from r); subst e; exact PH P w i t
 | inr x=>obtain⟨t,e⟩:=(show ∃t,u=kH x t from r); subst e; exact PF P w x t
theorem MY{P:dZ}{w:dh}:∀{ks:List Key} {us:List Ev},Vals (ks.map kV) us->ItemsAre (BE P w) ks us
 | [],_,r=>by rw [gf] at r; cases r; exact .nil
 | k::ks,_,r=>by
  rw [dA] at r;cases r with
  | cons h t=>exact .cons (Hc h) (MY t)
abbrev KT(H:Hp):List (List Key×V)->List (List Key×Ch×Ev)->Prop:=Paired λp q=>p.1=q.1/\H q.2.1=some (.tup (p.1.map kV))/\RelV p.2 q.2.2
theorem KT.val{H:Hp}{kvs:List (List Key×V)}{xs:List (List Key×Ch×Ev)}(r:KT H kvs xs)(k:List Key):RelO (DQ kvs k) ((atKey xs k).map (·.2)):=by
 induction r with
 | nil=>exact fu
 | @cons p q ps qs h t ih =>
  obtain⟨h1,_,h2⟩:=h
  by_cases e:p.1=k
  ·have e':q.1=k:=h1.symm.trans e
   have b:atKey (q::qs) k=some q.2:=by simp [atKey,gS,e']
   rw [FP e,b]; exact h2
  ·have e':¬q.1=k:=λz=>e (h1.trans z)
   have b:atKey (q::qs) k=atKey qs k:=by simp [atKey,gS,e']
   rw [FQ e,b]; exact ih
theorem KT.repl{H:Hp}{kvs:List (List Key×V)}{xs:List (List Key×Ch×Ev)}(r:KT H kvs xs)(k:List Key){y:V}{u:Ev}(ry:RelV y u) :
  KT H (kvs.map λkv=>if kv.1=k then (kv.1,y) else kv) (xs.map (putAt k u)):=by
 induction r with
 | nil=>exact .nil
 | @cons p q ps qs h t ih =>
  rw [dA,dA];refine .cons ?_ ih;obtain⟨h1,h2,h3⟩:=h;unfold putAt
  by_cases e:p.1=k
  ·rw [if_pos e,if_pos (h1.symm.trans e)]; exact⟨h1,h2,ry⟩
  ·rw [if_neg e,if_neg (λz=>e (h1.trans z))]; exact⟨h1,h2,h3⟩
theorem KT.put{H:Hp}{kvs:List (List Key×V)}{xs:List (List Key×Ch×Ev)}(r:KT H kvs xs)(k:List Key){b:Ch}{y:V}{u:Ev}(hb:H b=some (.tup (k.map kV)))(ry:RelV y u) :
  KT H (putK kvs k y) (storedH xs k b u):=by
 have e:(kvs.any λkv=>decide (kv.1=k))=(atKey xs k).isSome:=by
  rw [OV,(r.val k).isSome_eq,jO]
 unfold putK storedH;rw [e]
 by_cases q:(atKey xs k).isSome=true
 ·rw [if_pos q,if_pos q]; exact r.repl k ry
 ·rw [if_neg q,if_neg q]; exact Paired.snoc r ⟨rfl,hb,ry⟩
theorem KT.keeps{H H':Hp}{kvs:List (List Key×V)}{xs:List (List Key×Ch×Ev)}(r:KT H kvs xs)(ht:∀b ys,H b=some (.tup ys)->H' b=some (.tup ys)):KT H' kvs xs :=
 Paired.mapP r λ_ _ z=>⟨z.1,ht _ _ z.2.1,z.2.2⟩
section
variable {P:Program}{w:World}{H:Hp}{h:Heap}{a:Addr}
theorem XM{u:HO}(ok:HOk P w H h)(e:Rd H a u):ObjOk P w H h a u:=e.ok ok
theorem Hm{kvs:List (Key×V)}(ok:HOk P w H h)(e:Rd H a (.dK kvs)):kvs.length<=sizeLine/\(a==sysModules)=false/\∃vs,KV kvs vs/\h.DictOf (BE P w) a vs :=
 show ObjOk P w H h a (.dK kvs) from XM ok e
theorem Xn{kvs:List (Key×V)}(ok:HOk P w H h)(e:H a=some (.dK kvs)):kvs.length<=sizeLine/\(a==sysModules)=false/\∃vs,KV kvs vs/\h.DictOf (BE P w) a vs:=Hm ok (.inl e)
theorem G2{ks:List Key}(ok:HOk P w H h)(e:H a=some (.tup (ks.map kV))):(tupleKind (BE P w)).is h ks a:=by
 obtain⟨_,its,r,o,h1,h2,n,h3,_⟩:=(show ObjOk P w H h a (.tup (ks.map kV)) from ok a _ e);exact⟨o,its.toArray,n,h1,h2,h3,by simpa using MY r⟩
theorem JE{kvs:List (List Key×V)}(ok:HOk P w H h)(e:Rd H a (.dT kvs)):kvs.length<=sizeLine/\(a==sysModules)=false /\
  ∃xs,KT H kvs xs/\h.DictOfH (tupleKind (BE P w)) a xs:=by
 obtain⟨z,y,xs,r,o,es,ep,h1,h2,h3,h4,h5⟩:=(show ObjOk P w H h a (.dT kvs) from XM ok e);refine⟨z,y,xs,r,o,es,ep,h1,h2,h3,h4,λx hx=>?_,h5⟩
 have all:∀{l:List (List Key×V)} {m:List (List Key×Ch×Ev)},KT H l m->∀x∈m,(tupleKind (BE P w)).is h x.1 x.2.1:=by
  intro l m q
  induction q with
  | nil=>intro x hx; exact nomatch hx
  | @cons p q ps qs hq t ih =>
   intro x hx
   rcases T0.mp hx with e | hx
   ·subst e
    exact G2 ok (by rw [← hq.1]; exact hq.2.1)
   ·exact ih x hx
 exact all r x hx
theorem aj{kvs:List (List Key×V)}(ok:HOk P w H h)(e:H a=some (.dT kvs)):kvs.length<=sizeLine/\(a==sysModules)=false /\
  ∃xs,KT H kvs xs/\h.DictOfH (tupleKind (BE P w)) a xs:=JE ok (.inl e)
end
def DGet(H:Hp)(a:Ch)(y:V)(r:Option V):Prop :=
 (∃kvs k,Rd H a (.dK kvs)/\y=kV k/\r=DQ kvs k)\/∃kvs k b,Rd H a (.dT kvs)/\y=.ref b/\H b=some (.tup (k.map kV))/\r=DQ kvs k
def DPut(H:Hp)(a:Ch)(y v:V)(H':Hp):Prop :=
 (∃kvs k,H a=some (.dK kvs)/\y=kV k/\kvs.length<sizeLine/\H'=BK H a (.dK (putK kvs k v))) \/
 ∃kvs k b,H a=some (.dT kvs)/\y=.ref b/\H b=some (.tup (k.map kV))/\kvs.length<sizeLine/\H'=BK H a (.dT (putK kvs k v))
theorem DGet.k{H:Hp}{a:Ch}{kvs:List (Key×V)}{k:Key}(e:H a=some (.dK kvs)):DGet H a (kV k) (DQ kvs k):=.inl ⟨kvs,k,.inl e,rfl,rfl⟩
theorem DPut.k{H:Hp}{a:Ch}{kvs:List (Key×V)}{k:Key}{v:V}(e:H a=some (.dK kvs))(hl:kvs.length<sizeLine):DPut H a (kV k) v (BK H a (.dK (putK kvs k v))):=.inl ⟨kvs,k,e,rfl,hl,rfl⟩
section
variable {X:Cx}{zG:List (Addr×Obj)}{Z:St}{H:Hp}{s:Shared}{a:Addr}{y v:V}{u r:Value}{o:Option V}{A:Around}{E:Value->Shared->Prop}
theorem Inv.big(I:Inv X zG Z H s):sysModules<s.heap.objs.size:=by
 have h:mainGlobals<s.heap.objs.size:=(I.mod.glob.keeps I.bk).lt;exact ja (by decide) h
theorem Th{Q:Ev->Op->Prop}(hu:A.units+1<cLine)(I:Inv X zG Z H s)(g:DGet H a y (some v))(ry:RelV y u)(h:∀w' s',Inv X zG Z H s'->RelV v w'->Q w' s') :
  wpAny (model X.prog X.w) A (getItem (.ref a) u) Q E s:=by
 rcases g with ⟨kvs,k,e,ey,l⟩ | ⟨kvs,k,b,e,ey,eb,l⟩
 ·subst ey
  obtain⟨z,hd,vs,rel,dd⟩:=Hm I.hok e;obtain⟨w',hw,rw'⟩:=RelO.some_of (v:=v) (o:=valueAt vs k) (by rw [l]; exact rel.val k);exact wpAny_getItem_of (Hc ry) dd.mapOf hw (h w' _ (I.tok _) rw')
 ·subst ey
  cases (show u=dn b from ry);obtain⟨z,hd,xs,rel,dd⟩:=JE I.hok e;obtain⟨w',hw,rw'⟩:=RelO.some_of (v:=v) (o:=(atKey xs k).map (·.2)) (by rw [l]; exact rel.val k);obtain⟨p,hp,hp2⟩:=d6.mp hw;refine wpAny_getItem_heap (fz hu) (G2 I.hok eb) dd hp ?_;rw [hp2];exact h w' _ (I.tok _) rw'
theorem b_{Q:Ev->Op->Prop}(hu:A.units+1<cLine)(I:Inv X zG Z H s)(g:DGet H a y o)(ry:RelV y u)(h:∀s',Inv X zG Z H s'->Q (.bool o.isSome) s') :
  wpAny (model X.prog X.w) A (compareOp .In u (.ref a)) Q E s:=by
 rcases g with ⟨kvs,k,e,ey,l⟩ | ⟨kvs,k,b,e,ey,eb,l⟩
 ·subst ey
  obtain⟨z,hd,vs,rel,dd⟩:=Hm I.hok e;refine wpAny_in_of (Hc ry) hd dd.mapOf ?_;rw [← (rel.val k).isSome_eq,← l];exact h _ (I.tok _)
 ·subst ey
  cases (show u=dn b from ry);obtain⟨z,hd,xs,rel,dd⟩:=JE I.hok e;refine wpAny_in_heap (fz hu) (G2 I.hok eb) hd dd ?_;have q:=(rel.val k).isSome_eq;rw [jO] at q;rw [← q,← l];exact h _ (I.tok _)
theorem W9{Q:Ev->Op->Prop}(hu:A.units+1<cLine)(I:Inv X zG Z H s)(g:DGet H a y o)(ry:RelV y u)(h:∀s',Inv X zG Z H s'->Q (.bool (!o.isSome)) s') :
  wpAny (model X.prog X.w) A (compareOp .NotIn u (.ref a)) Q E s:=by
 rcases g with ⟨kvs,k,e,ey,l⟩ | ⟨kvs,k,b,e,ey,eb,l⟩
 ·subst ey
  obtain⟨z,hd,vs,rel,dd⟩:=Hm I.hok e;refine wpAny_notIn_of (Hc ry) hd dd.mapOf ?_;rw [← (rel.val k).isSome_eq,← l];exact h _ (I.tok _)
 ·subst ey
  cases (show u=dn b from ry);obtain⟨z,hd,xs,rel,dd⟩:=JE I.hok e;refine wpAny_notIn_heap (fz hu) (G2 I.hok eb) hd dd ?_;have q:=(rel.val k).isSome_eq;rw [jO] at q;rw [← q,← l];exact h _ (I.tok _)
theorem N_{h':dL}{t':Nat}{ob:HO}(I:Inv X zG Z H s)(mu:bA (H a))(hs:g8 a s.heap h')(he:∃q,h'.get? a=some q)(new:ObjOk X.prog X.w (BK H a ob) h' a ob) :
  Inv X zG Z (BK H a ob) { s with heap:=h',toks:=t' } :=
 I.write (x:=a) (e:=a) mu (.inl rfl) (λb q hb z=>(hs.2 b hb).trans z) he new
theorem Ql{P:dZ}{w:dh}{H':Hp}{h':dL}{kvs:List (Key×V)}{vs:List (Key×Ev)}(z:kvs.length<=sizeLine)(hd:(a==sysModules)=false)(rel:KV kvs vs)(dd:h'.DictOf (BE P w) a vs) :
  ObjOk P w H' h' a (.dK kvs):=⟨z,hd,vs,rel,dd⟩
theorem Tg{H':Hp}{Q:Unit->Op->Prop}(hu:A.units+1<cLine)(I:Inv X zG Z H s)(g:DPut H a y v H')(ry:RelV y u)(rv:RelV v r)(h:∀s',Inv X zG Z H' s'->Q () s') :
  wpAny (model X.prog X.w) A (setItem (.ref a) u r) Q E s:=by
 rcases g with ⟨kvs,k,e,ey,l,eH⟩ | ⟨kvs,k,b,e,ey,eb,l,eH⟩
 ·subst ey eH
  obtain⟨z,hd,vs,rel,dd⟩:=Xn I.hok e;have hz:vs.length<=sizeLine:=by rw [← rel.length]; exact z
  have hl:(putK kvs k v).length<=sizeLine:=by have:=Fc kvs k v; omega
  refine wpAny_setItem_pairs (hsz:=hz) (Hc ry) dd λh' dd' hs=>h _ ?_;have he:∃q,h'.get? a=some q:=let ⟨q,_,_,hq,_⟩:=dd'; ⟨q,hq⟩
  exact N_ I (by rw [e]; exact fu) hs he (Ql hl hd (rel.put k rv) dd')
 ·subst ey eH
  cases (show u=dn b from ry);obtain⟨z,hd,xs,rel,dd⟩:=aj I.hok e;have hz:xs.length<=sizeLine:=by rw [← Paired.length rel]; exact z
  have hl:(putK kvs k v).length<=sizeLine:=by have:=Fc kvs k v; omega
  refine wpAny_setItem_heap (hsz:=hz) (fz hu) (G2 I.hok eb) dd λh' dd' hs=>h _ ?_;obtain⟨q,es,ep,hq,h2,h3,h4,_,h5⟩:=dd';refine N_ I (by rw [e]; exact fu) hs ⟨q,hq⟩ ⟨hl,hd,_,(rel.put k eb rv).keeps λc ys ec=>?_,q,es,ep,hq,h2,h3,h4,h5⟩;rw [Aa (aQ ec e (λz=>nomatch z))];exact ec
end
def Za(i:dO):Prop:=∀ov iv,subscripted i false ov iv=operate [ov,iv] (getItem ov iv)
theorem WE{prog:dZ}{w:dh}{A:eC}{E:Ev->Op->Prop}{s:Op}{env:Env}{value slice:dO}{pos:Pos}{T id:String}{Q:Ev->Op->Prop}
  (hl:typeLookup (.type T) "__getitem__"=pure (some (.builtin id))) (hs:Za slice)
  (h:wpAny (model prog w) A (eval value env) (λo s₁=>wpAny (model prog w) A (eval slice env) (λi s₂=>s₂.TypeIs o T/\wpAny (model prog w) A (getItem o i) Q E s₂) E s₁) E s) :
  wpAny (model prog w) A (eval (.Subscript value slice pos) env) Q E s:=by
 refine Subscript_ (eU h (λo s₁ h₁=>eU h₁ (λi s₂ h₂=>?_) λ_ _ x=>x) λ_ _ x=>x);obtain⟨hT,h₂⟩:=h₂;unfold subscriptTail;refine Db ?_;rw [getitemInPython_of_ne hT.not_modules];refine Db (jn hT hl ?_)
 have fin:wpAny (model prog w) A (subscripted slice false o i) (λr s₃=>wpAny (model prog w) A (letTemporaryGo value o r >>= λ_=>pure r) Q E s₃) E s₂:=by
  rw [hs o i];exact wpAny_operating (eU h₂ (λr s₃ h₃=>Db (wpAny_letTemporaryGo (TW h₃))) λ_ _ x=>x)
 first
  | exact TW (Db fin)
  | exact Db (TW (Db fin))
  | exact Db fin
theorem Ph{X:Cx}{zG:List (Ch×Obj)}{Z:St}{H:Hp}{s:Op}{a:Ch}{y:V}{o:Option V}(I:Inv X zG Z H s)(g:DGet H a y o):s.TypeIs (.ref a) "dict":=by
 rcases g with ⟨kvs,k,e,_,_⟩ | ⟨kvs,k,b,e,_,_,_⟩
 ·obtain⟨_,_,vs,_,dd⟩:=Hm I.hok e
  exact dd.typeIs
 ·obtain⟨_,_,xs,_,dd⟩:=JE I.hok e
  exact dd.typeIs
def Z0(td ty:TE):TE:=λZ H Q=>td Z H λx H1=>ty Z H1 λy H2=>∃a v,x=.ref a/\DGet H2 a y (some v)/\Q v H2
def Z4(td ty tv:TE):TS:=λD Z H=>tv Z H λv H1=>td Z H1 λx H2=>ty Z H2 λy H3=>∃a H4,x=.ref a/\DPut H3 a y v H4/\D.nx Z H4
section
variable {X:Cx}{o i value:Expr}{pos pos':Pos}{td ty tv:TE}
theorem Nc(hu:X.A.units+1<cLine)(ho:PE X o td)(hi:PE X i ty)(hs:Za i):PE X (.Subscript o i pos) (Z0 td ty):=by
 intro zG s Z H Q I h;refine WE PySem.F.slot_dict_getitem.lookup hs (thn (ho zG s Z H _ I h) λu s1 ⟨x,H1,I1,rx,q1⟩=>thn (hi zG s1 Z H1 _ I1 q1) λiv s2 ⟨y,H2,I2,ry,a,v,ex,g,q2⟩=>?_);subst ex;obtain rfl:u=dn a:=rx;exact⟨Ph I2 g,Th hu I2 g ry λw' s3 I3 rw'=>⟨v,H2,I3,rw',q2⟩⟩
theorem Jr(hu:X.A.units+1<cLine)(ho:PE X o td)(hi:PE X i ty)(hv:PE X value tv)(hs:swapsWith value (some (.Subscript o i pos')) pos.line X.env=pure false) :
  PS X (.Assign [.Subscript o i pos'] value pos) (Z4 td ty tv):=by
 intro zG s Z H D I h;refine wpAny_Assign_Subscript (thn (hv zG s Z H _ I h) λr s1 ⟨v,H1,I1,rv,q1⟩=>thn (ho zG s1 Z H1 _ I1 q1) λu s2 ⟨x,H2,I2,rx,q2⟩=>thn (hi zG s2 Z H2 _ I2 q2) λiv s3 ⟨y,H3,I3,ry,a,H4,ex,g,q3⟩=>?_) hs;subst ex;obtain rfl:u=dn a:=rx;exact Tg hu I3 g ry rv λs4 I4=>⟨Z,H4,I4,q3⟩
end
theorem Pg{P:dZ}{w:dh}{H:Hp}(h:dL)(hb:sysModules<h.objs.size):ObjOk P w H (h.push { cls:=.type "dict",data:=.dict #[] }) h.objs.size (.dK []) :=
 ⟨dD _,beq_eq_false_iff_ne.mpr (eW (dJ hb)),[],.nil,Heap.DictOf.new h⟩
def YD:TE:=λ_ H Q=>∀p,H p=none->Q (.ref p) (BK H p (.dK []))
section
variable {X:Cx}{pos:Pos}
theorem O2:PE X (.Dict [] [] pos) YD:=λzG s Z H Q I h =>
 wpAny_Dict_empty ⟨.ref s.heap.objs.size,_,I.laid (a:=s.heap.objs.size) (o:=.dK []) (t':=s.toks) (λ_ _ q=>No _ q) (Sc _) (Pg s.heap I.big),rfl,h _ (I.hok.fresh (Sc _))⟩
end
def P7:List (TE×TE)->St->Hp->(List (V×V)->Hp->Prop)->Prop
 | [],_,H,Q=>Q [] H
 | (tk,tv)::r,Z,H,Q=>tk Z H λx H1=>tv Z H1 λy H2=>P7 r Z H2 λps H3=>Q ((x,y)::ps) H3
abbrev VV:List (V×V)->List (Ev×Ev)->Prop:=Paired λp q=>RelV p.1 q.1/\RelV p.2 q.2
def bN(X:Cx)(pos:Pos)(keys:List (Option dO))(values:List dO)(trs:List (TE×TE)):Prop :=
 ∀(zG:List (Ch×Obj)) (s:Op) (Z:St) (H:Hp) (Q:List (V×V)->Hp->Prop),Inv X zG Z H s->P7 trs Z H Q ->
  wpAny (model X.prog X.w) X.A (evalPairs (pairTrees keys values X.env pos)) (λvs s'=>∃ps H',Inv X zG Z H' s'/\VV ps vs/\Q ps H') X.xe s
theorem WL{X:Cx}{pos:Pos}:bN X pos [] [] []:=λzG s Z H Q I h=>pairTrees_nil_walk ⟨[],H,I,.nil,h⟩
theorem Uk{X:Cx}{pos:Pos}{k v:dO}{ks:List (Option dO)}{vs:List dO}{tk tv:TE}{trs:List (TE×TE)}(hk:PE X k tk)(hv:PE X v tv)(hr:bN X pos ks vs trs) :
  bN X pos (some k::ks) (v::vs) ((tk,tv)::trs):=λzG s Z H Q I h =>
 pairTrees_cons_walk (thn (hk zG s Z H _ I h) λu s1 ⟨x,H1,I1,rx,q1⟩=>thn (hv zG s1 Z H1 _ I1 q1) λw2 s2 ⟨y,H2,I2,ry,q2⟩ =>
  thn (hr zG s2 Z H2 _ I2 q2) λws s3 ⟨ps,H3,I3,rel,q3⟩=>⟨(x,y)::ps,H3,I3,.cons ⟨rx,ry⟩ rel,q3⟩)
def K5(kvs more:List (Key×V)):List (Key×V):=more.foldl (λacc kv=>putK acc kv.1 kv.2) kvs
theorem KV.merge:∀{more:List (Key×V)} {rs:List (Key×Ev)} {kvs:List (Key×V)} {vs:List (Key×Ev)},KV more rs->KV kvs vs->KV (K5 kvs more) (merged vs rs):=by
 intro more rs kvs vs r;unfold KV at r
 induction r generalizing kvs vs with
 | nil=>intro q; exact q
 | @cons p q ps qs h t ih =>
  intro r0
  have e:KV (putK kvs p.1 p.2) (stored vs q.1 q.2):=by
   have:=r0.put p.1 h.2
   rw [← h.1]; exact this
  exact ih e
theorem GW:∀(more kvs:List (Key×V)),(K5 kvs more).length<=kvs.length+more.length
 | [],kvs=>by show kvs.length<=kvs.length+0; omega
 | p::r,kvs=>by
  have h1:=GW r (putK kvs p.1 p.2);have h2:=Fc kvs p.1 p.2;show (K5 (putK kvs p.1 p.2) r).length<=_;rw [c6]; omega
theorem LU{P:dZ}{w:dh}:∀{kvs:List (Key×V)} {ws:List (Ev×Ev)},VV (kvs.map λkv=>(kV kv.1,kv.2)) ws->∃rs,Carries (BE P w) ws rs/\KV kvs rs
 | [],_,r=>by rw [gf] at r; cases r; exact⟨[],fu,.nil⟩
 | p::kvs,_,r=>by
  rw [dA] at r;cases r with
  | @cons a b as bs h t =>
   obtain⟨rs,c,q⟩:=LU (P:=P) (w:=w) t;obtain⟨b1,b2⟩:=b;exact⟨(p.1,b2)::rs,⟨Hc h.1,rfl,c⟩,.cons ⟨rfl,h.2⟩ q⟩
def Zz(trs:List (TE×TE)):TE:=λZ H Q=>∀p,H p=none->P7 trs Z (BK H p (.dK [])) λps H2=>H2 p=some (.dK [])/\∃kvs:List (Key×V),ps=kvs.map (λkv=>(kV kv.1,kv.2))/\kvs.length<=15/\Q (.ref p) (BK H2 p (.dK (K5 [] kvs)))
theorem WP{X:Cx}{pos:Pos}{keys:List (Option dO)}{values:List dO}{trs:List (TE×TE)}(h:bN X pos keys values trs)(hall:keys.all (·.isSome)=true)(hl:keys.length=values.length)(h0:keys≠[])
  (h15:keys.length<=15):PE X (.Dict keys values pos) (Zz trs):=by
 intro zG s Z H Q I q;have hn:=I.hok.fresh (Sc s.heap.objs.size);have I1:=I.laid (a:=s.heap.objs.size) (o:=.dK []) (h':=s.heap.push { cls:=.type "dict",data:=.dict #[] }) (t':=s.toks) (λ_ _ q=>No _ q) (Sc _) (Pg s.heap I.big);refine wpAny_Dict_walk (knd:=BE X.prog X.w) hall hl h0 h15 (thn (h zG _ Z _ _ I1 (q _ hn)) λws s2 ⟨ps,H2,I2,rel,e,kvs,ep,lk,q2⟩=>?_);subst ep;obtain⟨rs,c,rk⟩:=LU (P:=X.prog) (w:=X.w) rel;obtain⟨z,hd,vs0,r0,dd⟩:=Xn I2.hok e;cases r0;refine⟨rs,c,dd,λh' dd' hs=>⟨.ref s.heap.objs.size,_,?_,rfl,q2⟩⟩
 have hz:(K5 [] kvs).length<=sizeLine:=by
  have h1:=GW kvs [];rw [e6] at h1;rw [d7]; omega
 have he:∃q,h'.get? s.heap.objs.size=some q:=let ⟨q,_,_,hq,_⟩:=dd'; ⟨q,hq⟩
 exact N_ I2 (by rw [e]; exact fu) hs he (Ql hz hd (rk.merge .nil) dd')
structure M1 (X:Cx) (o:dO) (m:Str) (apos:Pos) (e:dO) (cpos:Pos):Prop where
 base:attributeBase o m X.env (eval o X.env)=eval o X.env
 few:((backTo cpos (starEach [e] X.env)).all (λx=>!x.1)&&(backToKw cpos (keywordEach [] X.env)).all (λx=>x.1.isSome)
  && decide (([e]:List dO).length+([]:List gK).length+(if ([]:List gK).isEmpty then 0 else 1)<30))=true
 line:(apos.endLine==cpos.line)=true
 trees:backTo cpos (starEach [e] X.env)=[(false,eval e X.env)]
structure M2 (X:Cx) (o:dO) (m:Str) (apos:Pos) (e f:dO) (cpos:Pos):Prop where
 base:attributeBase o m X.env (eval o X.env)=eval o X.env
 few:((backTo cpos (starEach [e,f] X.env)).all (λx=>!x.1)&&(backToKw cpos (keywordEach [] X.env)).all (λx=>x.1.isSome)
  && decide (([e,f]:List dO).length+([]:List gK).length+(if ([]:List gK).isEmpty then 0 else 1)<30))=true
 line:(apos.endLine==cpos.line)=true
 trees:backTo cpos (starEach [e,f] X.env)=[(false,eval e X.env),(false,eval f X.env)]
def bO(H:Hp)(a:Ch):Prop:=(∃kvs,Rd H a (.dK kvs))\/∃kvs,Rd H a (.dT kvs)
theorem Qg{X:Cx}{zG:List (Ch×Obj)}{Z:St}{H:Hp}{s:Op}{a:Ch}(I:Inv X zG Z H s)(d:bO H a) :
  s.TypeIs (.ref a) "dict"/\(∀b,dn a=.ref b->∃ob,s.heap.get? b=some ob/\ob.dict=none)/\(a==sysModules)=false:=by
 rcases d with ⟨kvs,e⟩ | ⟨kvs,e⟩
 ·obtain⟨_,hd,vs,_,dd⟩:=Hm I.hok e
  refine⟨dd.typeIs,λb q=>?_,hd⟩;cases q;obtain⟨ob,_,_,h1,h2,_⟩:=dd;exact⟨ob,h1,h2.2.1⟩
 ·obtain⟨_,hd,xs,_,dd⟩:=JE I.hok e
  refine⟨dd.typeIs,λb q=>?_,hd⟩;cases q;obtain⟨ob,_,_,h1,h2,_⟩:=dd;exact⟨ob,h1,h2.2.1⟩
section
variable {X:Cx}{zG:List (Addr×Obj)}{Z:St}{H:Hp}{s:Shared}{a:Addr}{y d:V}{u r:Value}{o:Option V}{A:Around}{E:Value->Shared->Prop}
theorem ZJ{Q:Ev->Op->Prop}(hu:A.units+1<cLine)(I:Inv X zG Z H s)(g:DGet H a y o)(ry:RelV y u)(h:∀w' s',Inv X zG Z H s'->RelV (o.getD .non) w'->Q w' s') :
  wpAny (model X.prog X.w) A (call (.builtin "dict.get") [.ref a,u]) Q E s:=by
 rcases g with ⟨kvs,k,e,ey,l⟩ | ⟨kvs,k,b,e,ey,eb,l⟩
 ·subst ey
  obtain⟨z,hd,vs,rel,dd⟩:=Hm I.hok e;refine iX PySem.F.slot_dict_get dd.typeIs PySem.F.entry_dict_get (PySem.F.args_dict_get_2 _ _) (meets_dict_get (BE X.prog X.w) a (Hc ry) hd) ⟨_,dd.mapOf,h _ _ (I.tok _) ?_⟩;rw [l];exact(rel.val k).getD rfl
 ·subst ey
  cases (show u=dn b from ry);obtain⟨z,hd,xs,rel,dd⟩:=JE I.hok e;refine iX PySem.F.slot_dict_get dd.typeIs PySem.F.entry_dict_get (PySem.F.args_dict_get_2 _ _) (meetsH_dict_get (tupleKind (BE X.prog X.w)) a b hd) ⟨fz hu,k,xs,G2 I.hok eb,dd,h _ _ (I.tok _) ?_⟩;rw [l];exact(rel.val k).getD rfl
theorem ZI{Q:Ev->Op->Prop}(hu:A.units+1<cLine)(I:Inv X zG Z H s)(g:DGet H a y o)(ry:RelV y u)(rd:RelV d r)(h:∀w' s',Inv X zG Z H s'->RelV (o.getD d) w'->Q w' s') :
  wpAny (model X.prog X.w) A (call (.builtin "dict.get") [.ref a,u,r]) Q E s:=by
 rcases g with ⟨kvs,k,e,ey,l⟩ | ⟨kvs,k,b,e,ey,eb,l⟩
 ·subst ey
  obtain⟨z,hd,vs,rel,dd⟩:=Hm I.hok e;refine iX PySem.F.slot_dict_get dd.typeIs PySem.F.entry_dict_get (PySem.F.args_dict_get_3 _ _ _) (meets_dict_get_default (BE X.prog X.w) a (Hc ry) hd r) ⟨_,dd.mapOf,h _ _ (I.tok _) ?_⟩;rw [l];exact(rel.val k).getD rd
 ·subst ey
  cases (show u=dn b from ry);obtain⟨z,hd,xs,rel,dd⟩:=JE I.hok e;refine iX PySem.F.slot_dict_get dd.typeIs PySem.F.entry_dict_get (PySem.F.args_dict_get_3 _ _ _) (meetsH_dict_get_default (tupleKind (BE X.prog X.w)) a b hd r) ⟨fz hu,k,xs,G2 I.hok eb,dd,h _ _ (I.tok _) ?_⟩;rw [l];exact(rel.val k).getD rd
end
def YF(td ty:TE):TE:=λZ H Q=>td Z H λx H1=>∃a,x=.ref a/\bO H1 a/\ty Z H1 λy H2=>∃o,DGet H2 a y o/\Q (o.getD .non) H2
def YE(td ty tx:TE):TE:=λZ H Q=>td Z H λx H1=>∃a,x=.ref a/\bO H1 a/\ty Z H1 λy H2=>tx Z H2 λz H3=>∃o,DGet H3 a y o/\Q (o.getD z) H3
section
variable {X:Cx}{o e f:Expr}{apos cpos:Pos}{td ty tx:TE}
theorem Uv(hu:X.A.units+1<cLine)(ho:PE X o td)(he:PE X e ty)(m:M1 X o "get" apos e cpos):PE X (.Call (.Attribute o "get" apos) [e] [] cpos) (YF td ty):=by
 intro zG s Z H Q I h;refine wpAny_Call_method m.base m.few m.line PySem.F.plainAttrs_dict PySem.F.slot_dict_get PySem.F.type_dict_get (thn (ho zG s Z H _ I h) λu s1 ⟨x,H1,I1,rx,a,ex,d,q1⟩=>?_);subst ex;obtain rfl:u=dn a:=rx;obtain⟨t1,t2,_⟩:=Qg I1 d;refine⟨t1,t2,?_⟩;rw [m.trees];refine fw rfl (gk (fc (thn (he zG s1 Z H1 _ I1 q1) λiv s2 ⟨y,H2,I2,ry,ov,g,q2⟩=>gD ?_)));exact ZJ hu I2 g ry λw' s3 I3 rw'=>⟨_,H2,I3,rw',q2⟩
theorem Uu(hu:X.A.units+1<cLine)(ho:PE X o td)(he:PE X e ty)(hf:PE X f tx)(m:M2 X o "get" apos e f cpos):PE X (.Call (.Attribute o "get" apos) [e,f] [] cpos) (YE td ty tx):=by
 intro zG s Z H Q I h;refine wpAny_Call_method m.base m.few m.line PySem.F.plainAttrs_dict PySem.F.slot_dict_get PySem.F.type_dict_get (thn (ho zG s Z H _ I h) λu s1 ⟨x,H1,I1,rx,a,ex,d,q1⟩=>?_);subst ex;obtain rfl:u=dn a:=rx;obtain⟨t1,t2,_⟩:=Qg I1 d;refine⟨t1,t2,?_⟩;rw [m.trees]
 refine fw rfl (gk (fc (thn (he zG s1 Z H1 _ I1 q1) λiv s2 ⟨y,H2,I2,ry,q2⟩ =>
  fc (thn (hf zG s2 Z H2 _ I2 q2) λfv s3 ⟨z,H3,I3,rz,ov,g,q3⟩=>gD ?_))))
 exact ZI hu I3 g ry rz λw' s4 I4 rw'=>⟨_,H3,I4,rw',q3⟩
end
end L2
set_option maxHeartbeats 4000000
namespace L2
section
theorem Qq{env:Env}:∀(names:List (Str×fi)) (cs:List (Str×Ch)),(∀x,(x,d_)∈names->∃c,env.cells.lookup x=some c)->(∀x c,cs.lookup x=some c->env.cells.lookup x=some c) ->
  ∃cl,(forIn names cs fun(x:Str×fi) (r:List (Str×Ch))=>(if (x.2==d_)=true then do let a ← cellOf env x.1; pure (fj ((x.1,a)::r)) else pure (fj r):Sem (ForInStep (List (Str×Ch)))))=(pure cl:Sem _) /\
   (∀x c,cl.lookup x=some c->env.cells.lookup x=some c)/\(∀x,((x,d_)∈names\/∃c,cs.lookup x=some c)->∃c,cl.lookup x=some c):=by
 intro names
 induction names with
 | nil =>
  intro cs _ h2;exact⟨cs,rfl,h2,λx hx=>hx.elim (λz=>absurd z (by simp)) λz=>z⟩
 | cons p r ih =>
  intro cs h1 h2;obtain⟨n,k⟩:=p
  by_cases hk:k=d_
  ·subst hk
   obtain⟨c,hc⟩:=h1 n On;have hcell:cellOf env n=pure c:=by simp only [cellOf,hc]
   obtain⟨cl,e,a,b⟩:=ih ((n,c)::cs) (λx hx=>h1 x (Rs _ hx)) (λx c' hx=>by
    rw [fo] at hx;cases hb:x==n with
    | true =>
     rw [hb] at hx;have hx':some c=some c':=hx;cases hx'
     have:x=n:=by simpa using hb
     rw [this]; exact hc
    | false=>rw [hb] at hx; exact h2 x c' hx)
   refine⟨cl,?_,a,λx hx=>b x ?_⟩
   ·rw [gy]
    simp only [beq_self_eq_true,if_true,hcell,pure_bind];exact e
   ·by_cases hxn:x=n
    ·subst hxn
     exact .inr ⟨c,by simp [fo]⟩
    ·rcases hx with hx | ⟨c',hx⟩
     ·rcases T0.mp hx with hx | hx
      ·cases hx; exact absurd rfl hxn
      ·exact .inl hx
     ·refine .inr ⟨c',?_⟩
      have:(x==n)=false:=by simpa using hxn
      rw [fo,this];exact hx
  ·have hk':(k==d_)=false:=by simpa using hk
   obtain⟨cl,e,a,b⟩:=ih cs (λx hx=>h1 x (Rs _ hx)) h2;refine⟨cl,?_,a,λx hx=>b x ?_⟩
   ·rw [gy]
    simp only [hk',fg,if_false,pure_bind];exact e
   ·rcases hx with hx | hx
    ·rcases T0.mp hx with hx | hx
     ·cases hx; exact absurd rfl hk
     ·exact .inl hx
    ·exact .inr hx
theorem LS{scope:ft}{env:Env}(h:∀x,(x,d_)∈scope.names->∃c,env.cells.lookup x=some c) :
  ∃cl,closureFor scope env=pure cl/\(∀x c,cl.lookup x=some c->env.cells.lookup x=some c)/\(∀x,(x,d_)∈scope.names->∃c,cl.lookup x=some c):=by
 obtain⟨cl,e,a,b⟩:=Qq scope.names [] h (λx c hx=>by simp at hx);refine⟨cl,?_,a,λx hx=>b x (.inl hx)⟩;simp only [closureFor];rw [e,pure_bind]
variable {prog:Program}{w:World}{A:Around}{R:Result->Shared->Prop}{s:Shared}
theorem OA{elt target iter:dO}{ifs:List dO}{scope:ft}{pos:Pos}{it acc:Ev}{env:Env}(I:Nat->Op->Prop)
  (turn:∀n s,I n s->wpAny (model prog w) A (pyNext it) (λr s₁=>match r with
   | none=>R (.ok .next) s₁
   | some v=>wpAny (model prog w) A (letOwnedTupleGo target it v) (λ_ s₁'=>wpAny (model prog w) A (assign target env v) (λ_ s₂ =>
     wpAny (model prog w) A (forIn ifs true λc r=>if r=true then do let ok ← isTrue c env (eval c env); pure (fj ok) else pure (fj r)) (λok s₃ =>
      if ok=true then wpAny (model prog w) A (eval elt env) (λx s₄ =>
       wpAny (model prog w) A (call (.builtin "list.append") [acc,x]) (λ_ s₅=>∃m,m<n/\I m s₅) (λ_ _=>False) s₄) (λ_ _=>False) s₃
      else ∃m,m<n/\I m s₃) (λ_ _=>False) s₂) (λ_ _=>False) s₁') (λ_ _=>False) s₁) (λ_ _=>False) s)
  (n:Nat) (h:I n s) :
  codeAny (model prog w) A (.compLoop (.ListComp elt [⟨target,iter,ifs,0⟩] scope pos) 0 it acc env) R s:=by
 refine codeAny_loop rfl I (λn s hI=>?_) n h;show wpAny _ A ((compTurn (.ListComp elt [⟨target,iter,ifs,0⟩] scope pos) 0 it acc env).onRaise (λx=>do noteFrame x env; theTreesLotGoes x)) _ _ s;refine wpAny_noted ?_;rw [compTurn_list];refine Db (jC (Db (eU (turn n s hI) (λr s₁ h₁=>?_) λ_ _ h'=>h'.elim)));cases r with
 | none=>exact TW h₁
 | some v =>
  refine Db (eU h₁ (λ_ s₁' h₁'=>?_) λ_ _ h'=>h'.elim);refine Db (eU h₁' (λ_ s₂ h₂=>Db (eU h₂ (λok s₃ h₃=>?_) λ_ _ h'=>h'.elim)) λ_ _ h'=>h'.elim);cases ok with
  | false=>exact TW ⟨rfl,h₃⟩
  | true =>
   exact Db (Db (eU h₃ (λx s₄ h₄=>Db (eU h₄ (λ_ s₅ h₅=>TW (TW ⟨rfl,h₅⟩)) λ_ _ h'=>h'.elim)) λ_ _ h'=>h'.elim))
end
def BD(X:Cx)(sc:ft)(N':List Str)(cl:List (Str×Ch))(C:Ch)(s:Op)(H:Hp)(ex:List Ch):Cx where
 prog:=X.prog
 w:=X.w
 K:=X.K
 mg:=X.mg
 base:=X.base
 A:=X.A
 N:=N'
 s₀:=s
 H₀:=H
 env:=compEnvC sc cl C X.env
 outer:=X.stack
 stack:=X.stack
 ex:=ex
 fn:=λ_=>false
 calm:=true
 pn:=[]
 xe:=λ_ _=>False
def Cv(js:List (Option Nat))(Z:St):St:=js.map λo=>match o with
 | some i=>(Z[i]?).getD none
 | none=>none
def Wi(o:Option fi):Bool:=match o with
 | some .cell=>true
 | some .free=>true
 | _=>false
theorem RY{o:Option fi}(h:Wi o=true):o=some .cell\/o=some .free:=by
 unfold Wi at h
 split at h
 ·exact .inl rfl
 ·exact .inr rfl
 ·cases h
def isFree(o:Option fi):Bool:=match o with
 | some .free=>true
 | _=>false
theorem TU{o:Option fi}(h:isFree o=true):o=some .free:=by
 unfold isFree at h
 split at h
 ·rfl
 ·cases h
def VG(o:Option fi):Bool:=match o with
 | some .local=>true
 | _=>false
theorem VF{o:Option fi}(h:VG o=true):o=some .local:=by
 unfold VG at h
 split at h
 ·rfl
 ·cases h
def VI(k:ScopeKind):Bool:=match k with
 | .function=>true
 | _=>false
theorem VH{k:ScopeKind}(h:VI k=true):k=.function:=by
 unfold VI at h
 split at h
 ·rfl
 ·cases h
def bi(sc esc:ft)(p:Str×fi):Bool:=match p.2 with
 | .cell=>false
 | .free=>Wi (esc.names.lookup p.1)
 | .local=>VG (sc.names.lookup p.1)
 | _=>true
def b9(x:Option Str)(y:Str):Bool:=match x with
 | some z=>z==y
 | none=>false
theorem Y_{x:Option Str}{y:Str}(h:b9 x y=true):x=some y:=by
 unfold b9 at h
 split at h
 ·exact congrArg some (by simpa using h)
 ·cases h
def Hs(sc esc:ft)(N:List Str):List Str->List (Option Nat)->Bool
 | [],[]=>true
 | x::xs,some j::js=>isFree (sc.names.lookup x)&&b9 (N[j]?) x&&Wi (esc.names.lookup x)&&Hs sc esc N xs js
 | _::xs,none::js=>Hs sc esc N xs js
 | _,_=>false
def JI(sc esc:ft)(N N':List Str)(js:List (Option Nat)):Bool:=VI sc.kind&&sc.names.all (bi sc esc)&&Hs sc esc N N' js
theorem Fl{sc esc:ft}{N:List Str}:∀{N':List Str} {js:List (Option Nat)},Hs sc esc N N' js=true->js.length=N'.length
 | [],[],_=>rfl
 | x::xs,some j::js,h=>by
  unfold Hs at h;rw [UF] at h;rw [c6,c6,Fl h.2]
 | x::xs,none::js,h=>by
  unfold Hs at h;rw [c6,c6,Fl h]
 | [],some _::_,h=>by unfold Hs at h; cases h
 | [],none::_,h=>by unfold Hs at h; cases h
 | _::_,[],h=>by unfold Hs at h; cases h
theorem OB{sc esc:ft}{N:List Str}:∀{N':List Str} {js:List (Option Nat)},Hs sc esc N N' js=true->∀{k:Nat} {x:Str} {j:Nat},N'[k]?=some x->js[k]?=some (some j) ->
  sc.names.lookup x=some .free/\N[j]?=some x/\(esc.names.lookup x=some .cell\/esc.names.lookup x=some .free)
 | [],_,_,k,x,j,h1,_=>by simp at h1
 | _::_,[],h,_,_,_,_,_=>by unfold Hs at h; cases h
 | y::ys,some i::js,h,k,x,j,h1,h2=>by
  unfold Hs at h;rw [UF,UF,UF] at h;cases k with
  | zero =>
   simp at h1 h2;subst h1 h2;exact⟨TU h.1.1.1,Y_ h.1.1.2,RY h.1.2⟩
  | succ k=>exact OB h.2 (k:=k) (by simpa using h1) (by simpa using h2)
 | y::ys,none::js,h,k,x,j,h1,h2=>by
  unfold Hs at h;cases k with
  | zero=>simp at h2
  | succ k=>exact OB h (k:=k) (by simpa using h1) (by simpa using h2)
theorem TJ{js:List (Option Nat)}{Z:St}{k:Nat}{v:V}(h:(Cv js Z)[k]?=some (some v)):∃j,js[k]?=some (some j)/\Z[j]?=some (some v):=by
 unfold Cv at h;rw [dC] at h;cases e:js[k]? with
 | none=>rw [e] at h; cases h
 | some o =>
  rw [e] at h;cases o with
  | none=>cases h
  | some j =>
   refine⟨j,rfl,?_⟩;have h':some ((Z[j]?).getD none)=some (some v):=h;have h2:=c_ h';cases q:Z[j]? with
   | none=>rw [q] at h2; cases h2
   | some w=>rw [q] at h2; exact congrArg some h2
theorem DM{env:Env}:∀{names:List (Str×fi)} {x:Str},names.lookup x=some .free ->
  (names.map fun(n,k)=>if (k==d_&&env.scope.kind==.function&&env.kindOf n==some .cell) then (n,gs) else (n,k)).lookup x=some .cell \/
  (names.map fun(n,k)=>if (k==d_&&env.scope.kind==.function&&env.kindOf n==some .cell) then (n,gs) else (n,k)).lookup x=some .free
 | [],_,h=>by simp at h
 | (n,k)::r,x,h=>by
  have ih:=@DM env r x;show List.lookup x ((if (k==d_&&env.scope.kind==.function&&env.kindOf n==some .cell)=true then (n,gs) else (n,k))::_)=_\/List.lookup x ((if (k==d_&&env.scope.kind==.function&&env.kindOf n==some .cell)=true then (n,gs) else (n,k))::_)=_
  by_cases hc:(k==d_&&env.scope.kind==.function&&env.kindOf n==some .cell)=true
  ·rw [if_pos hc]
   cases hx:x==n with
   | true=>exact .inl (by simp only [fo,hx])
   | false =>
    simp only [fo,hx] at h ⊢;exact ih h
  ·rw [if_neg hc]
   cases hx:x==n with
   | true =>
    simp only [fo,hx] at h ⊢;exact .inr h
   | false =>
    simp only [fo,hx] at h ⊢;exact ih h
theorem QG{env:Env}{sc:ft}(hcell:∀y∈sc.names,y.2≠.cell){x:Str}(h:(relabel sc env).names.lookup x=some .cell\/(relabel sc env).names.lookup x=some .free):(x,d_)∈sc.names:=by
 have hm:(x,gs)∈(relabel sc env).names\/(x,d_)∈(relabel sc env).names:=h.elim (λz=>.inl (PySem.mem_of_lookup z)) λz=>.inr (PySem.mem_of_lookup z)
 have go:∀k:fi,(k=.cell\/k=.free)->(x,k)∈(relabel sc env).names->(x,d_)∈sc.names:=by
  intro k hk hmem;unfold relabel at hmem;obtain⟨⟨n,k0⟩,hn,e⟩:=Re.mp hmem
  by_cases hc:(k0==d_&&env.scope.kind==.function&&env.kindOf n==some .cell)=true
  ·have e':(n,gs)=(x,k):=by
    have:=e
    simp only [hc,if_true] at this;exact this
   have hk0:k0=.free:=by
    rw [UF,UF] at hc
    simpa using hc.1.1
   cases e';subst hk0;exact hn
  ·have e':(n,k0)=(x,k):=by
    have:=e
    simp only [hc,if_false] at this;exact this
   cases e'
   rcases hk with rfl | rfl
   ·exact absurd rfl (hcell _ hn)
   ·exact hn
 exact hm.elim (go _ (.inl rfl)) (go _ (.inr rfl))
section
variable {X:Cx}{zG:List (Addr×Obj)}{Z:St}{H:Hp}{s:Shared}
structure CompOk (X:Cx) (sc:ft) (N':List Str) (js:List (Option Nat)):Prop where
 kind:sc.kind=.function
 cell:∀y∈sc.names,y.2≠.cell
 free:∀x,(x,d_)∈sc.names->X.env.scope.names.lookup x=some .cell\/X.env.scope.names.lookup x=some .free
 names:∀y∈sc.names,y.2=.local->sc.names.lookup y.1=some .local
 cap:Hs sc X.env.scope X.N N' js=true
theorem CompOk.of{sc:ft}{N':List Str}{js:List (Option Nat)}(h:JI sc X.env.scope X.N N' js=true):CompOk X sc N' js:=by
 unfold JI at h;rw [UF,UF,dU] at h;obtain⟨⟨h1,h2⟩,h3⟩:=h;refine⟨VH h1,λy hy e=>?_,λx hx=>?_,λy hy e=>?_,h3⟩
 ·have q:=h2 y hy
  unfold bi at q;rw [e] at q;cases q
 ·have q:=h2 _ hx
  exact RY q
 ·have q:=h2 y hy
  unfold bi at q;rw [e] at q;exact VF q
theorem PZ{sc:ft}{N':List Str}{js:List (Option Nat)}{cl:List (Str×Ch)}{fp:List Ch}{h₁:dL}{tk:Nat}(I:Inv X zG Z H s)(hc:X.calm=true)(O:CompOk X sc N' js)
  (hcl:∀x c,cl.lookup x=some c->X.env.cells.lookup x=some c) (hcl2:∀x,(x,d_)∈sc.names->∃c,cl.lookup x=some c)
  (hf:∀b∈fp,II X zG H b) (ho:∀b∈fp,∃o,s.heap.get? b=some o)
  (hns:h₁.Ns (s.heap.objs.size+1) (λ_=>none)) (hk:∀b o,s.heap.get? b=some o->h₁.get? b=some o) (hD:∃n,h₁.get? s.heap.objs.size=some { cls:=.type "list",data:=.seq #[] n }) :
  Inv (BD X sc N' cl (s.heap.objs.size+1) s H fp) [] (Cv js Z) (BK H s.heap.objs.size (.lst [])) { s with heap:=h₁,toks:=tk }:=by
 have fr:∀a,s.heap.objs.size<=a->H a=none:=λa ha=>I.hok.fresh ha
 have cellLt:∀x c,cl.lookup x=some c->c<s.heap.objs.size:=λx c e=>by
  obtain⟨v,q⟩:=I.cell x c (hcl x c e);exact q.lt
 have ok:(BD X sc N' cl (s.heap.objs.size+1) s H fp).Ok:=by
  refine⟨I.ok.mod,O.kind,I.ok.glob,I.ok.blt,fO _,λx y c h1 h2=>I.ok.inj x y c (hcl x c h1) (hcl y c h2),λx hx=>?_,λx c hx=>?_,λ_=>I.ok.hd hc,I.ok.frames,.inl rfl,λb hb=>⟨?_,λx c e=>?_⟩,I.bs,de I.ok.bsz I.sz,λb o e hb=>?_,λb hb hb2=>?_,I.stack,I.stkFree⟩
  ·exact hcl2 x (QG (env:=X.env) O.cell hx)
  ·exact absurd (show false=true from hx) dH
  ·obtain⟨o,e⟩:=ho b hb
   exact dJ (fV (ZB e))
  ·exact(hf b hb).2.2.2.2.1 x c (hcl x c e)
  ·rcases (hf b hb).2.2.2.1 with z | z
   ·exact I.ok.noex b o e z
   ·have h1:b<X.base.objs.size:=ZB e
    exact absurd (dY h1 (de I.ok.bsz z)) (d9 _)
  ·rcases T0.mp (I.stkSub b hb2) with z | z
   ·exact(hf b hb).2.1 z
   ·exact(hf b hb).2.2.1 z
 refine⟨ok,rfl,I.bare,?_,⟨_,hns,λi x v h1 h2 h3=>?_⟩,λx c e=>?_,?_,λx c e=>?_,λp hp=>absurd (show p∈([]:List (Ch×Obj)) from hp) (by simp),?_,?_⟩
 ·exact Un.laid hk (Sc _) (fr _ (Sc _))
 ·obtain⟨j,e1,e2⟩:=TJ h2
  obtain⟨c1,c2,c3⟩:=OB O.cap h1 e1;obtain⟨m,_,hl⟩:=I.loc;obtain⟨u,r,l⟩:=hl j x v c2 e2 (.inr c3);refine⟨u,r,.inr ⟨DM c1,?_⟩⟩
  rcases l with ⟨l1,_⟩ | ⟨_,c,l2,l3⟩
  ·have l1':X.env.scope.names.lookup x=some .local:=l1
   rcases c3 with c3 | c3 <;> (rw [l1'] at c3; cases c3)
  ·obtain⟨c',e'⟩:=hcl2 x (PySem.mem_of_lookup c1)
   have:c'=c:=c_ ((hcl x c' e').symm.trans l2)
   subst this;obtain⟨oc,hoc,hocd⟩:=id l3;exact⟨c',e',oc,hk _ _ hoc,hocd⟩
 ·obtain⟨v,oc,hoc,hocd⟩:=I.cell x c (hcl x c e)
  exact⟨v,oc,hk _ _ hoc,hocd⟩
 ·show BK H s.heap.objs.size (.lst []) (s.heap.objs.size+1)=none
  rw [Aa (Nat.succ_ne_self _)];exact fr _ (fO _)
 ·show BK H s.heap.objs.size (.lst []) c=none
  rw [Aa (dJ (cellLt x c e))];exact I.freeC x c (hcl x c e)
 ·refine I.hok.laid hk (Sc _) ?_
  obtain⟨n,e⟩:=hD;exact⟨dD _,[],n,.nil,e⟩
 ·unfold Cv
  show (js.map _).length=N'.length;rw [Go];exact Fl O.cap
theorem Un.but{fs ex:List Ch}{H H1:Hp}{h h1 h':dL}{C:Ch}(u:Un fs ex H H1 h h1)(hC:h.get? C=none)(hs:∀b,b≠C->h'.get? b=h1.get? b):Un fs ex H H1 h h':=by
 have ne:∀{b:Ch} {o:Obj},h.get? b=some o->b≠C:=λ{b o} e z=>by rw [z,hC] at e; cases e
 refine⟨λb o e n h1 h2=>(hs b (ne e)).trans (u.keep b o e n h1 h2),λb o e n h1 h2=>?_,u.free,λb o e h1=>?_,u.tups,u.frzs,u.tbls⟩
 ·obtain⟨sl,q⟩:=u.slot b o e n h1 h2
  exact⟨sl,(hs b (ne e)).trans q⟩
 ·obtain⟨o',q⟩:=u.there b o e h1
  exact⟨o',(hs b (ne e)).trans q⟩
theorem LA{sc:ft}{N':List Str}{cl:List (Str×Ch)}{C:Ch}{fp:List Ch}{pins':List (Ch×Obj)}{zZ:St}{H':Hp}{s':Op}{h':dL}(I:Inv X zG Z H s)(hf:∀b∈fp,II X zG H b)(hC:s.heap.objs.size<=C)
  (J:Inv (BD X sc N' cl C s H fp) pins' zZ H' s') (hs:∀b,b≠C->h'.get? b=s'.heap.get? b):Inv X zG Z H' { s' with heap:=h' }:=by
 have nC:s.heap.get? C=none:=by
  cases e:s.heap.get? C with
  | none=>rfl
  | some o=>exact absurd (ZB e) (jT.mpr hC)
 have hC':H' C=none:=J.free;refine I.call' (s':={ s' with heap:=h' }) (ch:=fp) J.os (Un.but J.base nC hs) (λa o e=>?_) J.bare λb hb=>?_
 ·exact(J.hok a o e).stay (λb u hb q=>(hs b (λz=>by
   rw [z] at hb
   rcases hb with z2 | z2
   ·rw [← z2,hC'] at e; cases e
   ·rw [hC'] at z2; cases z2)).trans q) (λ_ q=>q) λ_ _ q=>q
 ·obtain⟨f0,f1,f2,f3,f4,f5⟩:=hf b hb
  exact⟨f3,f1,f4,f5⟩
end
def az(X:Cx)(ifs:List dO)(t:TT):Prop :=
 ∀(zG:List (Ch×Obj)) (s:Op) (Z:St) (H:Hp) (Q:Bool->Hp->Prop),Inv X zG Z H s->t Z H Q ->
  wpAny (model X.prog X.w) X.A (forIn ifs true λc r=>if r=true then do let ok ← isTrue c X.env (eval c X.env); pure (fj ok) else pure (fj r)) (TP X zG Z Q) X.xe s
def bU:TT:=λ_ H Q=>Q true H
theorem WN{X:Cx}:az X [] bU:=λzG s Z H Q I h=>wpAny_tests_nil ⟨H,I,h⟩
theorem WM{X:Cx}{c:dO}{t:TT}(h:PT X c t):az X [c] t:=λzG s Z H Q I q=>wpAny_tests_one (h zG s Z H Q I q)
def UJ(X:Cx)(sc:ft)(N':List Str)(js:List (Option Nat))(tg elt:dO)(ifs:List dO)(wi:TI):TE:=λZ H Q=>wi Z H λJ H1=>∀l,H1 l=none->X.K.lookup l=none->∀cl C s H0 fp,∃(g:TG) (tt:TT) (te:TE) (W:Nat->Nat->St->Hp->Prop),
 PG (BD X sc N' cl C s H0 fp) tg g/\az (BD X sc N' cl C s H0 fp) ifs tt/\PE (BD X sc N' cl C s H0 fp) elt te/\(∃m,W 0 m (Cv js Z) (BK H1 l (.lst [])))/\∀i m zZ H',W i m zZ H' ->
 (J.stop i H'/\Q (.ref l) H')\/(J.go i H'/\∀x H2,J.yld i H' x H2->g x zZ H2 λzV H3=>tt zV H3 λb H4=>if b=true then te zV H4 λy H5=>∃ys,H5 l=some (.lst ys)/\ys.length<sizeLine/\∃m',m'<m/\W (i+1) m' zV (BK H5 l (.lst (ys++[y]))) else ∃m',m'<m/\W (i+1) m' zV H4)
section
variable {X:Cx}{tg elt iter:Expr}{ifs:List Expr}{sc:Scope}{pos:Pos}{N':List Str}{js:List (Option Nat)}{wi:TI}{g:TG}{tt:TT}{te:TE}
theorem Me{zG:List (Ch×Obj)}{Z:St}{H:Hp}{s:Op}{cl:List (Str×Ch)}{C l it:Ch}{fp:List Ch}{tn:Nat->dL->Prop}{J:It}{s3:Op}{Q:VK}{R:Result->Op->Prop}{W:Nat->Nat->St->Hp->Prop}{m0:Nat}{zH:St}{H0:Hp}
  (I:Inv X zG Z H s) (hf:∀b∈fp,II X zG H b) (hlt:∀b∈fp,b<s.heap.objs.size) (hC:s.heap.objs.size<=C)
  (T:Turn X.prog X.w X.K tg J fp it tn)
  (hg:PG (BD X sc N' cl C s H fp) tg g) (ht:az (BD X sc N' cl C s H fp) ifs tt) (he:PE (BD X sc N' cl C s H fp) elt te)
  (hW:∀i m zZ H',W i m zZ H' ->
   (J.stop i H'/\Q (.ref l) H')\/(J.go i H'/\∀x H2,J.yld i H' x H2->g x zZ H2 λzV H3=>tt zV H3 λb H4=>if b=true then te zV H4 λy H5=>∃ys,H5 l=some (.lst ys)/\ys.length<sizeLine/\∃m',m'<m/\W (i+1) m' zV (BK H5 l (.lst (ys++[y]))) else ∃m',m'<m/\W (i+1) m' zV H4))
  (hR:∀zZ H' s',Inv (BD X sc N' cl C s H fp) [] zZ H' s'->Q (.ref l) H'->R (.ok .next) s')
  (I3:Inv (BD X sc N' cl C s H fp) [] zH H0 s3) (t3:tn 0 s3.heap) (f3:∀b∈fp,H0 b=none) (w0:W 0 m0 zH H0) :
  codeAny (model X.prog X.w) X.A (.compLoop (.ListComp elt [⟨tg,iter,ifs,0⟩] sc pos) 0 (.ref it) (.ref l) (compEnvC sc cl C X.env)) R s3:=by
 have stat:∀{H':Hp},(∀b∈fp,H' b=none)->∀b∈fp,II (BD X sc N' cl C s H fp) [] H' b:=λhn b hb=>by
  have q:=I3.ok.exf b hb;refine⟨hn b hb,q.1,I3.ok.exfs b hb,.inl hb,q.2,λp hp=>absurd (show p∈([]:List (Ch×Obj)) from hp) (by simp)⟩
 refine OA (λn s'=>∃i zZ H',Inv (BD X sc N' cl C s H fp) [] zZ H' s'/\tn i s'.heap/\(∀b∈fp,H' b=none)/\W i n zZ H') ?_ m0 ⟨0,zH,H0,I3,t3,f3,w0⟩;rintro n s4 ⟨i,zR,H4,I4,st4,fr4,w4⟩
 rcases hW i n zR H4 w4 with ⟨stop,qn⟩ | ⟨go,step⟩
 ·refine thn (T.done (BD X sc N' cl C s H fp) rfl rfl rfl rfl i [] s4 zR H4 (λ_ _=>False) I4 (stat fr4) st4 stop) λr s5 ⟨hr,I5⟩=>?_
  subst hr;exact hR zR H4 s5 I5 qn
 ·refine thn (T.item (BD X sc N' cl C s H fp) rfl rfl rfl rfl i [] s4 zR H4 (λ_ _=>False) I4 (stat fr4) st4 go) λr s5 ⟨u,hr,h5⟩=>?_
  subst hr;refine thn h5 λ_ s6 ⟨x,H6,I6,r6,y6,st6,fr6⟩=>?_;have I6':=I6.pinned (stat fr6) (T.obj _ _ st6);refine thn (hg _ s6 zR H6 x u _ I6' r6 (step x H6 y6)) λ_ s7 ⟨zM,H7,I7,q7⟩=>?_
  have again:∀{zI:St} {H9:Hp} {s9:Op} {m':Nat},Inv (BD X sc N' cl C s H fp) ([]++Ks fp s6.heap) zI H9 s9->m'<n->W (i+1) m' zI H9->∃m,m<n/\∃i zZ H',Inv (BD X sc N' cl C s H fp) [] zZ H' s9/\tn i s9.heap/\(∀b∈fp,H' b=none)/\W i m zZ H':=λ{zI H9 s9 m'} I9 hm w9=>by
   refine⟨m',hm,i+1,zI,H9,I9.unpinned,T.keep _ _ _ st6 λb hb o e=>(I9.pin (b,o) (dG _ (dG _ (FA hb e)))).1,λb hb=>?_,w9⟩;obtain⟨o,e,d⟩:=T.obj _ _ st6 b hb;exact(I9.pin (b,o) (dG _ (dG _ (FA hb e)))).2.1
  refine thn (ht _ s7 zM H7 _ I7 q7) λok s8 ⟨H8,I8,q8⟩=>?_;cases ok with
  | false =>
   have q8':∃m',m'<n/\W (i+1) m' zM H8:=q8;obtain⟨m',hm,w8⟩:=q8';show ∃m,m<n/\_;exact again I8 hm w8
  | true =>
   refine thn (he _ s8 zM H8 _ I8 q8) λy s9 ⟨yv,H9,I9,ry,q9⟩=>?_;obtain⟨ys,hl,hz,m',hm,w9⟩:=q9;refine thn (BZ (X:=BD X sc N' cl C s H fp) _ s9 zM H9 (.ref l) [yv] (.ref l) [y] (λv H'=>v=.non/\H'=BK H9 l (.lst (ys++[yv]))) I9 rfl (.cons ry .nil) ⟨l,ys,yv,rfl,rfl,hl,hz,rfl,rfl⟩) λ_ sa ⟨v,Ha,Ia,_,_,eH⟩=>?_;subst eH;exact again Ia hm w9
theorem WQ(hc:X.calm=true)(N':List Str)(js:List (Option Nat))(hi:PI X tg iter wi)
  (hB:JI sc X.env.scope X.N N' js=true)
  (hs:∀x,foldedSetIterable iter X.env x=pure x:=by intro _; rfl) :
  PE X (.ListComp elt [⟨tg,iter,ifs,0⟩] sc pos) (UJ X sc N' js tg elt ifs wi):=by
 intro zG s Z H Q I h;have O:CompOk X sc N' js:=CompOk.of hB;obtain⟨cl,hclos,hcl,hcl2⟩:=LS (scope:=sc) (env:=X.env) λx hx=>I.ok.has x (O.free x hx);rw [eval_ListComp];refine wpAny_comprehension_free (use:=none) rfl hs hclos O.kind O.names (thn (hi zG s Z H _ I h) λv s1 h1=>thn h1 λitv s2 h2=>?_);obtain⟨it,fp,tn,J,H2,e,I2,T,st2,f2,hq⟩:=h2;subst e
 have kfree:X.K.lookup s2.heap.objs.size=none:=by
  cases q:X.K.lookup s2.heap.objs.size with
  | none=>rfl
  | some o=>exact absurd (ZB (I2.kIn _ _ q)) (d9 _)
 obtain⟨g,tt,te,W,hg,ht,he,⟨m0,w0⟩,hW⟩:=hq s2.heap.objs.size (I2.hok.fresh (Sc _)) kfree cl (s2.heap.objs.size+1) s2 H2 fp;refine eS (wpAny_newFunctionEnv O.cell (by intro y hy; simp at hy) (λh₁ hns₁ hsb₁=>?_) O.kind)
 dsimp only at hns₁ hsb₁ ⊢
 generalize hH2:s2.heap.push { cls:=.type "list",dict:=none,data:=.seq ([]:List Ev).toArray }=Hh at hns₁ hsb₁ ⊢;have hCe:Hh.objs.size=s2.heap.objs.size+1:=by rw [← hH2,fh]
 have hlt:∀b∈fp,b<s2.heap.objs.size:=λb hb=>by
  obtain⟨o,e,_⟩:=T.obj _ _ st2 b hb;exact ZB e
 have old:∀b o,s2.heap.get? b=some o->h₁.get? b=some o:=λb o e=>hsb₁.extBut b o (by rw [hCe]; exact dJ (fV (ZB e))) (No _ (hH2▸No _ e));have hD:∃n,h₁.get? s2.heap.objs.size=some { cls:=.type "list",data:=.seq #[] n }:=⟨_,hsb₁.extBut _ _ (by rw [hCe]; exact dJ (jb _)) (No _ (hH2▸c7 _ rfl))⟩
 have I3:∀tk,Inv (BD X sc N' cl (s2.heap.objs.size+1) s2 H2 fp) [] (Cv js Z) (BK H2 s2.heap.objs.size (.lst [])) { s2 with heap:=h₁,toks:=tk }:=λtk =>
  PZ I2 hc O hcl hcl2 f2 (λb hb=>let ⟨o,e,_⟩:=T.obj _ _ st2 b hb; ⟨o,e⟩) (by rw [← hCe]; exact hns₁) old hD
 have st3:tn 0 h₁:=T.keep _ _ _ st2 λb hb o e=>old b o e
 have fr3:∀b∈fp,BK H2 s2.heap.objs.size (.lst []) b=none:=λb hb=>by
  rw [Aa (dJ (hlt b hb))];exact(f2 b hb).1
 have loop:∀tk,codeAny (model X.prog X.w) X.A (.compLoop (.ListComp elt [⟨tg,iter,ifs,0⟩] sc pos) 0 (.ref it) (.ref s2.heap.objs.size) (compEnvC sc cl (s2.heap.objs.size+1) X.env))
   (compPost (model X.prog X.w) X.A X.xe none (EP X zG Z Q) (.ref s2.heap.objs.size) (s2.heap.objs.size+1)) { s2 with heap:=h₁,toks:=tk }:=λtk=>by
  refine Me (W:=W) (m0:=m0) (Q:=Q) I2 f2 hlt (fO _) T hg ht he hW (λzZ H' s' J' q'=>?_) (I3 tk) st3 fr3 w0;obtain⟨m,hn,_⟩:=J'.loc;exact⟨m,hn,λh' hs'=>⟨.ref _,H',LA I2 f2 (fO _) J' λb hb=>hs'.2 b hb,rfl,q'⟩⟩
 rw [show (newEnv sc Hh.objs.size X.env.globals cl X.env.qual none .none (some X.env) builtinsNs).locals=s2.heap.objs.size+1 from hCe];show codeAny (model X.prog X.w) X.A (.compStart (.ListComp elt [⟨tg,iter,ifs,0⟩] sc pos) 0 (.ref it) (.ref s2.heap.objs.size) (compEnvC sc cl (s2.heap.objs.size+1) X.env)) _ _;exact codeAny_compStart_list (loop _) (T.self _ 0 _ _ _ st3 (loop _))
end
structure cu (B:dL) (l:List Env) (a C:Ch) (dx:Option Ch) (h:dL):Prop where
 stays:B.StaysIn h
 new:B.get? a=none
 frames:h.FunFrames B l
 obj:∃vs sl tb,h.get? a=some ⟨.ref C,dx,.fields vs,sl⟩/\vs[2]?=some .none/\vs[1]?=some tb/\(tb=.none\/∃T oT ts,tb=.ref T/\B.get? T=none/\T≠a/\h.get? T=some oT/\oT.data=.fields ts/\3<ts.size)
def am:List Ev:=[.type "ValueError",.type "Exception",.type "BaseException",.type "object"]
structure XC (K:Frag) (nm:Str) (C U:Ch):Prop where
 obj:∃q N bs sn sub ab col dd k0 k1 k2 k3 k5,K.lookup C=some (excClassObj nm q C N bs (.ref U::am) true sn sub ab col dd k0 k1 k2 k3 k5 "ValueError.__new__")
 up:∃q N bs sn sub ab col dd k0 k1 k2 k3 k5 hd,K.lookup U=some (excClassObj "ThinError" q U N bs am hd sn sub ab col dd k0 k1 k2 k3 k5 "ValueError.__new__")
 kp:keepIn K (.ref C)=true
 ga:PySem.W.findIn K (.ref C) "__getattribute__"=some (some (.builtin "BaseException.__getattribute__"))
 gt:PySem.W.findIn K (.ref C) "__getattr__"=some none
 sa:PySem.W.findIn K (.ref C) "__setattr__"=some (some (.builtin "object.__setattr__"))
 at_:nsIn K mainGlobals nm=some (some (.ref C))
 atU:nsIn K mainGlobals "ThinError"=some (some (.ref U))
 ca:PySem.W.findIn K (.ref C) "__class__"=some (some (.builtin "object.__class__"))
 nw:PySem.W.findIn K (.ref C) "word"=some none
 nn:PySem.W.findIn K (.ref C) "number"=some none
 nr:PySem.W.findIn K (.ref C) "row"=some none
structure c5 (P:dZ) (w:dh) (outer:List Env) (H:Hp) (s:Op) (a C:Ch) (dx:Option Ch) (B:dL) (H':Hp) (s':Op):Prop where
 os:s'.os=s.os
 bare:h_ s'.gens
 un:Un (Rf outer) [] H H' s.heap s'.heap
 hok:HOk P w H' B
 all:∀b o o',s.heap.get? b=some o->b∉Rf outer->s'.heap.get? b=some o'->B.get? b=some o'
 fly:cu B outer a C dx s'.heap
 new:s.heap.objs.size<=a
 free:H' a=none
def XF(d:Ch)(fs:List (Str×V))(h:dL):Prop:=∃mA,h.Ns1 d mA/\(∀f,RelO (fs.lookup f) (mA f))/\PySem.Within mA (fs.map (·.1))/\fs.length<=1000
def XT(C:Ch)(dx:Option Ch)(a:Ch)(u:HO):Prop:=∃vs sl,u=.frz ⟨.ref C,dx,.fields vs,sl⟩ (.own a)/\vs[2]?=some .none
end L2
namespace Dp
open L2
inductive D where
 | non | bl (b:Bool) | int (i:Int) | str (x:Str) | tup (xs:List D) | lst (xs:List D) | dic (ks:List Key) (xs:List D) | fdi (ks:List Key) (xs:List D) | dit (ks:List (List Key)) (xs:List D)
 deriving Inhabited
def NdT(M:Ch->Prop)(H:Hp)(a:Ch)(vs:List V):Prop:=H a=some (.tup vs)
def NdL(M:Ch->Prop)(H:Hp)(a:Ch)(vs:List V):Prop:=¬M a/\H a=some (.lst vs)
def NdD(M:Ch->Prop)(H:Hp)(a:Ch)(ks:List Key)(vs:List V):Prop:=¬M a/\H a=some (.dK (ks.zip vs))
def NdF(M:Ch->Prop)(H:Hp)(a:Ch)(ks:List Key)(vs:List V):Prop:=∃o,¬M a/\H a=some (.frz o (.dK (ks.zip vs)))
def NdU(M:Ch->Prop)(H:Hp)(a:Ch)(ks:List (List Key))(vs:List V):Prop:=¬M a/\H a=some (.dT (ks.zip vs))
mutual
def At(K:Frag)(M:Ch->Prop)(H:Hp):D->V->Prop
 | .non,v=>v=.non
 | .bl b,v=>v=.bl b
 | .int i,v=>v=.int i
 | .str x,v=>v=.str x/\x.length<=sizeLine
 | .tup ds,v=>∃a vs,v=.ref a/\NdT M H a vs/\Ats K M H ds vs
 | .lst ds,v=>∃a vs,v=.ref a/\NdL M H a vs/\Ats K M H ds vs
 | .dic ks ds,v=>∃a vs,v=.ref a/\NdD M H a ks vs/\ks.length=ds.length/\Ats K M H ds vs
 | .fdi ks ds,v=>∃a vs,v=.ref a/\NdF M H a ks vs/\ks.length=ds.length/\Ats K M H ds vs
 | .dit ks ds,v=>∃a vs,v=.ref a/\NdU M H a ks vs/\ks.length=ds.length/\Ats K M H ds vs
def Ats(K:Frag)(M:Ch->Prop)(H:Hp):List D->List V->Prop
 | [],vs=>vs=[]
 | d::ds,vs=>∃v r,vs=v::r/\At K M H d v/\Ats K M H ds r
end
section
variable {K:Frag}{M M':Addr->Prop}{H H':Hp}{a:Addr}{vs:List V}{ks:List Key}
theorem NdT.sq(h:NdT M H a vs):SqT K H a vs:=.inl (.inl h)
theorem NdL.sq(h:NdL M H a vs):SqL K H a vs:=.inl (.inl h.2)
def Pres(M:Ch->Prop)(H:Hp)(M':Ch->Prop)(H':Hp):Prop:=(∀b o,H b=some o->¬M b->H' b=some o)/\(∀b,M' b->M b\/H b=none)/\∀b vs,H b=some (.tup vs)->H' b=some (.tup vs)
theorem Pres.nd{u:HO}(p:Pres M H M' H')(n:¬M a)(h:H a=some u):¬M' a/\H' a=some u:=by
 refine⟨λz=>?_,p.1 _ _ h n⟩
 rcases p.2.1 a z with z | z
 ·exact n z
 ·rw [z] at h; cases h
theorem NdT.pres(p:Pres M H M' H')(h:NdT M H a vs):NdT M' H' a vs:=p.2.2 _ _ h
theorem NdL.pres(p:Pres M H M' H')(h:NdL M H a vs):NdL M' H' a vs:=p.nd h.1 h.2
theorem NdD.pres(p:Pres M H M' H')(h:NdD M H a ks vs):NdD M' H' a ks vs:=p.nd h.1 h.2
theorem NdU.pres{ks:List (List Key)}(p:Pres M H M' H')(h:NdU M H a ks vs):NdU M' H' a ks vs:=p.nd h.1 h.2
theorem NdF.pres(p:Pres M H M' H')(h:NdF M H a ks vs):NdF M' H' a ks vs:=let ⟨o,h1,h2⟩:=h; ⟨o,p.nd h1 h2⟩
mutual
theorem At.pres(p:Pres M H M' H'):∀{d:D} {v:V},At K M H d v->At K M' H' d v
 | .non,v,h=>h
 | .bl b,v,h=>h
 | .int i,v,h=>h
 | .str x,v,h=>h
 | .tup ds,v,h=>by
  obtain⟨a,vs,e,hn,hs⟩:=h;exact⟨a,vs,e,hn.pres p,Ats.pres p hs⟩
 | .lst ds,v,h=>by
  obtain⟨a,vs,e,hn,hs⟩:=h;exact⟨a,vs,e,hn.pres p,Ats.pres p hs⟩
 | .dic ks ds,v,h=>by
  obtain⟨a,vs,e,hn,hl,hs⟩:=h;exact⟨a,vs,e,hn.pres p,hl,Ats.pres p hs⟩
 | .fdi ks ds,v,h=>by
  obtain⟨a,vs,e,hn,hl,hs⟩:=h;exact⟨a,vs,e,hn.pres p,hl,Ats.pres p hs⟩
 | .dit ks ds,v,h=>by
  obtain⟨a,vs,e,hn,hl,hs⟩:=h;exact⟨a,vs,e,hn.pres p,hl,Ats.pres p hs⟩
theorem Ats.pres(p:Pres M H M' H'):∀{ds:List D} {vs:List V},Ats K M H ds vs->Ats K M' H' ds vs
 | [],vs,h=>h
 | d::ds,vs,h=>by
  obtain⟨v,r,e,h1,h2⟩:=h;exact⟨v,r,e,At.pres p h1,Ats.pres p h2⟩
end
theorem Pres.trans{M1 M2 M3:Ch->Prop}{H1 H2 H3:Hp}(p:Pres M1 H1 M2 H2)(q:Pres M2 H2 M3 H3):Pres M1 H1 M3 H3:=by
 refine⟨λb o e n=>?_,λb z=>?_,λb vs e=>q.2.2 b vs (p.2.2 b vs e)⟩
 ·refine q.1 b o (p.1 b o e n) λz=>?_
  rcases p.2.1 b z with z | z
  ·exact n z
  ·rw [z] at e; cases e
 ·rcases q.2.1 b z with z | z
  ·exact p.2.1 b z
  ·cases e:H1 b with
   | none=>exact .inr rfl
   | some o =>
    by_cases n:M1 b
    ·exact .inl n
    ·rw [p.1 b o e n] at z; cases z
theorem Pres.refl(M:Ch->Prop)(H:Hp):Pres M H M H:=⟨λ_ _ e _=>e,λ_ z=>.inl z,λ_ _ e=>e⟩
theorem Pres.less(h:∀b,M' b->M b):Pres M H M' H:=⟨λ_ _ e _=>e,λb z=>.inl (h b z),λ_ _ e=>e⟩
theorem Ats.length:∀{ds:List D} {vs:List V},Ats K M H ds vs->vs.length=ds.length
 | [],vs,h=>by cases h; rfl
 | d::ds,vs,h=>by
  obtain⟨v,r,e,h1,h2⟩:=h;subst e;rw [c6,c6,Ats.length h2]
theorem Ats.get:∀{ds:List D} {vs:List V} {i:Nat} {d:D},Ats K M H ds vs->ds[i]?=some d->∃v,vs[i]?=some v/\At K M H d v
 | [],vs,i,d,h,e=>by simp at e
 | d0::ds,vs,0,d,h,e=>by
  obtain⟨v,r,e1,h1,h2⟩:=h;simp at e;subst e e1;exact⟨v,rfl,h1⟩
 | d0::ds,vs,i+1,d,h,e=>by
  obtain⟨v,r,e1,h1,h2⟩:=h;subst e1;obtain⟨u,e2,h3⟩:=Ats.get (i:=i) (d:=d) h2 (by simpa using e);exact⟨u,by simpa using e2,h3⟩
theorem Ats.append:∀{ds es:List D} {vs us:List V},Ats K M H ds vs->Ats K M H es us->Ats K M H (ds++es) (vs++us)
 | [],es,vs,us,h,g=>by cases h; exact g
 | d::ds,es,vs,us,h,g=>by
  obtain⟨v,r,e,h1,h2⟩:=h;subst e;exact⟨v,r++us,rfl,h1,Ats.append h2 g⟩
theorem Ats.drop:∀{ds:List D} {vs:List V} (n:Nat),Ats K M H ds vs->Ats K M H (ds.drop n) (vs.drop n)
 | ds,vs,0,h=>h
 | [],vs,n+1,h=>by cases h; exact rfl
 | d::ds,vs,n+1,h=>by
  obtain⟨v,r,e,h1,h2⟩:=h;subst e;exact Ats.drop n h2
theorem Ats.take:∀{ds:List D} {vs:List V} (n:Nat),Ats K M H ds vs->Ats K M H (ds.take n) (vs.take n)
 | ds,vs,0,h=>rfl
 | [],vs,n+1,h=>by cases h; exact rfl
 | d::ds,vs,n+1,h=>by
  obtain⟨v,r,e,h1,h2⟩:=h;subst e;exact⟨v,r.take n,rfl,h1,Ats.take n h2⟩
theorem Ats.one{d:D}{v:V}(h:At K M H d v):Ats K M H [d] [v]:=⟨v,[],rfl,h,rfl⟩
theorem Ats.eraseIdx:∀{ds:List D} {vs:List V} (i:Nat),Ats K M H ds vs->Ats K M H (ds.eraseIdx i) (vs.eraseIdx i)
 | [],vs,i,h=>by cases h; exact rfl
 | d0::ds,vs,0,h=>by
  obtain⟨u,r,e1,h1,h2⟩:=h;subst e1;exact h2
 | d0::ds,vs,i+1,h=>by
  obtain⟨u,r,e1,h1,h2⟩:=h;subst e1;exact⟨u,r.eraseIdx i,rfl,h1,Ats.eraseIdx i h2⟩
theorem Ats.reverse:∀{ds:List D} {vs:List V},Ats K M H ds vs->Ats K M H ds.reverse vs.reverse
 | [],vs,h=>by cases h; exact rfl
 | d::ds,vs,h=>by
  obtain⟨v,r,e,h1,h2⟩:=h;subst e;rw [iE,iE];exact Ats.append (Ats.reverse h2) (Ats.one h1)
end
inductive Kd where
 | sh | tp | fr
def Tops(K:Frag)(M:Ch->Prop)(H:Hp)(a:Ch):D->Prop
 | .lst ds=>∃vs,H a=some (.lst vs)/\Ats K M H ds vs
 | .dic ks ds=>∃vs,H a=some (.dK (ks.zip vs))/\ks.length=ds.length/\Ats K M H ds vs
 | .dit ks ds=>∃vs,H a=some (.dT (ks.zip vs))/\ks.length=ds.length/\Ats K M H ds vs
 | _=>False
theorem Tops.notT{K:Frag}{M:Ch->Prop}{H:Hp}{a:Ch}{d:D}(h:Tops K M H a d){vs:List V}:H a≠some (.tup vs):=λq=>by
 cases d with
 | lst ds=>obtain⟨us,e,_⟩:=h; rw [e] at q; cases q
 | dic ks ds=>obtain⟨us,e,_⟩:=h; rw [e] at q; cases q
 | dit ks ds=>obtain⟨us,e,_⟩:=h; rw [e] at q; cases q
 | _=>exact h.elim
theorem Tops.pres{K:Frag}{M M':Ch->Prop}{H H':Hp}{a:Ch}{d:D}(h:Tops K M H a d)(p:Pres M H M' H')(e:∀o,H a=some o->H' a=some o):Tops K M' H' a d:=by
 cases d with
 | lst ds=>obtain⟨vs,h1,h2⟩:=h; exact⟨vs,e _ h1,h2.pres p⟩
 | dic ks ds=>obtain⟨vs,h1,h2,h3⟩:=h; exact⟨vs,e _ h1,h2,h3.pres p⟩
 | dit ks ds=>obtain⟨vs,h1,h2,h3⟩:=h; exact⟨vs,e _ h1,h2,h3.pres p⟩
 | _=>exact(show False from h).elim
theorem Tops.at{K:Frag}{M:Ch->Prop}{H:Hp}{a:Ch}{d:D}(h:Tops K M H a d)(n:¬M a):At K M H d (.ref a):=by
 cases d with
 | lst ds=>obtain⟨vs,h1,h2⟩:=h; exact⟨a,vs,rfl,⟨n,h1⟩,h2⟩
 | dic ks ds=>obtain⟨vs,h1,h2,h3⟩:=h; exact⟨a,vs,rfl,⟨n,h1⟩,h2,h3⟩
 | dit ks ds=>obtain⟨vs,h1,h2,h3⟩:=h; exact⟨a,vs,rfl,⟨n,h1⟩,h2,h3⟩
 | _=>exact(show False from h).elim
def AtT(K:Frag)(U:Ch->Prop)(M:Ch->Prop)(H:Hp):D->V->Prop
 | .lst ds,v=>∃a vs,v=.ref a/\¬U a/\Rd H a (.lst vs)/\Ats K M H ds vs
 | .dic ks ds,v=>∃a vs,v=.ref a/\¬U a/\H a=some (.dK (ks.zip vs))/\ks.length=ds.length/\Ats K M H ds vs
 | .dit ks ds,v=>∃a vs,v=.ref a/\¬U a/\H a=some (.dT (ks.zip vs))/\ks.length=ds.length/\Ats K M H ds vs
 | d,v=>At K M H d v
theorem Tops.att{K:Frag}{U M:Ch->Prop}{H:Hp}{a:Ch}{d:D}(h:Tops K M H a d)(n:¬U a):AtT K U M H d (.ref a):=by
 cases d with
 | lst ds=>obtain⟨vs,h1,h2⟩:=h; exact⟨a,vs,rfl,n,.inl h1,h2⟩
 | dic ks ds=>obtain⟨vs,h1,h2,h3⟩:=h; exact⟨a,vs,rfl,n,h1,h2,h3⟩
 | dit ks ds=>obtain⟨vs,h1,h2,h3⟩:=h; exact⟨a,vs,rfl,n,h1,h2,h3⟩
 | _=>exact(show False from h).elim
def VR(K:Frag)(U:Ch->Prop)(M:Ch->Prop)(H H':Hp):Kd->V->D->Prop
 | .sh,v,d=>At K M H' d v
 | .tp,v,d=>AtT K U M H' d v
 | .fr,v,d=>∃a,v=.ref a/\H a=none/\Tops K (λb=>M b\/b=a) H' a d
def FeedOk(K:Frag)(M:Ch->Prop)(H:Hp)(f:Ch×Ch)(n:Nat):Prop :=
 ∃(at_ rest:Int) (cells:List Int),H f.1=some (.lst [.ref f.2,.int at_,.int rest])/\f.2≠f.1/\NdL M H f.2 (cells.map V.int)/\cells.length<=63/\0<=at_/\at_+n<=2 ^ 60
def FeedC(K:Frag)(F:Option (Ch×Ch))(M:Ch->Prop)(H:Hp)(n:Nat):Prop:=∀f,F=some f->FeedOk K M H f n
def Ext(U:Ch->Prop)(H H':Hp):Prop:=∀b o,H b=some o->∃o',H' b=some o'/\(¬U b->o'=o)/\∀vs,o=.tup vs->o'=o
theorem Ext.keep{U:Ch->Prop}{H H':Hp}(p:Ext U H H'){b:Ch}{o:HO}(e:H b=some o)(n:¬U b):H' b=some o:=by
 obtain⟨o',q,r,_⟩:=p b o e;rw [q,r n]
theorem Ext.tup{U:Ch->Prop}{H H':Hp}(p:Ext U H H'){b:Ch}{vs:List V}(e:H b=some (.tup vs)):H' b=some (.tup vs):=by
 obtain⟨o',q,_,r⟩:=p b _ e;rw [q,r vs rfl]
theorem Ext.free{U:Ch->Prop}{H H':Hp}(p:Ext U H H'){b:Ch}(e:H' b=none):H b=none:=by
 cases q:H b with
 | none=>rfl
 | some o =>
  obtain⟨o',z,_⟩:=p b o q;rw [e] at z; cases z
theorem Ext.refl(U:Ch->Prop)(H:Hp):Ext U H H:=λ_ o e=>⟨o,e,λ_=>rfl,λ_ _=>rfl⟩
theorem Ext.trans{U:Ch->Prop}{H1 H2 H3:Hp}(p:Ext U H1 H2)(q:Ext U H2 H3):Ext U H1 H3:=λb o e=>by
 obtain⟨o',e1,r1,t1⟩:=p b o e;obtain⟨o2,e2,r2,t2⟩:=q b o' e1;exact⟨o2,e2,λn=>(r2 n).trans (r1 n),λvs z=>(t2 vs ((t1 vs z).trans z)).trans (t1 vs z)⟩
def Grow(H H':Hp):Prop:=H'=H\/∃p o,H p=none/\H'=BK H p o
theorem Grow.all{H H':Hp}(g:Grow H H'):∀b o,H b=some o->H' b=some o:=by
 intro b o e
 rcases g with rfl | ⟨p,u,n,rfl⟩
 ·exact e
 ·rw [Aa (Au e n)]; exact e
theorem Grow.refl{H:Hp}:Grow H H:=.inl rfl
theorem Grow.ext{U:Ch->Prop}{H H':Hp}(g:Grow H H'):Ext U H H':=λb o e=>⟨o,g.all b o e,λ_=>rfl,λ_ _=>rfl⟩
theorem Grow.pres{M:Ch->Prop}{H H':Hp}(g:Grow H H'):Pres M H M H':=⟨λb o e _=>g.all b o e,λ_ z=>.inl z,λb vs e=>g.all b _ e⟩
theorem FeedOk.pres{K:Frag}{M M':Ch->Prop}{H H':Hp}{f:Ch×Ch}{n:Nat}(h:FeedOk K M H f n)(p:Pres M H M' H')(e:∀o,H f.1=some o->H' f.1=some o):FeedOk K M' H' f n:=by
 obtain⟨a,r,cs,h1,h2,h3,h4⟩:=h;exact⟨a,r,cs,e _ h1,h2,h3.pres p,h4⟩
theorem FeedC.pres{K:Frag}{F:Option (Ch×Ch)}{M M':Ch->Prop}{H H':Hp}{n:Nat}(h:FeedC K F M H n)(p:Pres M H M' H')(e:∀f o,F=some f->H f.1=some o->H' f.1=some o):FeedC K F M' H' n:=λf hf=>(h f hf).pres p λo q=>e f o hf q
theorem FeedC.grow{K:Frag}{F:Option (Ch×Ch)}{M:Ch->Prop}{H H':Hp}{n:Nat}(h:FeedC K F M H n)(g:Grow H H'):FeedC K F M H' n:=h.pres g.pres λf o _ e=>g.all f.1 o e
theorem FeedC.more{K:Frag}{F:Option (Ch×Ch)}{M:Ch->Prop}{H:Hp}{n:Nat}(h:FeedC K F M H n)(a:Ch)(ha:∀f,F=some f->f.2≠a):FeedC K F (λb=>M b\/b=a) H n:=λf hf=>by
 obtain⟨x,r,cs,h1,h2,h3,h4⟩:=h f hf;exact⟨x,r,cs,h1,h2,⟨λz=>z.elim h3.1 (ha f hf),h3.2⟩,h4⟩
def AtX(K:Frag)(M:Ch->Prop)(H:Hp)(a:Ch)(nm:Str)(ks:List Str)(ds:List D):Prop:=∃C U dx u vs,XC K nm C U/\(¬M a/\H a=some u)/\XT C dx a u/\(dx=none/\ks=[]/\vs=[]\/∃d,dx=some d/\¬M d/\H d=some (.ext (XF d (ks.zip vs))))/\ks.length=ds.length/\Ats K M H ds vs
theorem AtX.pres{K:Frag}{M M':Ch->Prop}{H H':Hp}{a:Ch}{nm:Str}{ks:List Str}{ds:List D}(h:AtX K M H a nm ks ds)(p:Pres M H M' H'):AtX K M' H' a nm ks ds:=by
 obtain⟨C,U,dx,u,vs,c,⟨n,ha⟩,x,hd,hl,hs⟩:=h;refine⟨C,U,dx,u,vs,c,p.nd n ha,x,?_,hl,hs.pres p⟩
 rcases hd with z | ⟨d,e1,n1,h1⟩
 ·exact .inl z
 ·exact .inr ⟨d,e1,p.nd n1 h1⟩
inductive Slot where
 | no | sh (d:D) | br (d:D) | fd | ow (d:D) | lt (a:Ch) (d:D) | ex (a:Ch) (nm:Str) (ks:List Str) (ds:List D)
def Slot.owns:Slot->Bool
 | .ow _=>true
 | .lt _ _=>true
 | _=>false
def SlotOk(K:Frag)(F:Option (Ch×Ch))(U:Ch->Prop)(M:Ch->Prop)(H:Hp):Slot->Option V->Prop
 | .no,_=>True
 | .sh d,o=>∃v,o=some v/\At K M H d v
 | .br d,o=>∃v,o=some v/\AtT K U M H d v
 | .fd,o=>∃f,o=some (.ref f.1)/\F=some f
 | .ow d,o=>∃a,o=some (.ref a)/\M a/\¬U a/\Tops K M H a d
 | .lt a d,o=>o=some (.ref a)/\M a/\¬U a/\Tops K M H a d
 | .ex a nm ks ds,o=>o=some (.ref a)/\AtX K M H a nm ks ds
structure Fm where
 M0:Ch->Prop
 F:Option (Ch×Ch)
 U:Ch->Prop
 V:Ch->Prop
 H0:Hp
 zG:List ((Ch->Prop)×Hp)
 kp:List (Ch×HO)
def Apart(ρ:List Slot)(Z:L2.St):Prop:=∀(i j:Nat) (s t:Slot) (a:Ch),ρ[i]?=some s->s.owns=true->ρ[j]?=some t->t.owns=true->(Z[i]?).getD none=some (.ref a)->(Z[j]?).getD none=some (.ref a)->i=j
structure Rel (K:Frag) (C:Fm) (M:Ch->Prop) (H:Hp) (n:Nat) (ρ:List Slot) (Z:L2.St):Prop where
 len:ρ.length=Z.length
 sub:∀a,C.M0 a->M a
 dom:∀a,M a->∃o,H a=some o
 ext:Ext C.U C.H0 H
 fU:∀f,C.F=some f->C.U f.1
 uV:∀a,C.U a->C.V a
 vM:∀a,C.V a->M a
 feed:FeedC K C.F M H n
 sl:∀(i:Nat) (s:Slot),ρ[i]?=some s->SlotOk K C.F C.V M H s ((Z[i]?).getD none)
 pin:∀p∈C.zG,Pres p.1 p.2 M H
 br0:∀(i:Nat) (d:D) (a:Ch),ρ[i]?=some (.br d)->(Z[i]?).getD none=some (.ref a)->∃o,C.H0 a=some o
 new:∀(i:Nat) (s:Slot) (a:Ch),ρ[i]?=some s->s.owns=true->(Z[i]?).getD none=some (.ref a)->¬C.M0 a/\C.H0 a=none
 two:Apart ρ Z
 kept:∀p∈C.kp,H p.1=some p.2/\M p.1/\¬C.V p.1/\∀(i:Nat) (d:D),ρ[i]?=some (.ow d)->(Z[i]?).getD none≠some (.ref p.1)
section
variable {K:Frag}{C:Fm}{M:Addr->Prop}{H H':Hp}{n n':Nat}{ρ:List Slot}{Z:L2.St}{d:D}{v:V}{κ:Kd}
theorem Rel.pres(R:Rel K C M H n ρ Z)(e:Ext C.U H H'):Pres M H M H':=⟨λb o q nb=>e.keep q λz=>nb (R.vM b (R.uV b z)),λ_ z=>.inl z,λb vs q=>e.tup q⟩
theorem AtT.pres{U V':Ch->Prop}{M':Ch->Prop}(h:AtT K V' M H d v)(p:Pres M H M' H')(e:Ext U H H')(uV:∀a,U a->V' a):AtT K V' M' H' d v:=by
 cases d with
 | lst ds =>
  obtain⟨a,vs,e1,n1,hq,hs⟩:=h;refine⟨a,vs,e1,n1,?_,hs.pres p⟩
  rcases hq with hq | ⟨o,hq⟩
  ·exact .inl (e.keep hq λz=>n1 (uV a z))
  ·exact .inr ⟨o,e.keep hq λz=>n1 (uV a z)⟩
 | dic ks ds =>
  obtain⟨a,vs,e1,n1,hq,hl,hs⟩:=h;exact⟨a,vs,e1,n1,e.keep hq λz=>n1 (uV a z),hl,hs.pres p⟩
 | dit ks ds =>
  obtain⟨a,vs,e1,n1,hq,hl,hs⟩:=h;exact⟨a,vs,e1,n1,e.keep hq λz=>n1 (uV a z),hl,hs.pres p⟩
 | non=>exact At.pres (K:=K) p (d:=.non) h
 | bl b=>exact At.pres (K:=K) p (d:=.bl b) h
 | int i=>exact At.pres (K:=K) p (d:=.int i) h
 | str x=>exact At.pres (K:=K) p (d:=.str x) h
 | tup ds=>exact At.pres (K:=K) p (d:=.tup ds) h
 | fdi ks ds=>exact At.pres (K:=K) p (d:=.fdi ks ds) h
theorem AtT.same{U V':Ch->Prop}{M':Ch->Prop}(h:AtT K U M H d v)(p:Pres M H M' H')(e:∀a o,v=.ref a->H a=some o->H' a=some o)(nv:∀a,v=.ref a->¬U a->¬V' a):AtT K V' M' H' d v:=by
 cases d with
 | lst ds =>
  obtain⟨a,vs,e1,n1,hq,hs⟩:=h;refine⟨a,vs,e1,nv a e1 n1,?_,hs.pres p⟩
  rcases hq with hq | ⟨o,hq⟩
  ·exact .inl (e a _ e1 hq)
  ·exact .inr ⟨o,e a _ e1 hq⟩
 | dic ks ds =>
  obtain⟨a,vs,e1,n1,hq,hl,hs⟩:=h;exact⟨a,vs,e1,nv a e1 n1,e a _ e1 hq,hl,hs.pres p⟩
 | dit ks ds =>
  obtain⟨a,vs,e1,n1,hq,hl,hs⟩:=h;exact⟨a,vs,e1,nv a e1 n1,e a _ e1 hq,hl,hs.pres p⟩
 | non=>exact At.pres (K:=K) p (d:=.non) h
 | bl b=>exact At.pres (K:=K) p (d:=.bl b) h
 | int i=>exact At.pres (K:=K) p (d:=.int i) h
 | str x=>exact At.pres (K:=K) p (d:=.str x) h
 | tup ds=>exact At.pres (K:=K) p (d:=.tup ds) h
 | fdi ks ds=>exact At.pres (K:=K) p (d:=.fdi ks ds) h
theorem AtT.lies{U:Ch->Prop}{a:Ch}(h:AtT K U M H d (.ref a)):∃o,H a=some o:=by
 cases d with
 | lst ds =>
  obtain⟨b,vs,e,_,hq,_⟩:=h;cases e
  rcases hq with hq | ⟨o,hq⟩
  ·exact⟨_,hq⟩
  ·exact⟨_,hq⟩
 | dic ks ds =>
  obtain⟨b,vs,e,_,hq,_⟩:=h;cases e;exact⟨_,hq⟩
 | dit ks ds =>
  obtain⟨b,vs,e,_,hq,_⟩:=h;cases e;exact⟨_,hq⟩
 | non=>cases (show V.ref a=.non from h)
 | bl b=>cases (show V.ref a=.bl b from h)
 | int i=>cases (show V.ref a=.int i from h)
 | str x=>cases (show V.ref a=.str x/\_ from h).1
 | tup ds =>
  obtain⟨b,vs,e,hq,_⟩:=h;cases e;exact⟨_,hq⟩
 | fdi ks ds =>
  obtain⟨b,vs,e,⟨o,_,hq⟩,_⟩:=h;cases e;exact⟨_,hq⟩
theorem SlotOk.pres{F:Option (Ch×Ch)}{U V' M':Ch->Prop}{s:Slot}{o:Option V}(h:SlotOk K F V' M H s o)(p:Pres M H M' H')(m:∀a,M a->M' a)(e:Ext U H H')(uV:∀a,U a->V' a):SlotOk K F V' M' H' s o:=by
 cases s with
 | no=>trivial
 | sh d=>obtain⟨v,e1,h1⟩:=h; exact⟨v,e1,h1.pres p⟩
 | ex a nm ks ds=>obtain⟨e1,h1⟩:=h; exact⟨e1,h1.pres p⟩
 | br d=>obtain⟨v,e1,h1⟩:=h; exact⟨v,e1,h1.pres p e uV⟩
 | fd=>exact h
 | ow d=>obtain⟨a,e1,h1,h2,h3⟩:=h; exact⟨a,e1,m a h1,h2,h3.pres p λo q=>e.keep q λz=>h2 (uV a z)⟩
 | lt a d=>obtain⟨e1,h1,h2,h3⟩:=h; exact⟨e1,m a h1,h2,h3.pres p λo q=>e.keep q λz=>h2 (uV a z)⟩
theorem Rel.step(R:Rel K C M H n ρ Z)(e:Ext C.U H H')(f:FeedC K C.F M H' n'):Rel K C M H' n' ρ Z:=by
 have p:=R.pres e;refine⟨R.len,R.sub,λa z=>?_,R.ext.trans e,R.fU,R.uV,R.vM,f,λi s q=>(R.sl i s q).pres p (λ_ z=>z) e R.uV,λq hq=>(R.pin q hq).trans p,R.br0,R.new,R.two,λq hq=>?_⟩
 ·obtain⟨o,h1⟩:=R.dom a z
  obtain⟨o',h2,_⟩:=e a o h1;exact⟨o',h2⟩
 ·obtain⟨h1,h2,h3,h4⟩:=R.kept q hq
  exact⟨e.keep h1 λz=>h3 (R.uV _ z),h2,h3,h4⟩
theorem Rel.udom(R:Rel K C M H n ρ Z):∀a,C.U a->∃o,H a=some o:=λa z=>R.dom a (R.vM a (R.uV a z))
theorem At.tp{U:Ch->Prop}(uM:∀a,U a->M a)(h:At K M H d v):AtT K U M H d v:=by
 cases d with
 | lst ds =>
  obtain⟨a,vs,e,hn,hs⟩:=h;exact⟨a,vs,e,λz=>hn.1 (uM a z),.inl hn.2,hs⟩
 | dic ks ds =>
  obtain⟨a,vs,e,hn,hl,hs⟩:=h;exact⟨a,vs,e,λz=>hn.1 (uM a z),hn.2,hl,hs⟩
 | dit ks ds =>
  obtain⟨a,vs,e,hn,hl,hs⟩:=h;exact⟨a,vs,e,λz=>hn.1 (uM a z),hn.2,hl,hs⟩
 | non=>exact h
 | bl b=>exact h
 | int i=>exact h
 | str x=>exact h
 | tup ds=>exact h
 | fdi ks ds=>exact h
theorem VR.back{U V':Ch->Prop}{H1:Hp}(e:Ext U H H1)(h:VR K V' M H1 H' κ v d):VR K V' M H H' κ v d:=by
 cases κ with
 | sh=>exact h
 | tp=>exact h
 | fr =>
  obtain⟨a,e1,h1,h2⟩:=h;exact⟨a,e1,e.free h1,h2⟩
theorem VR.shOf{U:Ch->Prop}(dom:∀a,M a->∃o,H a=some o)(h:VR K U M H H' κ v d)(hk:κ≠.tp):At K M H' d v:=by
 cases κ with
 | sh=>exact h
 | tp=>exact absurd rfl hk
 | fr =>
  obtain⟨a,rfl,h1,h2⟩:=h;refine(h2.pres (Pres.less (M':=M) λ_ z=>.inl z) λ_ z=>z).at λz=>?_;obtain⟨o,q⟩:=dom a z;rw [h1] at q; cases q
theorem VR.tpOf{U:Ch->Prop}(dom:∀a,M a->∃o,H a=some o)(uM:∀a,U a->M a)(h:VR K U M H H' κ v d):AtT K U M H' d v:=by
 cases κ with
 | sh=>exact At.tp uM h
 | tp=>exact h
 | fr=>exact At.tp uM (VR.shOf dom h (by intro z; cases z))
theorem IS{α:Type}{l:List α}{i j:Nat}{x y:α}(h:(l.set i x)[j]?=some y):(j=i/\i<l.length/\y=x)\/(j≠i/\l[j]?=some y):=by
 rw [jP] at h
 by_cases e:i=j
 ·rw [if_pos e] at h
  by_cases hl:i<l.length
  ·rw [if_pos hl] at h
   exact .inl ⟨e.symm,hl,(c_ h).symm⟩
  ·rw [if_neg hl] at h; cases h
 ·rw [if_neg e] at h
  exact .inr ⟨λz=>e z.symm,h⟩
theorem NG{l:L2.St}{i j:Nat}{x:Option V}(h:j≠i):((l.set i x)[j]?).getD none=(l[j]?).getD none:=by
 rw [jP,if_neg (λz=>h z.symm)]
theorem UO{l:L2.St}{i:Nat}{x:Option V}(h:i<l.length):((l.set i x)[i]?).getD none=x:=by
 rw [jP,if_pos rfl,if_pos h];rfl
theorem Rel.set(R:Rel K C M H n ρ Z){i:Nat}(h:At K M H d v):Rel K C M H n (ρ.set i (.sh d)) (Z.set i (some v)):=by
 have two:∀(j:Nat) (s:Slot),(ρ.set i (.sh d))[j]?=some s->s.owns=true->ρ[j]?=some s/\((Z.set i (some v))[j]?).getD none=(Z[j]?).getD none:=λj s q o=>by
  rcases IS q with ⟨_,_,rfl⟩ | ⟨hj,q⟩
  ·cases o
  ·exact⟨q,NG hj⟩
 refine⟨by rw [f_,f_]; exact R.len,R.sub,R.dom,R.ext,R.fU,R.uV,R.vM,R.feed,λj s q=>?_,R.pin,λj e a q q2=>?_,λj s a q o q2=>?_,λj k s t a q1 o1 q2 o2 z1 z2=>?_,λp hp=>?_⟩
 ·rcases IS q with ⟨rfl,hl,rfl⟩ | ⟨hj,q⟩
  ·rw [UO (by rw [← R.len]; exact hl)]
   exact⟨v,rfl,h⟩
  ·rw [NG hj]
   exact R.sl j s q
 ·rcases IS q with ⟨_,_,e⟩ | ⟨hj,q⟩
  ·cases e
  ·rw [NG hj] at q2
   exact R.br0 j e a q q2
 ·obtain⟨q1,e⟩:=two j s q o
  rw [e] at q2;exact R.new j s a q1 o q2
 ·obtain⟨p1,e1⟩:=two j s q1 o1
  obtain⟨p2,e2⟩:=two k t q2 o2;rw [e1] at z1;rw [e2] at z2;exact R.two j k s t a p1 o1 p2 o2 z1 z2
 ·obtain⟨h1,h2,h3,h4⟩:=R.kept p hp
  refine⟨h1,h2,h3,λj e q=>?_⟩;obtain⟨q1,e2⟩:=two j _ q rfl;rw [e2];exact h4 j e q1
theorem Rel.owner(R:Rel K C M H n ρ Z){i:Nat}{s:Slot}(h:ρ[i]?=some s)(o:s.owns=true):∃a e,(Z[i]?).getD none=some (.ref a)/\M a/\¬C.V a/\Tops K M H a e/\¬C.M0 a/\C.H0 a=none:=by
 have q:=R.sl i s h;cases s with
 | ow d=>obtain⟨a,e1,h1,h2,h3⟩:=q; exact⟨a,d,e1,h1,h2,h3,R.new i _ a h o e1⟩
 | lt a d=>obtain⟨e1,h1,h2,h3⟩:=q; exact⟨a,d,e1,h1,h2,h3,R.new i _ a h o e1⟩
 | _=>cases o
theorem Rel.setOw(R:Rel K C M H n ρ Z){i:Nat}{a:Ch}(e:Ext C.U H H')(f:FeedC K C.F M H' n')(ha:H a=none)(h:Tops K (λb=>M b\/b=a) H' a d) :
  Rel K C (λb=>M b\/b=a) H' n' (ρ.set i (.ow d)) (Z.set i (some (.ref a))):=by
 have R1:=R.step e f
 have ne:∀b,M b->b≠a:=λb z q=>by
  obtain⟨o,w⟩:=R.dom b z;rw [q,ha] at w; cases w
 have a0:¬C.M0 a/\C.H0 a=none:=⟨λz=>ne a (R.sub a z) rfl,R.ext.free ha⟩;have pr:Pres M H (λb=>M b\/b=a) H':=⟨λb o q nb=>e.keep q λz=>nb (R.vM b (R.uV b z)),λb z=>z.elim .inl λz=>.inr (by rw [z]; exact ha),λb vs q=>e.tup q⟩
 have two:∀(j:Nat) (s:Slot),(ρ.set i (.ow d))[j]?=some s->(j=i/\s=.ow d/\((Z.set i (some (.ref a)))[j]?).getD none=some (.ref a))\/(j≠i/\ρ[j]?=some s/\((Z.set i (some (.ref a)))[j]?).getD none=(Z[j]?).getD none):=λj s q=>by
  rcases IS q with ⟨rfl,hl,rfl⟩ | ⟨hj,q⟩
  ·exact .inl ⟨rfl,rfl,UO (by rw [← R.len]; exact hl)⟩
  ·exact .inr ⟨hj,q,NG hj⟩
 have old:∀(j:Nat) (s:Slot) (b:Ch),ρ[j]?=some s->s.owns=true->(Z[j]?).getD none=some (.ref b)->b≠a:=λj s b q o z=>by
  obtain⟨c,_,e1,m,_⟩:=R.owner q o;rw [e1] at z;cases z;exact ne _ m
 have hd:∃o,H' a=some o:=by
  cases d with
  | lst ds=>obtain⟨vs,q,_⟩:=h; exact⟨_,q⟩
  | dic ks ds=>obtain⟨vs,q,_⟩:=h; exact⟨_,q⟩
  | dit ks ds=>obtain⟨vs,q,_⟩:=h; exact⟨_,q⟩
  | _=>exact(show False from h).elim
 refine⟨by rw [f_,f_]; exact R.len,λb z=>.inl (R.sub b z),λb z=>?_,R1.ext,R.fU,R.uV,λb z=>.inl (R.vM b z),f.more a λg hg q=>?_,λj s q=>?_,λq hq=>(R.pin q hq).trans pr,λj e2 b q q2=>?_,λj s b q o q2=>?_,λj k s t b q1 o1 q2 o2 z1 z2=>?_,λp hp=>?_⟩
 ·rcases z with z | z
  ·exact R1.dom b z
  ·rw [z]; exact hd
 ·obtain⟨_,_,_,_,_,h3,_⟩:=R.feed g hg
  have:=h3.2
  rw [q,ha] at this; cases this
 ·rcases two j s q with ⟨rfl,rfl,e1⟩ | ⟨hj,q1,e1⟩
  ·rw [e1]
   exact⟨a,rfl,.inr rfl,λz=>ne a (R.vM a z) rfl,h⟩
  ·rw [e1]
   exact(R.sl j s q1).pres pr (λ_ z=>.inl z) e R.uV
 ·rcases two j _ q with ⟨_,e1,_⟩ | ⟨hj,q1,e1⟩
  ·cases e1
  ·rw [e1] at q2
   exact R.br0 j e2 b q1 q2
 ·rcases two j s q with ⟨_,_,e1⟩ | ⟨hj,q1,e1⟩
  ·rw [e1] at q2
   cases q2;exact a0
  ·rw [e1] at q2
   exact R.new j s b q1 o q2
 ·rcases two j s q1 with ⟨rfl,_,e1⟩ | ⟨hj,p1,e1⟩
  ·rw [e1] at z1
   cases z1
   rcases two k t q2 with ⟨rfl,_,_⟩ | ⟨hk,p2,e2⟩
   ·rfl
   ·rw [e2] at z2
    exact absurd rfl (old k t a p2 o2 z2)
  ·rw [e1] at z1
   rcases two k t q2 with ⟨rfl,_,e2⟩ | ⟨hk,p2,e2⟩
   ·rw [e2] at z2
    cases z2;exact absurd rfl (old j s a p1 o1 z1)
   ·rw [e2] at z2
    exact R.two j k s t b p1 o1 p2 o2 z1 z2
 ·obtain⟨h1,h2,h3,h4⟩:=R1.kept p hp
  refine⟨h1,.inl h2,h3,λj e2 q=>?_⟩
  rcases two j _ q with ⟨_,_,e1⟩ | ⟨hj,q1,e1⟩
  ·rw [e1]
   intro z;cases z;exact ne _ h2 rfl
  ·rw [e1]
   exact h4 j e2 q1
theorem Rel.mut(R:Rel K C M H n ρ Z){i:Nat}{a:Ch}{e:D}{o:HO}(hi:ρ[i]?=some (.ow d))(ha:(Z[i]?).getD none=some (.ref a))(h:Tops K M (BK H a o) a e) :
  Rel K C M (BK H a o) n (ρ.set i (.ow e)) Z:=by
 obtain⟨b,_,e1,m,nv,t,n0,h0⟩:=R.owner hi rfl;rw [ha] at e1;cases e1;have pr:Pres M H M (BK H a o):=⟨λb o' q nb=>by rw [Aa (λz=>nb (by rw [z]; exact m))]; exact q,λ_ z=>.inl z,λb vs q=>by rw [Aa (λz=>t.notT (by rw [← z]; exact q))]; exact q⟩
 have old:∀(j:Nat) (s:Slot),(ρ.set i (.ow e))[j]?=some s->(j=i/\s=.ow e)\/(j≠i/\ρ[j]?=some s):=λj s q=>by
  rcases IS q with ⟨rfl,hl,rfl⟩ | ⟨hj,q⟩
  ·exact .inl ⟨rfl,rfl⟩
  ·exact .inr ⟨hj,q⟩
 have far:∀(j:Nat) (s:Slot) (b:Ch),j≠i->ρ[j]?=some s->s.owns=true->(Z[j]?).getD none=some (.ref b)->b≠a:=λj s b hj q o z w=>by
  subst w;exact hj (R.two j i s _ b q o hi rfl z ha)
 refine⟨by rw [f_]; exact R.len,R.sub,λb z=>?_,λb o' q=>?_,R.fU,R.uV,R.vM,R.feed.pres pr λf o' hf q=>?_,λj s q=>?_,λq hq=>(R.pin q hq).trans pr,λj e2 b q q2=>?_,λj s b q o2 q2=>?_,λj k s t b q1 o1 q2 o2 z1 z2=>?_,λp hp=>?_⟩
 ·by_cases hb:b=a
  ·exact⟨o,by rw [hb,Ap]⟩
  ·obtain⟨o',q⟩:=R.dom b z
   exact⟨o',by rw [Aa hb]; exact q⟩
 ·obtain⟨o2,q2,r⟩:=R.ext b o' q
  have hb:b≠a:=λz=>by rw [z,h0] at q; cases q
  exact⟨o2,by rw [Aa hb]; exact q2,r⟩
 ·have hb:f.1≠a:=λz=>nv (by rw [← z]; exact R.uV _ (R.fU f hf))
  rw [Aa hb]; exact q
 ·rcases old j s q with ⟨rfl,rfl⟩ | ⟨hj,q1⟩
  ·rw [ha]
   exact⟨a,rfl,m,nv,h⟩
  ·have q2:=R.sl j s q1
   cases s with
   | no=>trivial
   | sh d=>obtain⟨v,e1,h1⟩:=q2; exact⟨v,e1,h1.pres pr⟩
   | ex a nm ks ds=>obtain⟨e1,h1⟩:=q2; exact⟨e1,h1.pres pr⟩
   | br d =>
    obtain⟨v,e1,h1⟩:=q2;refine⟨v,e1,h1.same pr (λb o' z q=>?_) λ_ _ z=>z⟩;subst z;obtain⟨o3,w⟩:=R.br0 j d b q1 e1;rw [Aa (λz=>by rw [z,h0] at w; cases w)];exact q
   | fd=>exact q2
   | ow d =>
    obtain⟨b,e1,h1,h2,h3⟩:=q2;exact⟨b,e1,h1,h2,h3.pres pr λo' w=>by rw [Aa (far j _ b hj q1 rfl e1)]; exact w⟩
   | lt b d =>
    obtain⟨e1,h1,h2,h3⟩:=q2;exact⟨e1,h1,h2,h3.pres pr λo' w=>by rw [Aa (far j _ b hj q1 rfl e1)]; exact w⟩
 ·rcases old j _ q with ⟨_,e1⟩ | ⟨hj,q1⟩
  ·cases e1
  ·exact R.br0 j e2 b q1 q2
 ·rcases old j s q with ⟨rfl,_⟩ | ⟨hj,q1⟩
  ·exact R.new j _ b hi rfl q2
  ·exact R.new j s b q1 o2 q2
 ·rcases old j s q1 with ⟨rfl,rfl⟩ | ⟨hj,p1⟩
  ·rcases old k t q2 with ⟨rfl,_⟩ | ⟨hk,p2⟩
   ·rfl
   ·exact R.two j k _ t b hi rfl p2 o2 z1 z2
  ·rcases old k t q2 with ⟨rfl,rfl⟩ | ⟨hk,p2⟩
   ·exact R.two j k s _ b p1 o1 hi rfl z1 z2
   ·exact R.two j k s t b p1 o1 p2 o2 z1 z2
 ·obtain⟨h1,h2,h3,h4⟩:=R.kept p hp
  have hb:p.1≠a:=λz=>h4 i d hi (by rw [ha,z]);refine⟨by rw [Aa hb]; exact h1,h2,h3,λj e2 q=>?_⟩
  rcases old j _ q with ⟨rfl,_⟩ | ⟨hj,q1⟩
  ·exact h4 j d hi
  ·exact h4 j e2 q1
theorem Rel.freeze(R:Rel K C M H n ρ Z){i:Nat}{a:Ch}(hi:ρ[i]?=some (.ow d))(ha:(Z[i]?).getD none=some (.ref a)):Rel K C (λb=>M b/\b≠a) H n (ρ.set i (.sh d)) Z:=by
 obtain⟨b,_,e1,m,nv,_,n0,h0⟩:=R.owner hi rfl;rw [ha] at e1;cases e1;have less:∀b,M b/\b≠a->M b:=λ_ z=>z.1;have pr:Pres M H (λb=>M b/\b≠a) H:=Pres.less less
 have old:∀(j:Nat) (s:Slot),(ρ.set i (.sh d))[j]?=some s->(j=i/\s=.sh d)\/(j≠i/\ρ[j]?=some s):=λj s q=>by
  rcases IS q with ⟨rfl,hl,rfl⟩ | ⟨hj,q⟩
  ·exact .inl ⟨rfl,rfl⟩
  ·exact .inr ⟨hj,q⟩
 have far:∀(j:Nat) (s:Slot) (b:Ch),j≠i->ρ[j]?=some s->s.owns=true->(Z[j]?).getD none=some (.ref b)->b≠a:=λj s b hj q o z w=>by
  subst w;exact hj (R.two j i s _ b q o hi rfl z ha)
 have t:Tops K M H a d:=by
  obtain⟨b,e1,_,_,h3⟩:=R.sl i _ hi;rw [ha] at e1;cases e1;exact h3
 refine⟨by rw [f_]; exact R.len,λb z=>⟨R.sub b z,λw=>n0 (by rw [← w]; exact z)⟩,λb z=>R.dom b z.1,R.ext,R.fU,R.uV,λb z=>⟨R.vM b z,λw=>nv (by rw [← w]; exact z)⟩,R.feed.pres pr λ_ _ _ q=>q,λj s q=>?_,λq hq=>(R.pin q hq).trans pr,λj e2 b q q2=>?_,λj s b q o2 q2=>?_,λj k s t b q1 o1 q2 o2 z1 z2=>?_,λp hp=>?_⟩
 ·rcases old j s q with ⟨rfl,rfl⟩ | ⟨hj,q1⟩
  ·rw [ha]
   exact⟨_,rfl,(t.pres pr λ_ z=>z).at λz=>z.2 rfl⟩
  ·have q2:=R.sl j s q1
   cases s with
   | no=>trivial
   | sh d=>obtain⟨v,e1,h1⟩:=q2; exact⟨v,e1,h1.pres pr⟩
   | ex a nm ks ds=>obtain⟨e1,h1⟩:=q2; exact⟨e1,h1.pres pr⟩
   | br d=>obtain⟨v,e1,h1⟩:=q2; exact⟨v,e1,h1.same pr (λ_ _ _ z=>z) λ_ _ z=>z⟩
   | fd=>exact q2
   | ow d =>
    obtain⟨b,e1,h1,h2,h3⟩:=q2;exact⟨b,e1,⟨h1,far j _ b hj q1 rfl e1⟩,h2,h3.pres pr λ_ z=>z⟩
   | lt b d =>
    obtain⟨e1,h1,h2,h3⟩:=q2;exact⟨e1,⟨h1,far j _ b hj q1 rfl e1⟩,h2,h3.pres pr λ_ z=>z⟩
 ·rcases old j _ q with ⟨_,e1⟩ | ⟨hj,q1⟩
  ·cases e1
  ·exact R.br0 j e2 b q1 q2
 ·rcases old j s q with ⟨_,rfl⟩ | ⟨hj,q1⟩
  ·cases o2
  ·exact R.new j s b q1 o2 q2
 ·rcases old j s q1 with ⟨_,rfl⟩ | ⟨hj,p1⟩
  ·cases o1
  ·rcases old k t q2 with ⟨_,rfl⟩ | ⟨hk,p2⟩
   ·cases o2
   ·exact R.two j k s t b p1 o1 p2 o2 z1 z2
 ·obtain⟨h1,h2,h3,h4⟩:=R.kept p hp
  have hb:p.1≠a:=λz=>h4 i d hi (by rw [ha,z]);refine⟨h1,⟨h2,hb⟩,h3,λj e2 q=>?_⟩
  rcases old j _ q with ⟨_,e1⟩ | ⟨hj,q1⟩
  ·cases e1
  ·exact h4 j e2 q1
end
abbrev DW:=Nat->List Slot->(D->Nat->Prop)->Prop
abbrev JR:=Nat->List Slot->(Bool->Nat->Prop)->Prop
abbrev Ex:=Nat->List Slot->(List D->Nat->Prop)->Prop
abbrev Xw:=Nat->List Slot->(List Slot->Nat->Prop)->Prop
section
variable (X:Cx)
def DE(e:dO)(κ:Kd)(w:DW):Prop:=∃t,PE X e t/\∀(C:Fm) (M:Ch->Prop) (H:Hp) (n:Nat) (ρ:List Slot) (Z:L2.St) (P:D->Nat->Prop) (Q:VK),Rel X.K C M H n ρ Z->w n ρ P ->
 (∀v H' d n',Ext C.U H H'->FeedC X.K C.F M H' n'->VR X.K C.V M H H' κ v d->P d n'->Q v H')->t Z H Q
def DT(e:dO)(w:JR):Prop:=∃t,PT X e t/\∀(C:Fm) (M:Ch->Prop) (H:Hp) (n:Nat) (ρ:List Slot) (Z:L2.St) (P:Bool->Nat->Prop) (Q:Bool->Hp->Prop),Rel X.K C M H n ρ Z->w n ρ P ->
 (∀b H' n',Ext C.U H H'->FeedC X.K C.F M H' n'->P b n'->Q b H')->t Z H Q
def DTW(e:dO)(w:JR):Prop:=∃t,PW X e t/\∀(C:Fm) (M:Ch->Prop) (H:Hp) (n:Nat) (ρ:List Slot) (Z:L2.St) (P:Bool->Nat->Prop) (Q:Bool->Hp->Prop),Rel X.K C M H n ρ Z->w n ρ P ->
 (∀b H' n',Ext C.U H H'->FeedC X.K C.F M H' n'->P b n'->Q b H')->t Z H Q
def V3(es:List dO)(w:Ex):Prop:=∃t,PA X es t/\∀(C:Fm) (M:Ch->Prop) (H:Hp) (n:Nat) (ρ:List Slot) (Z:L2.St) (P:List D->Nat->Prop) (Q:List V->Hp->Prop),Rel X.K C M H n ρ Z->w n ρ P ->
 (∀vs H' ds n',Ext C.U H H'->FeedC X.K C.F M H' n'->Paired (λv d=>AtT X.K C.V M H' d v) vs ds->P ds n'->Q vs H')->t Z H Q
def Xx(es:List dO)(w:Ex):Prop:=∃t,PA X es t/\∀(C:Fm) (M:Ch->Prop) (H:Hp) (n:Nat) (ρ:List Slot) (Z:L2.St) (P:List D->Nat->Prop) (Q:List V->Hp->Prop),Rel X.K C M H n ρ Z->w n ρ P ->
 (∀vs H' ds n',Ext C.U H H'->FeedC X.K C.F M H' n'->Ats X.K M H' ds vs->P ds n'->Q vs H')->t Z H Q
def M7(K:Frag)(F:Option (Ch×Ch))(V' M:Ch->Prop)(H:Hp)(v:V)(s:Slot):Prop:=SlotOk K F V' M H s (some v)/\s.owns=false
def bQ(e:dO)(w:Nat->List Slot->(Slot->Nat->Prop)->Prop):Prop:=∃t,PE X e t/\∀(C:Fm) (M:Ch->Prop) (H:Hp) (n:Nat) (ρ:List Slot) (Z:L2.St) (P:Slot->Nat->Prop) (Q:VK),Rel X.K C M H n ρ Z->w n ρ P ->
 (∀v H' s n',Ext C.U H H'->FeedC X.K C.F M H' n'->M7 X.K C.F C.V M H' v s->P s n'->Q v H')->t Z H Q
def Zo(es:List dO)(w:Xw):Prop:=∃t,PA X es t/\∀(C:Fm) (M:Ch->Prop) (H:Hp) (n:Nat) (ρ:List Slot) (Z:L2.St) (P:List Slot->Nat->Prop) (Q:List V->Hp->Prop),Rel X.K C M H n ρ Z->w n ρ P ->
 (∀vs H' ss n',Ext C.U H H'->FeedC X.K C.F M H' n'->Paired (M7 X.K C.F C.V M H') vs ss->P ss n'->Q vs H')->t Z H Q
end
def AB(i:Nat):DW:=λn ρ P=>match ρ[i]? with
 | some (.sh d)=>P d n
 | _=>False
def A4(i:Nat):DW:=λn ρ P=>match ρ[i]? with
 | some (.sh d)=>P d n
 | some (.br d)=>P d n
 | some (.ow d)=>P d n
 | some (.lt _ d)=>P d n
 | _=>False
def wC(d:D):DW:=λn _ P=>P d n
section
variable {X:Cx}{a b c e:Expr}{κ zT zO:Kd}{wa wb wc:DW}{pos:Pos}
theorem getD_some{Z:L2.St}{i:Nat}{v:V}(h:(Z[i]?).getD none=some v):Z[i]?=some (some v):=by
 cases q:Z[i]? with
 | none=>rw [q] at h; cases h
 | some o=>rw [q] at h; exact congrArg some h
theorem W5{i:Nat}(h:PE X e (CG i)):DE X e .sh (AB i):=by
 refine⟨_,h,λC M H n ρ Z P Q R w q=>?_⟩;unfold AB at w
 split at w
 ·rename_i d hd
  obtain⟨v,e1,h1⟩:=R.sl i _ hd;exact⟨v,getD_some e1,q v H d n (Ext.refl _ _) R.feed h1 w⟩
 ·exact w.elim
theorem Vf{i:Nat}(h:PE X e (CG i)):DE X e .tp (A4 i):=by
 refine⟨_,h,λC M H n ρ Z P Q R w q=>?_⟩;unfold A4 at w
 split at w
 ·rename_i d hd
  obtain⟨v,e1,h1⟩:=R.sl i _ hd;exact⟨v,getD_some e1,q v H d n (Ext.refl _ _) R.feed (At.tp R.vM h1) w⟩
 ·rename_i d hd
  obtain⟨v,e1,h1⟩:=R.sl i _ hd;exact⟨v,getD_some e1,q v H d n (Ext.refl _ _) R.feed h1 w⟩
 ·rename_i d hd
  obtain⟨a,e1,_,h2,h3⟩:=R.sl i _ hd;exact⟨.ref a,getD_some e1,q _ H d n (Ext.refl _ _) R.feed (h3.att h2) w⟩
 ·rename_i a d hd
  obtain⟨e1,_,h2,h3⟩:=R.sl i _ hd;exact⟨.ref a,getD_some e1,q _ H d n (Ext.refl _ _) R.feed (h3.att h2) w⟩
 ·exact w.elim
theorem dv(i:Nat){x:Str}{pos:Pos}(hN:X.N[i]?=some x:=by rfl)(hv:ZV X.env.scope x:=by first | exact Uf rfl | exact fH (Uf rfl) | exact fH (fH rfl))(hd:(x==("__debug__":Str))=false:=by decide)
  (hcd:(x==("__classdict__":Str))=false:=by decide):DE X (.Name x pos) .sh (AB i):=W5 (Nb hN hv hd hcd)
theorem J0(i:Nat){x:Str}{pos:Pos}(hN:X.N[i]?=some x:=by rfl)(hv:ZV X.env.scope x:=by first | exact Uf rfl | exact fH (Uf rfl) | exact fH (fH rfl))(hd:(x==("__debug__":Str))=false:=by decide)
  (hcd:(x==("__classdict__":Str))=false:=by decide):DE X (.Name x pos) .tp (A4 i):=Vf (Nb hN hv hd hcd)
theorem Hq{d:D}{v:V}(h:PE X e (tC v))(hd:∀M H,At X.K M H d v):DE X e .sh (wC d) :=
 ⟨_,h,λC M H n ρ Z P Q R w q=>q v H d n (Ext.refl _ _) R.feed (hd M H) w⟩
theorem AC{i:Int}{j pos}:DE X (.Constant (.int i) j pos) .sh (wC (.int i)):=Hq BC λ_ _=>rfl
theorem Bk{b:Bool}{j pos}:DE X (.Constant (.bool b) j pos) .sh (wC (.bl b)):=Hq aL λ_ _=>rfl
theorem BQ{j pos}:DE X (.Constant .none j pos) .sh (wC .non):=Hq Yb λ_ _=>rfl
theorem Ay{x:Str}{j pos}(hx:decide (x.length<=1000)=true:=by rfl):DE X (.Constant (.str x) j pos) .sh (wC (.str x)) :=
 Hq YY λ_ _=>⟨rfl,de (of_decide_eq_true hx) (by rw [d7]; decide)⟩
def FH(K:Frag)(κ:Kd)(r:R2)(f:D->D->(D->Prop)->Prop):Prop:=∀(U:Ch->Prop) (M:Ch->Prop) (H:Hp) (d e:D) (x y:V) (P:D->Prop) (Q:VK),(∀a,M a->∃o,H a=some o)->(∀a,U a->M a) ->
 AtT K U M H d x->AtT K U M H e y->f d e P->(∀v H' z,Grow H H'->VR K U M H H' κ v z->P z->Q v H')->r x y H Q
def AS(f:D->D->(D->Prop)->Prop)(wa wb:DW):DW:=λn ρ P=>wa n ρ λx n1=>wb n1 ρ λy n2=>f x y λz=>P z n2
theorem Fn{r:R2}{f:D->D->(D->Prop)->Prop}(hA:FH X.K κ r f){ta tb:TE}(ha:∀(C:Fm) (M:Ch->Prop) (H:Hp) (n:Nat) (ρ:List Slot) (Z:L2.St) (P:D->Nat->Prop) (Q:VK),Rel X.K C M H n ρ Z->wa n ρ P ->
   (∀v H' d n',Ext C.U H H'->FeedC X.K C.F M H' n'->VR X.K C.V M H H' zT v d->P d n'->Q v H')->ta Z H Q)
  (hb:∀(C:Fm) (M:Ch->Prop) (H:Hp) (n:Nat) (ρ:List Slot) (Z:L2.St) (P:D->Nat->Prop) (Q:VK),Rel X.K C M H n ρ Z->wb n ρ P ->
   (∀v H' d n',Ext C.U H H'->FeedC X.K C.F M H' n'->VR X.K C.V M H H' zO v d->P d n'->Q v H')->tb Z H Q)
  (C:Fm) (M:Ch->Prop) (H:Hp) (n:Nat) (ρ:List Slot) (Z:L2.St) (P:D->Nat->Prop) (Q:VK) (R:Rel X.K C M H n ρ Z) (w:AS f wa wb n ρ P)
  (q:∀v H' d n',Ext C.U H H'->FeedC X.K C.F M H' n'->VR X.K C.V M H H' κ v d->P d n'->Q v H'):EZ r ta tb Z H Q:=by
 refine ha C M H n ρ Z _ _ R w λx H1 d n1 e1 f1 r1 w1=>?_;have R1:=R.step e1 f1;refine hb C M H1 n1 ρ Z _ _ R1 w1 λy H2 e n2 e2 f2 r2 w2=>?_;have R2':=R1.step e2 f2;refine hA C.V M H2 d e x y _ _ R2'.dom R2'.vM ((r1.tpOf R.dom R.vM).pres (R1.pres e2) e2 R.uV) (r2.tpOf R1.dom R1.vM) w2 λv H3 z g vr p=>?_;exact q v H3 z n2 ((e1.trans e2).trans g.ext) (f2.grow g) (VR.back (e1.trans e2) vr) p
theorem As{op:Operator}{r:R2}{f:D->D->(D->Prop)->Prop}(ho:OpR X (binaryOp op) r)(hA:FH X.K κ r f)(ha:DE X a zT wa)(hb:DE X b zO wb):DE X (.BinOp a op b pos) κ (AS f wa wb):=by
 obtain⟨ta,ha1,ha2⟩:=ha;obtain⟨tb,hb1,hb2⟩:=hb;exact⟨_,B4 ho ha1 hb1,λC M H n ρ Z P Q R w q=>Fn hA ha2 hb2 C M H n ρ Z P Q R w q⟩
theorem AR{r:R2}{f:D->D->(D->Prop)->Prop}(ho:IxR X r)(hA:FH X.K κ r f)(ha:DE X a zT wa)(hb:DE X b zO wb)(hs:SF b:=by intro _ _; rfl):DE X (.Subscript a b pos) κ (AS f wa wb):=by
 obtain⟨ta,ha1,ha2⟩:=ha;obtain⟨tb,hb1,hb2⟩:=hb;exact⟨_,FI ho ha1 hb1 hs,λC M H n ρ Z P Q R w q=>Fn hA ha2 hb2 C M H n ρ Z P Q R w q⟩
theorem BP{op:CmpOp}{r:R2}{f:D->D->(D->Prop)->Prop}(ho:OpR X (compareOp op) r)(hA:FH X.K .sh r f)(ha:DE X a zT wa)(hb:DE X b zO wb)(hm:behindInMarks op b=false):DE X (.Compare a [op] [b] pos) .sh (AS f wa wb):=by
 obtain⟨ta,ha1,ha2⟩:=ha;obtain⟨tb,hb1,hb2⟩:=hb;exact⟨_,WR ho ha1 hb1 hm,λC M H n ρ Z P Q R w q=>Fn hA ha2 hb2 C M H n ρ Z P Q R w q⟩
def AU(w:DW):JR:=λn ρ P=>w n ρ λd n1=>match d with
 | .bl b=>P b n1
 | _=>False
theorem Jp{U:Ch->Prop}{K:Frag}{M:Ch->Prop}{H H':Hp}{v:V}{b:Bool}(h:VR K U M H H' κ v (.bl b)):v=.bl b:=by
 cases κ with
 | sh=>exact h
 | tp=>exact h
 | fr=>obtain⟨a,_,_,t⟩:=h; exact(show False from t).elim
theorem Al{op:CmpOp}{r:R2}{f:D->D->(D->Prop)->Prop}(ho:OpR X (compareOp op) r)(hA:FH X.K .sh r f)(ha:DE X a zT wa)(hb:DE X b zO wb)(hm:behindInMarks op b=false):DT X (.Compare a [op] [b] pos) (AU (AS f wa wb)):=by
 obtain⟨ta,ha1,ha2⟩:=ha;obtain⟨tb,hb1,hb2⟩:=hb;refine⟨_,HM ho ha1 hb1 hm,λC M H n ρ Z P Q R w q=>?_⟩;refine Fn hA ha2 hb2 C M H n ρ Z _ _ R w λv H' d n' e f r p=>?_;cases d with
 | bl b=>exact⟨b,Jp r,q b H' n' e f p⟩
 | _=>exact p.elim
theorem BG(h:DE X e κ wa)(he:∀whole,isTrue e X.env whole=(do let v ← whole; standAt e.pos; holding [v] (truthy v)):=by intro _; rfl):DT X e (AU wa):=by
 obtain⟨t,h1,h2⟩:=h;refine⟨_,YS h1 he,λC M H n ρ Z P Q R w q=>?_⟩;refine h2 C M H n ρ Z _ _ R w λv H' d n' e f r p=>?_;cases d with
 | bl b=>exact⟨b,Jp r,q b H' n' e f p⟩
 | _=>exact p.elim
def KL(f g:D->D->(D->Prop)->Prop)(wa wb wc:DW):DW:=λn ρ P=>wa n ρ λx n1=>wb n1 ρ λy n2=>f x y λz=>match z with
 | .bl true=>wc n2 ρ λu n3=>g y u λr=>P r n3
 | .bl false=>P (.bl false) n2
 | _=>False
theorem Po{r r':R2}{f g:D->D->(D->Prop)->Prop}(hA:FH X.K .sh r f)(hB:FH X.K .sh r' g){ta tb tc:TE}{zJ:Kd}(ha:∀(C:Fm) (M:Ch->Prop) (H:Hp) (n:Nat) (ρ:List Slot) (Z:L2.St) (P:D->Nat->Prop) (Q:VK),Rel X.K C M H n ρ Z->wa n ρ P ->
   (∀v H' d n',Ext C.U H H'->FeedC X.K C.F M H' n'->VR X.K C.V M H H' zT v d->P d n'->Q v H')->ta Z H Q)
  (hb:∀(C:Fm) (M:Ch->Prop) (H:Hp) (n:Nat) (ρ:List Slot) (Z:L2.St) (P:D->Nat->Prop) (Q:VK),Rel X.K C M H n ρ Z->wb n ρ P ->
   (∀v H' d n',Ext C.U H H'->FeedC X.K C.F M H' n'->VR X.K C.V M H H' zO v d->P d n'->Q v H')->tb Z H Q)
  (hc:∀(C:Fm) (M:Ch->Prop) (H:Hp) (n:Nat) (ρ:List Slot) (Z:L2.St) (P:D->Nat->Prop) (Q:VK),Rel X.K C M H n ρ Z->wc n ρ P ->
   (∀v H' d n',Ext C.U H H'->FeedC X.K C.F M H' n'->VR X.K C.V M H H' zJ v d->P d n'->Q v H')->tc Z H Q)
  (C:Fm) (M:Ch->Prop) (H:Hp) (n:Nat) (ρ:List Slot) (Z:L2.St) (P:D->Nat->Prop) (Q:VK) (R:Rel X.K C M H n ρ Z) (w:KL f g wa wb wc n ρ P)
  (q:∀v H' d n',Ext C.U H H'->FeedC X.K C.F M H' n'->VR X.K C.V M H H' .sh v d->P d n'->Q v H'):P8 r r' ta tb tc Z H Q:=by
 refine ha C M H n ρ Z _ _ R w λx H1 d n1 e1 f1 r1 w1=>?_;have R1:=R.step e1 f1;refine hb C M H1 n1 ρ Z _ _ R1 w1 λy H2 e n2 e2 f2 r2 w2=>?_;have R2':=R1.step e2 f2;have ty:AtT X.K C.V M H2 e y:=r2.tpOf R1.dom R1.vM;refine hA C.V M H2 d e x y _ _ R2'.dom R2'.vM ((r1.tpOf R.dom R.vM).pres (R1.pres e2) e2 R.uV) ty w2 λv H3 z gr vr p=>?_;have R3:=R2'.step gr.ext (f2.grow gr);cases z with
 | bl k =>
  refine⟨k,vr,?_⟩;cases k with
  | false=>exact q _ H3 (.bl false) n2 ((e1.trans e2).trans gr.ext) (f2.grow gr) (show VR X.K C.V M H H3 .sh (.bl false) (.bl false) from rfl) p
  | true =>
   show tc Z H3 _;refine hc C M H3 n2 ρ Z _ _ R3 p λu H4 d4 n4 e4 f4 r4 w4=>?_;have R4:=R3.step e4 f4;refine hB C.V M H4 e d4 y u _ _ R4.dom R4.vM ((ty.pres gr.pres (gr.ext (U:=C.U)) R.uV).pres (R3.pres e4) e4 R.uV) (r4.tpOf R3.dom R3.vM) w4 λv5 H5 z5 g5 vr5 p5=>?_;exact q v5 H5 z5 n4 ((((e1.trans e2).trans gr.ext).trans e4).trans g5.ext) (f4.grow g5) vr5 p5
 | _=>exact p.elim
theorem Vg{op op':CmpOp}{r r':R2}{f g:D->D->(D->Prop)->Prop}{zJ:Kd}(ho:OpR X (compareOp op) r)(hA:FH X.K .sh r f)(ho':OpR X (compareOp op') r')(hB:FH X.K .sh r' g)(ha:DE X a zT wa)(hb:DE X b zO wb)(hc:DE X c zJ wc)
  (hm:lastMarks [op,op'] [b,c]=false:=by with_unfolding_all rfl):DE X (.Compare a [op,op'] [b,c] pos) .sh (KL f g wa wb wc):=by
 obtain⟨ta,ha1,ha2⟩:=ha;obtain⟨tb,hb1,hb2⟩:=hb;obtain⟨tc,hc1,hc2⟩:=hc;exact⟨_,Uw ho ho' ha1 hb1 hc1 hm,λC M H n ρ Z P Q R w q=>Po hA hB ha2 hb2 hc2 C M H n ρ Z P Q R w q⟩
theorem Va{op op':CmpOp}{r r':R2}{f g:D->D->(D->Prop)->Prop}{zJ:Kd}(ho:OpR X (compareOp op) r)(hA:FH X.K .sh r f)(ho':OpR X (compareOp op') r')(hB:FH X.K .sh r' g)(ha:DE X a zT wa)(hb:DE X b zO wb)(hc:DE X c zJ wc)
  (hm:lastMarks [op,op'] [b,c]=false:=by with_unfolding_all rfl):DT X (.Compare a [op,op'] [b,c] pos) (AU (KL f g wa wb wc)):=by
 obtain⟨ta,ha1,ha2⟩:=ha;obtain⟨tb,hb1,hb2⟩:=hb;obtain⟨tc,hc1,hc2⟩:=hc;refine⟨_,Ug ho ho' ha1 hb1 hc1 hm,λC M H n ρ Z P Q R w q=>?_⟩;refine Po hA hB ha2 hb2 hc2 C M H n ρ Z _ _ R w λv H' d n' e f r p=>?_;cases d with
 | bl b=>exact⟨b,r,q b H' n' e f p⟩
 | _=>exact p.elim
def KO(u v:JR):JR:=λn ρ P=>u n ρ λc n1=>if c=true then v n1 ρ P else P false n1
def Cp(u v:JR):JR:=λn ρ P=>u n ρ λc n1=>if c=true then P true n1 else v n1 ρ P
def Bh(u:JR):JR:=λn ρ P=>u n ρ λc n1=>P (!c) n1
variable {wA wB:JR}{rest:List Expr}
theorem Jz(h:DT X a wA):DTW X (.BoolOp .And [a] pos) wA:=by
 obtain⟨t,h1,h2⟩:=h;exact⟨t,RD h1,h2⟩
theorem Bq(h:DT X a wA):DTW X (.BoolOp .Or [a] pos) wA:=by
 obtain⟨t,h1,h2⟩:=h;exact⟨t,YR h1,h2⟩
theorem LJ(ha:DT X a wA)(hb:DTW X (.BoolOp .And (b::rest) pos) wB):DTW X (.BoolOp .And (a::b::rest) pos) (KO wA wB):=by
 obtain⟨t,h1,h2⟩:=ha;obtain⟨u,g1,g2⟩:=hb;refine⟨_,Uc h1 g1,λC M H n ρ Z P Q R w q=>?_⟩;refine h2 C M H n ρ Z _ _ R w λc H1 n1 e1 f1 p=>?_;cases c with
 | false=>exact q false H1 n1 e1 f1 p
 | true=>exact g2 C M H1 n1 ρ Z P Q (R.step e1 f1) p λb H2 n2 e2 f2 p2=>q b H2 n2 (e1.trans e2) f2 p2
theorem Bs(ha:DT X a wA)(hb:DTW X (.BoolOp .Or (b::rest) pos) wB):DTW X (.BoolOp .Or (a::b::rest) pos) (Cp wA wB):=by
 obtain⟨t,h1,h2⟩:=ha;obtain⟨u,g1,g2⟩:=hb;refine⟨_,aJ h1 g1,λC M H n ρ Z P Q R w q=>?_⟩;refine h2 C M H n ρ Z _ _ R w λc H1 n1 e1 f1 p=>?_;cases c with
 | true=>exact q true H1 n1 e1 f1 p
 | false=>exact g2 C M H1 n1 ρ Z P Q (R.step e1 f1) p λb H2 n2 e2 f2 p2=>q b H2 n2 (e1.trans e2) f2 p2
theorem DTW.dt(h:DTW X e wA):DT X e wA:=by
 obtain⟨t,h1,h2⟩:=h;exact⟨t,h1.pt,h2⟩
theorem BM(ha:DT X a wA):DT X (.UnaryOp .Not a pos) (Bh wA):=by
 obtain⟨t,h1,h2⟩:=ha;refine⟨_,YT h1,λC M H n ρ Z P Q R w q=>?_⟩;exact h2 C M H n ρ Z _ _ R w λc H1 n1 e1 f1 p=>q (!c) H1 n1 e1 f1 p
def HF(u v:DW):DW:=λn ρ P=>u n ρ λc n1=>match c with
 | .bl true=>v n1 ρ P
 | .bl false=>P (.bl false) n1
 | _=>False
def X4(u:DW):DW:=λn ρ P=>u n ρ λc n1=>match c with
 | .bl b=>P (.bl (!b)) n1
 | _=>False
theorem EX{op}(h:DE X a κ wa):DE X (.BoolOp op [a] pos) κ wa:=by
 obtain⟨t,h1,h2⟩:=h;exact⟨t,YZ h1,h2⟩
theorem C1(ha:DE X a zT wa)(hb:DE X (.BoolOp .And (b::rest) pos) .sh wb):DE X (.BoolOp .And (a::b::rest) pos) .sh (HF wa wb):=by
 obtain⟨t,h1,h2⟩:=ha;obtain⟨u,g1,g2⟩:=hb;refine⟨_,Yd h1 g1,λC M H n ρ Z P Q R w q=>?_⟩;refine h2 C M H n ρ Z _ _ R w λc H1 d n1 e1 f1 r1 p=>?_;cases d with
 | bl k =>
  refine⟨k,Jp r1,?_⟩;cases k with
  | false=>exact q _ H1 _ n1 e1 f1 (show VR X.K C.V M H H1 .sh (.bl false) (.bl false) from rfl) p
  | true =>
   show u Z H1 Q;exact g2 C M H1 n1 ρ Z P Q (R.step e1 f1) p λv H2 d n2 e2 f2 r2 p2=>q v H2 d n2 (e1.trans e2) f2 r2 p2
 | _=>exact p.elim
theorem Vd(ha:DE X a zT wa):DE X (.UnaryOp .Not a pos) .sh (X4 wa):=by
 obtain⟨t,h1,h2⟩:=ha;refine⟨_,Ya h1,λC M H n ρ Z P Q R w q=>?_⟩;refine h2 C M H n ρ Z _ _ R w λc H1 d n1 e1 f1 r1 p=>?_;cases d with
 | bl k=>exact⟨k,Jp r1,q _ H1 _ n1 e1 f1 (show VR X.K C.V M H H1 .sh (.bl (!k)) (.bl (!k)) from rfl) p⟩
 | _=>exact p.elim
def V1(t:JR)(u v:DW):DW:=λn ρ P=>t n ρ λc n1=>if c=true then u n1 ρ P else v n1 ρ P
theorem Ho(hc:DT X c wA)(ha:DE X a κ wa)(hb:DE X b κ wb):DE X (.IfExp c a b pos) κ (V1 wA wa wb):=by
 obtain⟨t,h1,h2⟩:=hc;obtain⟨u,g1,g2⟩:=ha;obtain⟨u',k1,k2⟩:=hb;refine⟨_,O1 h1 g1 k1,λC M H n ρ Z P Q R w q=>?_⟩;refine h2 C M H n ρ Z _ _ R w λc H1 n1 e1 f1 p=>?_;cases c with
 | true=>exact g2 C M H1 n1 ρ Z P Q (R.step e1 f1) p λv H2 d n2 e2 f2 r2 p2=>q v H2 d n2 (e1.trans e2) f2 (VR.back e1 r2) p2
 | false=>exact k2 C M H1 n1 ρ Z P Q (R.step e1 f1) p λv H2 d n2 e2 f2 r2 p2=>q v H2 d n2 (e1.trans e2) f2 (VR.back e1 r2) p2
def AW:Ex:=λn _ P=>P [] n
def AG(w:DW)(ws:Ex):Ex:=λn ρ P=>w n ρ λd n1=>ws n1 ρ λds n2=>P (d::ds) n2
variable {es:List Expr}{ws:Ex}
theorem AT:V3 X [] AW:=⟨_,Ds,λC M H n ρ Z P Q R w q=>q [] H [] n (Ext.refl _ _) R.feed .nil w⟩
theorem AX:Xx X [] AW:=⟨_,Ds,λC M H n ρ Z P Q R w q=>q [] H [] n (Ext.refl _ _) R.feed rfl w⟩
theorem AO(ha:DE X e κ wa)(hr:V3 X es ws)(hs:starEach (e::es) X.env=(false,eval e X.env)::starEach es X.env:=by rfl):V3 X (e::es) (AG wa ws):=by
 obtain⟨t,h1,h2⟩:=ha;obtain⟨u,g1,g2⟩:=hr;refine⟨_,CA h1 g1 hs,λC M H n ρ Z P Q R w q=>?_⟩;refine h2 C M H n ρ Z _ _ R w λv H1 d n1 e1 f1 r1 p=>?_;have R1:=R.step e1 f1;refine g2 C M H1 n1 ρ Z _ _ R1 p λvs H2 ds n2 e2 f2 r2 p2=>?_;exact q (v::vs) H2 (d::ds) n2 (e1.trans e2) f2 (.cons ((r1.tpOf R.dom R.vM).pres (R1.pres e2) e2 R.uV) r2) p2
theorem AF(ha:DE X e κ wa)(hr:Xx X es ws)(hk:κ≠.tp:=by intro z; cases z)(hs:starEach (e::es) X.env=(false,eval e X.env)::starEach es X.env:=by rfl):Xx X (e::es) (AG wa ws):=by
 obtain⟨t,h1,h2⟩:=ha;obtain⟨u,g1,g2⟩:=hr;refine⟨_,CA h1 g1 hs,λC M H n ρ Z P Q R w q=>?_⟩;refine h2 C M H n ρ Z _ _ R w λv H1 d n1 e1 f1 r1 p=>?_;have R1:=R.step e1 f1;refine g2 C M H1 n1 ρ Z _ _ R1 p λvs H2 ds n2 e2 f2 r2 p2=>?_;exact q (v::vs) H2 (d::ds) n2 (e1.trans e2) f2 ⟨v,vs,rfl,(r1.shOf R.dom hk).pres (R1.pres e2),r2⟩ p2
def Bg(ws:Ex):DW:=λn ρ P=>ws n ρ λds n1=>ds.length<=sizeLine/\P (.tup ds) n1
def FO(ws:Ex):DW:=λn ρ P=>ws n ρ λds n1=>ds.length<=sizeLine/\P (.lst ds) n1
theorem G4{M:Ch->Prop}{H:Hp}{p:Ch}{o:HO}(h:H p=none):Pres M H (λb=>M b\/b=p) (BK H p o):=⟨λb u e _=>by rw [Aa (Au e h)]; exact e,λb z=>z.elim .inl λz=>.inr (by rw [z]; exact h),λb vs e=>by rw [Aa (Au e h)]; exact e⟩
theorem BH{H:Hp}{p:Ch}{o:HO}(h:H p=none):Grow H (BK H p o):=.inr ⟨p,o,h,rfl⟩
theorem A1{x1}(h:Xx X es ws):DE X (.Tuple es x1 pos) .sh (Bg ws):=by
 obtain⟨t,h1,h2⟩:=h;refine⟨_,YW h1,λC M H n ρ Z P Q R w q=>?_⟩;refine h2 C M H n ρ Z _ _ R w λvs H1 ds n1 e1 f1 r1 p=>?_;refine⟨by rw [r1.length]; exact p.1,λa ha=>?_⟩;have g:Grow H1 (BK H1 a (.tup vs)):=BH ha;refine q _ _ (.tup ds) n1 (e1.trans g.ext) (f1.grow g) ⟨a,vs,rfl,Ap,r1.pres g.pres⟩ p.2
theorem Cj(h:Xx X es ws):DE X (.List es pos) .fr (FO ws):=by
 obtain⟨t,h1,h2⟩:=h;refine⟨_,QR h1,λC M H n ρ Z P Q R w q=>?_⟩;refine h2 C M H n ρ Z _ _ R w λvs H1 ds n1 e1 f1 r1 p=>?_;refine⟨by rw [r1.length]; exact p.1,λa ha=>?_⟩;have g:Grow H1 (BK H1 a (.lst vs)):=BH ha;exact q _ _ (.lst ds) n1 (e1.trans g.ext) (f1.grow g) (VR.back e1 ⟨a,rfl,ha,vs,Ap,r1.pres (G4 ha)⟩) p.2
def EJ(K:Frag)(κ:Kd)(r:List V->Hp->VK->Prop)(f:List D->(D->Prop)->Prop):Prop:=∀(U:Ch->Prop) (M:Ch->Prop) (H:Hp) (ds:List D) (vs:List V) (P:D->Prop) (Q:VK),(∀a,M a->∃o,H a=some o)->(∀a,U a->M a) ->
 Paired (λv d=>AtT K U M H d v) vs ds->f ds P->(∀v H' z,Grow H H'->VR K U M H H' κ v z->P z->Q v H')->r vs H Q
def CF(f:List D->(D->Prop)->Prop)(ws:Ex):DW:=λn ρ P=>ws n ρ λds n1=>f ds λz=>P z n1
theorem Xp{r:List V->Hp->VK->Prop}{f:List D->(D->Prop)->Prop}{t:TA}(hA:EJ X.K κ r f)(h2:∀(C:Fm) (M:Ch->Prop) (H:Hp) (n:Nat) (ρ:List Slot) (Z:L2.St) (P:List D->Nat->Prop) (Q:List V->Hp->Prop),Rel X.K C M H n ρ Z->ws n ρ P ->
   (∀vs H' ds n',Ext C.U H H'->FeedC X.K C.F M H' n'->Paired (λv d=>AtT X.K C.V M H' d v) vs ds->P ds n'->Q vs H')->t Z H Q)
  (C:Fm) (M:Ch->Prop) (H:Hp) (n:Nat) (ρ:List Slot) (Z:L2.St) (P:D->Nat->Prop) (Q:VK) (R:Rel X.K C M H n ρ Z) (w:CF f ws n ρ P)
  (q:∀v H' d n',Ext C.U H H'->FeedC X.K C.F M H' n'->VR X.K C.V M H H' κ v d->P d n'->Q v H'):bF r t Z H Q:=by
 refine h2 C M H n ρ Z _ _ R w λvs H1 ds n1 e1 f1 r1 p=>?_;have R1:=R.step e1 f1;refine hA C.V M H1 ds vs _ _ R1.dom R1.vM r1 p λv H2 z g vr pz=>?_;exact q v H2 z n1 (e1.trans g.ext) (f1.grow g) (VR.back e1 vr) pz
theorem Ah{x:Str}{id:String}{p:Pos}{r:List V->Hp->VK->Prop}{f:List D->(D->Prop)->Prop}(hc:DB X (.builtin id) r)(hA:EJ X.K κ r f)(hg:Gl X x)(hm:X.mg x=none)(hv:bootBuiltins x=some (.builtin id))(ha:V3 X (e::es) ws)
  (hn:x ≠ "__name__":=by decide) (hdb:(x==("__debug__":Str))=false:=by decide)
  (he:starEach (e::es) X.env=(false,eval e X.env)::starEach es X.env:=by rfl) (hpl:(backTo pos (starEach es X.env)).any (·.1)=false:=by rfl):DE X (.Call (.Name x p) (e::es) [] pos) κ (CF f ws):=by
 obtain⟨t,h1,h2⟩:=ha;exact⟨_,HQ hc hg hm hv h1 hn hdb he hpl,λC M H n ρ Z P Q R w q=>Xp hA h2 C M H n ρ Z P Q R w q⟩
theorem By{x:Str}{T:String}{p:Pos}{r:List V->Hp->VK->Prop}{f:List D->(D->Prop)->Prop}(hc:DB X (.type T) r)(hA:EJ X.K κ r f)(hg:Gl X x)(hm:X.mg x=none)(hv:bootBuiltins x=some (.type T))(ha:V3 X (e::es) ws)
  (hn:x ≠ "__name__":=by decide) (hdb:(x==("__debug__":Str))=false:=by decide)
  (he:starEach (e::es) X.env=(false,eval e X.env)::starEach es X.env:=by rfl) (hpl:(backTo pos (starEach es X.env)).any (·.1)=false:=by rfl):DE X (.Call (.Name x p) (e::es) [] pos) κ (CF f ws):=by
 obtain⟨t,h1,h2⟩:=ha;exact⟨_,MR hc hg hm hv h1 hn hdb he hpl,λC M H n ρ Z P Q R w q=>Xp hA h2 C M H n ρ Z P Q R w q⟩
end
end Dp
namespace L2
def cH(z:Str):It:=⟨λi _=>i<z.cps.size,λi H x H'=>H'=H/\∃c,z.cps[i]?=some c/\x=.str ⟨#[c]⟩,λi _=>z.cps.size<=i⟩
theorem OW{P:dZ}{w:dh}{K:Frag}{tg:dO}(it:Ch)(z:Str)(t:Tok)(ty:String)(hty:ty = "str_ascii_iterator"\/ty = "str_iterator")
  (W:∀A':eC,A'.handled=none->Walks P w A' it [it] [it] z.cps.size (SignAt z) (λi h=>h.IsStrIter it ty z t i)):Turn P w K tg (cH z) [it] it (λi h=>h.IsStrIter it ty z t i) where
 mem:=by simp
 obj:=λi h st b hb=>by
  have e:b=it:=by simpa using hb
  subst e;obtain⟨o,e,c,d⟩:=st;exact⟨o,e,λv z=>by rw [d] at z; cases z⟩
 keep:=λi h h' st k=>let ⟨o,ho,r⟩:=st; ⟨o,k it (by simp) o ho,r⟩
 item:=by
  intro X hP hw hK hc i zG s Z H E I hf st hg;subst hP hw hK;obtain⟨f0,f1,f2,f3,f4,f5⟩:=hf it (by simp);refine(W X.A (I.ok.hd hc)).item i s _ _ hg st λv h' tk hv st' kk=>?_;obtain⟨c,u,hcu,rfl⟩:=hv;have I1:Inv X zG Z H { s with heap:=h',toks:=tk }:=I.turned (λb o hb e=>kk b o (by simpa using hb) e) f0 f1 f3 f4 f5;obtain⟨o,e,cc,d⟩:=id st';exact⟨_,rfl,RZ (s:={ s with heap:=h',toks:=tk }) e cc d (by rcases hty with rfl | rfl <;> decide) ⟨.str ⟨#[c]⟩,H,I1,⟨_,rfl⟩,⟨rfl,c,hcu,rfl⟩,st',λb hb=>(hf b hb).1⟩⟩
 done:=by
  intro X hP hw hK hc i zG s Z H E I hf st hg;subst hP hw hK;obtain⟨f0,f1,f2,f3,f4,f5⟩:=hf it (by simp)
  have hx:z.cps[i]?=none:=by
   have:z.cps.size<=i:=hg
   simp [this]
  rcases hty with rfl | rfl
  ·exact wpAny_pyNext_ascii_end (I.ok.hd hc) st hx λh' eb=>⟨rfl,I.turned (t':=s.toks) (λb o hb e=>eb b o hb e) f0 f1 f3 f4 f5⟩
  ·exact wpAny_pyNext_wide_end (I.ok.hd hc) st hx λh' eb=>⟨rfl,I.turned (t':=s.toks) (λb o hb e=>eb b o hb e) f0 f1 f3 f4 f5⟩
 self:=λA i s Q E st h=>by
  rcases hty with rfl | rfl
  ·exact wpAny_pyIter_striter_ascii st h
  ·exact wpAny_pyIter_striter_wide st h
section
variable {X:Cx}{tg:Expr}
def bv(K:Frag)(tl:TE):TI:=λZ H R=>tl Z H λx H1 =>
 (∃a,x=.ref a/\(∃xs,SqL K H1 a xs)/\R (cI K a) H1)\/(∃a,x=.ref a/\(∃xs,SqT K H1 a xs)/\R (Ze K a) H1)\/∃z,x=.str z/\R (cH z) H1
theorem QP{l:dO}{tl:TE}(hl:PE X l tl):PI X tg l (bv X.K tl):=by
 intro zG s Z H R I h;refine thn (hl zG s Z H _ I h) λv s1 ⟨x,H1,I1,r1,q1⟩=>?_
 have hne:∀b,b∈[s1.heap.objs.size]->II X zG H1 b:=λb hb=>by
  have e:b=s1.heap.objs.size:=by simpa using hb
  subst e;exact I1.fpOk (Sc _) (I1.hok.fresh (Sc _))
 rcases q1 with ⟨a,e,⟨xs,hq⟩,q⟩ | ⟨a,e,⟨xs,hq⟩,q⟩ | ⟨z,e,q⟩
 ·subst e
  cases r1;obtain⟨its,rv,p,hz⟩:=I1.list hq;refine e9 p.isList ?_;exact⟨s1.heap.objs.size,[s1.heap.objs.size],_,_,H1,rfl,I1.kept (t':=s1.toks) λb o e=>No _ e,SJ a _,⟨_,c7 _ rfl,rfl,rfl⟩,hne,q⟩
 ·subst e
  cases r1;obtain⟨its,rv,p,hz⟩:=I1.tuple hq;refine fK (show s1.heap.IsTuple a its.toArray from p) ?_;exact⟨s1.heap.objs.size,[s1.heap.objs.size],_,_,H1,rfl,I1.kept (t':=s1.toks) λb o e=>No _ e,KQ a _,⟨_,c7 _ rfl,rfl,rfl⟩,hne,q⟩
 ·subst e
  obtain⟨t,rfl⟩:=r1;cases ha:z.cps.all (·<128)
  ·refine wpAny_pyIter_wide ha ?_
   exact⟨s1.heap.objs.size,[s1.heap.objs.size],_,_,H1,rfl,I1.kept (t':=s1.toks) λb o e=>No _ e,OW _ z t "str_iterator" (.inr rfl) (λA' hA=>Walks.strWide hA _ z t),⟨_,c7 _ rfl,rfl,rfl⟩,hne,q⟩
  ·refine wpAny_pyIter_ascii ha ?_
   exact⟨s1.heap.objs.size,[s1.heap.objs.size],_,_,H1,rfl,I1.kept (t':=s1.toks) λb o e=>No _ e,OW _ z t "str_ascii_iterator" (.inl rfl) (λA' hA=>Walks.strAscii hA _ z t),⟨_,c7 _ rfl,rfl,rfl⟩,hne,q⟩
end
section
variable {X:Cx}
theorem L5(bs:List Bool):((dW bs.length).all λi=>(bs[i]?).getD true)=bs.all id:=by
 induction bs with
 | nil=>rfl
 | cons b r ih =>
  rw [c6,ju,fY,g_,fY];simp only [List.getElem?_cons_zero,Option.getD_some,id_eq]
  congr 1
theorem Dy(hc:X.calm=true):DB X (.builtin "all") (λxs H Q=>∃(p:Ch) (bs:List Bool),xs=[.ref p]/\SqL X.K H p (bs.map V.bl)/\Q (.bl (bs.all id)) H):=by
 intro zG s Z H xs us Q I r h;obtain⟨p,bs,rfl,hq,q⟩:=h;obtain⟨u,rfl,rx⟩:=vals1 r;cases rx;obtain⟨its,r',pl,hz⟩:=I.list hq;have hlen:=r'.length;have hl:s.heap.IsList p its.toArray:=pl.isList;have hlt:p<s.heap.objs.size:=by obtain⟨_,e,_⟩:=id hl; exact ZB e
 refine call_all_walk (e9 hl ?_)
 refine⟨s.heap.objs.size,[s.heap.objs.size,p],[s.heap.objs.size],its.toArray.size,_,_,λi=>(bs[i]?).getD true,rfl,Walks.list (A:=X.A.in1) (I.ok.hd hc) _ p (dJ hlt) its.toArray,
  ⟨⟨_,c7 _ rfl,rfl,rfl⟩,hl.push _⟩,λi v s' Q' E' hP hQ=>?_,λh' tk hk=>?_⟩
 ·have hv:its[i]?=some v:=by simpa using hP
  have hb:∃b,bs[i]?=some b:=by
   have hi:i<its.length:=(c8.mp hv).1;rw [Go] at hlen;exact⟨bs[i]'(by omega),FM (by omega)⟩
  obtain⟨b,eb⟩:=hb;obtain⟨u,eu,ru⟩:=r'.get (i:=i) (x:=.bl b) (by rw [dC,eb]; rfl);rw [hv] at eu;cases eu;cases ru;simp only [eb,Option.getD_some] at hQ;exact e8 hQ
 ·have e:((dW its.toArray.size).all λi=>(bs[i]?).getD true)=bs.all id:=by
   rw [Tk,← hlen,Go]; exact L5 bs
  rw [e];exact⟨.bl _,H,I.kept (t':=tk) λb x e=>hk b x (λhm=>by rw [TM.mp hm] at e; exact d9 _ (ZB e)) (No _ e),rfl,q⟩
theorem Pq:DB X (.builtin "isinstance") (λxs H Q=>∃x T t b,xs=[x,.ty T]/\HC X.K H x t/\PySem.W.kitOne X.K t (.type T)=some b/\Q (.bl b) H):=by
 intro zG s Z H xs us Q I r h;obtain⟨x,T,t,b,rfl,ty,e,q⟩:=h;obtain⟨u,w',rfl,rx,rt⟩:=vals2 r;cases rt;exact TR I rx ty e λtk=>⟨.bl b,H,I.tok _,rfl,q⟩
theorem Sy:OpR X (compareOp .LtE) (λx y H Q=>∃i j,x=.str i/\y=.str j/\Q (.bl (!(j.cps.toList<i.cps.toList))) H):=by
 intro zG s Z H x y v u Q I rx ry h;obtain⟨i,j,rfl,rfl,q⟩:=h;obtain⟨t,rfl⟩:=rx;obtain⟨t',rfl⟩:=ry;exact PySem.P.le_str ⟨.bl _,H,I,rfl,q⟩
theorem KY{ys:List Str}:∀{us:List Ev},Vals (ys.map V.str) us->StrsAre us ys:=by
 induction ys with
 | nil=>intro us r; rw [gf] at r; cases r; exact .nil
 | cons n ns ih =>
  intro us r;rw [dA] at r;cases r with
  | cons r1 r2 =>
   obtain⟨t,e⟩:=r1;subst e;exact .cons n t (ih r2)
theorem Wa:Zc X "str.join" (λx xs H Q=>∃(z:Str) (p:Ch) (ys:List Str),x=.str z/\xs=[.ref p]/\SqL X.K H p (ys.map V.str)/\(ys.map (·.length)).sum+ys.length*z.length<=16777216/\Q (.str (Txt.join z ys)) H):=by
 intro zG s Z H x xs v us Q I rx rv h;obtain⟨z,p,ys,rfl,rfl,hq,hz,q⟩:=h;obtain⟨t,rfl⟩:=rx;obtain⟨u,rfl,ru⟩:=vals1 rv;cases ru;obtain⟨its,r',pl,_⟩:=I.list hq;exact join_list pl.isList (KY r') hz λt' k=>⟨.str _,H,I.tok _,⟨_,rfl⟩,q⟩
theorem YG:SlR X (λx lo hi H Q=>∃z,x=.str z/\z.length<=sizeLine/\Q (.str (Txt.slice z lo hi)) H):=by
 intro zG s Z H x v vl vu lo hi sl Q I rx hs pl pu h;obtain⟨z,rfl,hz,q⟩:=h;obtain⟨t,rfl⟩:=rx;refine⟨"str",_,F.slot_str_getitem.lookup,typeIs_str _ _ _,?_⟩;have fin:∀t' k,EP X zG Z Q (.str (Txt.slice z lo hi) t') { s with toks:=k }:=λt' k=>⟨.str _,H,I.tok _,⟨_,rfl⟩,q⟩;cases pl with
 | none =>
  cases pu with
  | none=>exact gN (l:=none) (u:=none) (st:=none) hs rfl (iY ⟨de (Txt.slice_le z _ _) hz,λt' k=>fin t' k⟩)
  | int j tj=>exact gN (l:=none) (u:=some (j,tj)) (st:=none) hs rfl (iY ⟨de (Txt.slice_le z _ _) hz,λt' k=>fin t' k⟩)
 | int i ti =>
  cases pu with
  | none=>exact gN (l:=some (i,ti)) (u:=none) (st:=none) hs rfl (iY ⟨de (Txt.slice_le z _ _) hz,λt' k=>fin t' k⟩)
  | int j tj=>exact gN (l:=some (i,ti)) (u:=some (j,tj)) (st:=none) hs rfl (iY ⟨de (Txt.slice_le z _ _) hz,λt' k=>fin t' k⟩)
theorem Sw(hu:X.A.units<cLine):OpR X (compareOp .NotEq) (λx y H Q=>∃a b xs,x=.ref a/\y=.ref b/\SqL X.K H a xs/\SqL X.K H b []/\Q (.bl (!xs.isEmpty)) H):=by
 intro zG s Z H x y v u Q I rx ry h;obtain⟨a,b,xs,rfl,rfl,ha,hb,q⟩:=h;cases rx;cases ry;obtain⟨its,r1,p1,_⟩:=I.list ha;obtain⟨its2,r2,p2,_⟩:=I.list hb;cases r2;cases r1 with
 | nil=>exact SeqAt.RcNeAt.lists (e:=λ_=>true) p1.isList p2.isList rfl hu (λj h1 h2=>absurd h1 (by simp)) X.prog X.w X.xe _ ⟨.bl _,H,I,rfl,q⟩
 | cons r1 r2=>exact SeqAt.RcNeAt.lists_lengths p1.isList p2.isList (by simp) hu X.prog X.w X.xe _ ⟨.bl _,H,I,rfl,q⟩
end
end L2
namespace Dp
open L2
def aw(K:Frag)(F:Option (Ch×Ch))(U V' M:Ch->Prop)(H:Hp)(n:Nat)(ss:List Slot)(vs:List V):Prop :=
 (∀a,M a->∃o,H a=some o)/\(∀f,F=some f->U f.1)/\(∀a,U a->V' a)/\(∀a,V' a->M a)/\FeedC K F M H n/\Paired (M7 K F V' M H) vs ss
abbrev W2:=List Slot->Nat->(D->Nat->Prop)->Prop
def Cq(K:Frag)(κ:Kd)(W:W2)(np:Nat):Sp:=λvs H Q _=>vs.length=np/\∃(F:Option (Ch×Ch)) (U V' M:Ch->Prop) (n:Nat) (ss:List Slot) (P:D->Nat->Prop),aw K F U V' M H n ss vs/\W ss n P /\
 ∀v H' d n',Ext U H H'->FeedC K F M H' n'->VR K V' M H H' κ v d->P d n'->Q v H'
def AL(w:DW):Nat->List Slot->(Slot->Nat->Prop)->Prop:=λn ρ P=>w n ρ λd n1=>P (.sh d) n1
def Cs(w:DW):Nat->List Slot->(Slot->Nat->Prop)->Prop:=λn ρ P=>w n ρ λd n1=>P (.br d) n1
def BS(i:Nat):Nat->List Slot->(Slot->Nat->Prop)->Prop:=λn ρ P=>match ρ[i]? with
 | some .fd=>P .fd n
 | _=>False
def AZ:Xw:=λn _ P=>P [] n
def AD(w:Nat->List Slot->(Slot->Nat->Prop)->Prop)(ws:Xw):Xw:=λn ρ P=>w n ρ λs n1=>ws n1 ρ λss n2=>P (s::ss) n2
def AY(W:W2)(was:Xw):DW:=λn ρ P=>was n ρ λss n1=>W ss n1 P
section
variable {X:Cx}{a e:Expr}{es:List Expr}{κ zT:Kd}{wa:DW}{pos:Pos}{w1:Nat->List Slot->(Slot->Nat->Prop)->Prop}{was:Xw}{ws:Ex}
theorem AM(h:DE X e κ wa)(hk:κ≠.tp:=by intro z; cases z):bQ X e (AL wa):=by
 obtain⟨t,h1,h2⟩:=h;refine⟨t,h1,λC M H n ρ Z P Q R w q=>h2 C M H n ρ Z _ _ R w λv H' d n' e f r p=>?_⟩;exact q v H' (.sh d) n' e f ⟨⟨v,rfl,r.shOf R.dom hk⟩,rfl⟩ p
theorem JG(h:DE X e κ wa):bQ X e (Cs wa):=by
 obtain⟨t,h1,h2⟩:=h;refine⟨t,h1,λC M H n ρ Z P Q R w q=>h2 C M H n ρ Z _ _ R w λv H' d n' e f r p=>?_⟩;exact q v H' (.br d) n' e f ⟨⟨v,rfl,r.tpOf R.dom R.vM⟩,rfl⟩ p
theorem Bt(i:Nat){x:Str}{pos:Pos}(hN:X.N[i]?=some x:=by rfl)(hv:ZV X.env.scope x:=by first | exact Uf rfl | exact fH (Uf rfl) | exact fH (fH rfl))(hd:(x==("__debug__":Str))=false:=by decide)
  (hcd:(x==("__classdict__":Str))=false:=by decide):bQ X (.Name x pos) (BS i):=by
 refine⟨_,Nb hN hv hd hcd,λC M H n ρ Z P Q R w q=>?_⟩;unfold BS at w
 split at w
 ·rename_i hd
  obtain⟨f,e1,h1⟩:=R.sl i _ hd;exact⟨.ref f.1,getD_some e1,q _ H .fd n (Ext.refl _ _) R.feed ⟨⟨f,rfl,h1⟩,rfl⟩ w⟩
 ·exact w.elim
theorem AN:Zo X [] AZ:=⟨_,Ds,λC M H n ρ Z P Q R w q=>q [] H [] n (Ext.refl _ _) R.feed .nil w⟩
theorem AA(ha:bQ X e w1)(hr:Zo X es was)(hs:starEach (e::es) X.env=(false,eval e X.env)::starEach es X.env:=by rfl):Zo X (e::es) (AD w1 was):=by
 obtain⟨t,h1,h2⟩:=ha;obtain⟨u,g1,g2⟩:=hr;refine⟨_,CA h1 g1 hs,λC M H n ρ Z P Q R w q=>?_⟩;refine h2 C M H n ρ Z _ _ R w λv H1 d n1 e1 f1 r1 p=>?_;have R1:=R.step e1 f1;refine g2 C M H1 n1 ρ Z _ _ R1 p λvs H2 ds n2 e2 f2 r2 p2=>?_;exact q (v::vs) H2 (d::ds) n2 (e1.trans e2) f2 (.cons ⟨r1.1.pres (R1.pres e2) (λ_ z=>z) e2 R.uV,r1.2⟩ r2) p2
theorem W8{k:Nat}{f:Ch}{fd:eI}{ps:List Str}{W:W2}{x:Str}{p:Pos}(G:A8 X.prog X.w X.K X.mg X.base B9 k f fd ps (Cq X.K κ W ps.length))(hW:∀ss n P,W ss n P->ss.length=ps.length)
  (hr:Room k X.A) (hg:Gl X x) (hm:X.mg x=some (.ref f)) (hk:keepIn X.K (.ref f)=true) (hb:Binds X.K fd ps []) (ha:Zo X (e::es) was)
  (hdb:(x==("__debug__":Str))=false:=by decide) (he:starEach (e::es) X.env=(false,eval e X.env)::starEach es X.env:=by rfl) (hpl:(backTo pos (starEach es X.env)).any (·.1)=false:=by rfl) :
  DE X (.Call (.Name x p) (e::es) [] pos) κ (AY W was):=by
 obtain⟨t,h1,h2⟩:=ha;refine⟨_,RK G hr hg hm hk hb .nil Xe h1 hdb he hpl,λC M H n ρ Z P Q R w q=>?_⟩;refine h2 C M H n ρ Z _ _ R w λvs H1 ss n1 e1 f1 r1 p=>?_;have R1:=R.step e1 f1;show Cq X.K κ W ps.length (vs++[]) H1 Q E0;rw [dX];refine⟨(Paired.length r1).trans (hW _ _ _ p),C.F,C.U,C.V,M,n1,ss,P,⟨R1.dom,R1.fU,R1.uV,R1.vM,f1,r1⟩,p,λv H2 d n2 e2 f2 r2 p2=>?_⟩;exact q v H2 d n2 (e1.trans e2) f2 (VR.back e1 r2) p2
def cF(K:Frag)(κ:Kd)(T:String)(r:V->List V->Hp->VK->Prop)(f:D->List D->(D->Prop)->Prop):Prop:=∀(U:Ch->Prop) (M:Ch->Prop) (H:Hp) (d:D) (ds:List D) (x:V) (vs:List V) (P:D->Prop) (Q:VK),(∀a,M a->∃o,H a=some o)->(∀a,U a->M a) ->
 AtT K U M H d x->Paired (λv d=>AtT K U M H d v) vs ds->f d ds P->(∀v H' z,Grow H H'->VR K U M H H' κ v z->P z->Q v H')->r x vs H Q
def bp(T:String)(d:D):Prop:=match d with
 | .str _=>T = "str"
 | .int _=>T = "int"
 | .lst _=>T = "list"
 | _=>False
def bR(T:String)(f:D->List D->(D->Prop)->Prop)(wo:DW)(ws:Ex):DW:=λn ρ P=>wo n ρ λd n1=>bp T d/\ws n1 ρ λds n2=>f d ds λz=>P z n2
theorem VE{T:String}{K:Frag}{U:Ch->Prop}{M:Ch->Prop}{H:Hp}{d:D}{x:V}(h:bp T d)(hx:AtT K U M H d x):bS K T x H:=by
 cases d with
 | str z=>obtain⟨e,_⟩:=hx; subst e; exact h
 | int i=>cases (show x=.int i from hx); exact h
 | lst ds=>obtain⟨a,vs,e,_,hq,_⟩:=hx; subst e; exact .inl ⟨h,vs,.inl hq⟩
 | _=>exact(show False from h).elim
theorem ak{name:Str}{apos cpos:Pos}{T id:String}{r:V->List V->Hp->VK->Prop}{f:D->List D->(D->Prop)->Prop}(pa:PlainAttrs T)(slot:PySem.Slot T name id)(hty:typeOf (.builtin id)=pure (.type "method_descriptor"))(hm:Zc X id r)
  (hA:cF X.K κ T r f) (ho:DE X a zT wa) (ha:V3 X (e::es) ws)
  (hbase:attributeBase a name X.env (eval a X.env)=eval a X.env:=by rfl)
  (hfew:((backTo cpos (starEach (e::es) X.env)).all (λx=>!x.1)&&(backToKw cpos (keywordEach [] X.env)).all (λx=>x.1.isSome)
   && decide ((e::es).length+([]:List gK).length+(if ([]:List gK).isEmpty then 0 else 1)<30))=true:=by rfl)
  (hline:(apos.endLine==cpos.line)=true:=by rfl) (hs:starEach (e::es) X.env=(false,eval e X.env)::starEach es X.env:=by rfl) (hplain:(backTo cpos (starEach es X.env)).any (·.1)=false:=by rfl) :
  DE X (.Call (.Attribute a name apos) (e::es) [] cpos) κ (bR T f wa ws):=by
 obtain⟨t,h1,h2⟩:=ho;obtain⟨u,g1,g2⟩:=ha;refine⟨_,Xd pa slot hty hm h1 g1 hbase hfew hline hs hplain,λC M H n ρ Z P Q R w q=>?_⟩;refine h2 C M H n ρ Z _ _ R w λx H1 d n1 e1 f1 r1 p=>?_;have R1:=R.step e1 f1;have tx:=r1.tpOf R.dom R.vM;refine⟨VE p.1 tx,?_⟩;refine g2 C M H1 n1 ρ Z _ _ R1 p.2 λvs H2 ds n2 e2 f2 r2 p2=>?_;have R2':=R1.step e2 f2;refine hA C.V M H2 d ds x vs _ _ R2'.dom R2'.vM (tx.pres (R1.pres e2) e2 R.uV) r2 p2 λv H3 z g vr pz=>?_;exact q v H3 z n2 ((e1.trans e2).trans g.ext) (f2.grow g) (VR.back (e1.trans e2) vr) pz
def DO(X:Cx)(e:Option dO)(w:Nat->List Slot->(Option Int->Nat->Prop)->Prop):Prop:=∃t,PO X e t/\∀(C:Fm) (M:Ch->Prop) (H:Hp) (n:Nat) (ρ:List Slot) (Z:L2.St) (P:Option Int->Nat->Prop) (Q:Option Int->Hp->Prop),Rel X.K C M H n ρ Z->w n ρ P ->
 (∀o H' n',Ext C.U H H'->FeedC X.K C.F M H' n'->P o n'->Q o H')->t Z H Q
def CL:Nat->List Slot->(Option Int->Nat->Prop)->Prop:=λn _ P=>P none n
def CY(w:DW):Nat->List Slot->(Option Int->Nat->Prop)->Prop:=λn ρ P=>w n ρ λd n1=>match d with
 | .int i=>P (some i) n1
 | _=>False
theorem EC:DO X none CL:=⟨_,RI,λC M H n ρ Z P Q R w q=>q none H n (Ext.refl _ _) R.feed w⟩
theorem Qh{U:Ch->Prop}{K:Frag}{M:Ch->Prop}{H H':Hp}{v:V}{i:Int}(h:VR K U M H H' κ v (.int i)):v=.int i:=by
 cases κ with
 | sh=>exact h
 | tp=>exact h
 | fr=>obtain⟨a,_,_,t⟩:=h; exact(show False from t).elim
theorem CN(h:DE X e κ wa):DO X (some e) (CY wa):=by
 obtain⟨t,h1,h2⟩:=h;refine⟨_,RH h1,λC M H n ρ Z P Q R w q=>?_⟩;refine h2 C M H n ρ Z _ _ R w λv H1 d n1 e1 f1 r1 p=>?_;cases d with
 | int i=>exact⟨i,Qh r1,q _ H1 n1 e1 f1 p⟩
 | _=>exact p.elim
def cQ(K:Frag)(κ:Kd)(r:V->Option Int->Option Int->Hp->VK->Prop)(f:D->Option Int->Option Int->(D->Prop)->Prop):Prop:=∀(U:Ch->Prop) (M:Ch->Prop) (H:Hp) (d:D) (x:V) (lo hi:Option Int) (P:D->Prop) (Q:VK),(∀a,M a->∃o,H a=some o)->(∀a,U a->M a) ->
 AtT K U M H d x->f d lo hi P->(∀v H' z,Grow H H'->VR K U M H H' κ v z->P z->Q v H')->r x lo hi H Q
def Py(f:D->Option Int->Option Int->(D->Prop)->Prop)(w:DW)(wl wh:Nat->List Slot->(Option Int->Nat->Prop)->Prop):DW:=λn ρ P=>w n ρ λd n1=>wl n1 ρ λlo n2=>wh n2 ρ λhi n3=>f d lo hi λz=>P z n3
theorem GY{lo hi:Option dO}{p2:Pos}{r:V->Option Int->Option Int->Hp->VK->Prop}{f:D->Option Int->Option Int->(D->Prop)->Prop}{wl wh:Nat->List Slot->(Option Int->Nat->Prop)->Prop}(hr:SlR X r)(hA:cQ X.K κ r f)(he:DE X e zT wa)(hl:DO X lo wl)(hh:DO X hi wh) :
  DE X (.Subscript e (.Slice lo hi none p2) pos) κ (Py f wa wl wh):=by
 obtain⟨t,h1,h2⟩:=he;obtain⟨u,g1,g2⟩:=hl;obtain⟨u',k1,k2⟩:=hh;refine⟨_,O0 hr h1 g1 k1,λC M H n ρ Z P Q R w q=>?_⟩;refine h2 C M H n ρ Z _ _ R w λv H1 d n1 e1 f1 r1 p=>?_;have R1:=R.step e1 f1;have tv:=r1.tpOf R.dom R.vM;refine g2 C M H1 n1 ρ Z _ _ R1 p λlo H2 n2 e2 f2 p2=>?_;have R2':=R1.step e2 f2;refine k2 C M H2 n2 ρ Z _ _ R2' p2 λhi H3 n3 e3 f3 p3=>?_;have R3:=R2'.step e3 f3;refine hA C.V M H3 d v lo hi _ _ R3.dom R3.vM ((tv.pres (R1.pres e2) e2 R.uV).pres (R2'.pres e3) e3 R.uV) p3 λv H4 z g vr pz=>?_;exact q v H4 z n3 (((e1.trans e2).trans e3).trans g.ext) (f3.grow g) (VR.back ((e1.trans e2).trans e3) vr) pz
end
structure E2 where
 nx:Nat->List Slot->Prop
 rt:D->Nat->Prop
 bk:Nat->List Slot->Prop:=λ_ _=>False
 ct:Nat->List Slot->Prop:=λ_ _=>False
abbrev Ai:=E2->Nat->List Slot->Prop
structure Vy (K:Frag) (C:Fm) (κ:Kd) (D2:E2) (E:Ends):Prop where
 nx:∀M H n ρ Z,Rel K C M H n ρ Z->D2.nx n ρ->E.nx Z H
 rt:∀v H d n,Ext C.U C.H0 H->FeedC K C.F C.M0 H n->VR K C.V C.M0 C.H0 H κ v d->D2.rt d n->E.rt v H
 bk:∀M H n ρ Z,Rel K C M H n ρ Z->D2.bk n ρ->E.bk Z H
 ct:∀M H n ρ Z,Rel K C M H n ρ Z->D2.ct n ρ->E.ct Z H
def DS(X:Cx)(κ:Kd)(st:df)(w:Ai):Prop:=∃t,PS X st t/\∀(C:Fm) (M:Ch->Prop) (H:Hp) (n:Nat) (ρ:List Slot) (Z:L2.St) (D2:E2) (E:Ends),Rel X.K C M H n ρ Z->Vy X.K C κ D2 E->w D2 n ρ->t E Z H
def Tx(X:Cx)(κ:Kd)(st:List df)(w:Ai):Prop:=∃t,PSs X st t/\∀(C:Fm) (M:Ch->Prop) (H:Hp) (n:Nat) (ρ:List Slot) (Z:L2.St) (D2:E2) (E:Ends),Rel X.K C M H n ρ Z->Vy X.K C κ D2 E->w D2 n ρ->t E Z H
def Ar:Ai:=λD2 n ρ=>D2.nx n ρ
def Ac(u v:Ai):Ai:=λD2 n ρ=>u { D2 with nx:=v D2 } n ρ
def Aq(w:DW):Ai:=λD2 n ρ=>w n ρ λd n1=>D2.rt d n1
def BA(t:JR)(u v:Ai):Ai:=λD2 n ρ=>t n ρ λc n1=>if c=true then u D2 n1 ρ else v D2 n1 ρ
def A0(i:Nat)(w:DW):Ai:=λD2 n ρ=>w n ρ λd n1=>D2.nx n1 (ρ.set i (.sh d))
section
variable {X:Cx}{κ zP:Kd}{st:Stmt}{rest:List Stmt}{u v:Ai}{wa:DW}{wA:JR}{e c:Expr}{pos:Pos}
theorem Am:Tx X κ [] Ar:=⟨_,NX,λC M H n ρ Z D2 E R L w=>L.nx M H n ρ Z R w⟩
theorem AE(h1:DS X κ st u)(h2:Tx X κ rest v):Tx X κ (st::rest) (Ac u v):=by
 obtain⟨t,a1,a2⟩:=h1;obtain⟨t',b1,b2⟩:=h2;refine⟨_,Bb a1 b1,λC M H n ρ Z D2 E R L w=>?_⟩;exact a2 C M H n ρ Z { D2 with nx:=v D2 } { E with nx:=t' E } R ⟨λM H n ρ Z R w=>b2 C M H n ρ Z D2 E R L w,L.rt,L.bk,L.ct⟩ w
theorem AJ(h1:DS X κ st u):Tx X κ [st] u:=by
 obtain⟨t,a1,a2⟩:=h1;exact⟨t,D_ a1,a2⟩
theorem YJ{K:Frag}{C:Fm}{M:Ch->Prop}{H H':Hp}{n n':Nat}{ρ:List Slot}{Z:L2.St}{D2:E2}{E:Ends}{d:D}{v:V}(R:Rel K C M H n ρ Z)(L:Vy K C κ D2 E)(e:Ext C.U H H')(f:FeedC K C.F M H' n')(r:VR K C.V M H H' κ v d)(hk:κ≠.tp)(p:D2.rt d n'):E.rt v H':=by
 have less:Pres M H' C.M0 H':=Pres.less R.sub;refine L.rt v H' d n' (R.ext.trans e) (f.pres less λ_ _ _ z=>z) ?_ p;cases κ with
 | sh=>exact At.pres less r
 | tp=>exact absurd rfl hk
 | fr =>
  have r':=VR.back (κ:=.fr) R.ext r;obtain⟨a,e1,h1,h2⟩:=r';exact⟨a,e1,h1,h2.pres (Pres.less λb z=>z.imp (R.sub b) id) λ_ z=>z⟩
theorem AV(h:DE X e κ wa)(hk:κ≠.tp:=by intro z; cases z):DS X κ (.Return (some e) pos) (Aq wa):=by
 obtain⟨t,a1,a2⟩:=h;refine⟨_,Gv a1,λC M H n ρ Z D2 E R L w=>?_⟩;exact a2 C M H n ρ Z _ _ R w λv H' d n' e1 f1 r1 p=>YJ R L e1 f1 r1 hk p
theorem Az{a b:List df}(hc:DT X c wA)(ha:Tx X κ a u)(hb:Tx X κ b v):DS X κ (.If c a b pos) (BA wA u v):=by
 obtain⟨t,a1,a2⟩:=hc;obtain⟨t',b1,b2⟩:=ha;obtain⟨t'',c1,c2⟩:=hb;refine⟨_,Ui a1 b1 c1,λC M H n ρ Z D2 E R L w=>?_⟩;refine a2 C M H n ρ Z _ _ R w λb H1 n1 e1 f1 p=>?_;cases b with
 | true=>exact b2 C M H1 n1 ρ Z D2 E (R.step e1 f1) L p
 | false=>exact c2 C M H1 n1 ρ Z D2 E (R.step e1 f1) L p
theorem An{i:Nat}{x:Str}{pos':Pos}(hN:X.N.Nodup)(hi:X.N[i]?=some x)(hx:Loc X.env.scope x)(he:DE X e zP wa)(hk:zP≠.tp:=by intro z; cases z)(hs:swapsWith e (some (.Name x pos')) pos.line X.env=pure false:=by rfl)
  (hf:X.fn x=true\/X.env.scope.names.lookup x=some .local:=by first | exact .inl rfl | exact .inr rfl | assumption):DS X κ (.Assign [.Name x pos'] e pos) (A0 i wa):=by
 obtain⟨t,a1,a2⟩:=he;refine⟨_,Fb hN hi hx a1 hs hf,λC M H n ρ Z D2 E R L w=>?_⟩;refine a2 C M H n ρ Z _ _ R w λv H' d n' e1 f1 r1 p=>?_;exact L.nx M H' n' _ _ ((R.step e1 f1).set (r1.shOf R.dom hk)) p
end
section
variable {X:Cx}{κ:Kd}{e:Expr}{wa:DW}{pos:Pos}
def DY(i:Nat)(w:DW):Ai:=λD2 n ρ=>w n ρ λd n1=>D2.nx n1 (ρ.set i (.ow d))
theorem CM{i:Nat}{x:Str}{pos':Pos}(hN:X.N.Nodup)(hi:X.N[i]?=some x)(hx:Loc X.env.scope x)(he:DE X e .fr wa)(hs:swapsWith e (some (.Name x pos')) pos.line X.env=pure false:=by rfl)
  (hf:X.fn x=true\/X.env.scope.names.lookup x=some .local:=by first | exact .inl rfl | exact .inr rfl | assumption):DS X κ (.Assign [.Name x pos'] e pos) (DY i wa):=by
 obtain⟨t,a1,a2⟩:=he;refine⟨_,Fb hN hi hx a1 hs hf,λC M H n ρ Z D2 E R L w=>?_⟩;refine a2 C M H n ρ Z _ _ R w λv H' d n' e1 f1 r1 p=>?_;obtain⟨a,rfl,h1,h2⟩:=r1;exact L.nx _ H' n' _ _ (R.setOw e1 f1 h1 h2) p
def OT(i:Nat):Ai:=λD2 n ρ=>∃d,ρ[i]?=some (.ow d)/\D2.rt d n
theorem Ro{x:Str}{p:Pos}(i:Nat)(h:PE X (.Name x p) (CG i)):DS X .fr (.Return (some (.Name x p)) pos) (OT i):=by
 refine⟨_,Gv h,λC M H n ρ Z D2 E R L ⟨d,hd,hw⟩=>?_⟩;obtain⟨a,e1,m,nv,t⟩:=R.sl i _ hd;refine⟨.ref a,getD_some e1,L.rt _ H d n R.ext (R.feed.pres (Pres.less R.sub) λ_ _ _ z=>z) ⟨a,rfl,(R.new i _ a hd rfl e1).2,?_⟩ hw⟩;exact t.pres (Pres.less λb z=>z.elim (R.sub b) λz=>by rw [z]; exact m) λ_ z=>z
def Zb(K:Frag)(r:V->List V->Hp->VK->Prop)(f:D->List D->(D->D->Prop)->Prop):Prop:=∀(M:Ch->Prop) (H:Hp) (a:Ch) (d:D) (ds:List D) (vs:List V) (P:D->D->Prop) (Q:VK),M a->Tops K M H a d->Ats K M H ds vs->f d ds P ->
 (∀o e z v,Tops K M (BK H a o) a e->At K M (BK H a o) z v->P e z->Q v (BK H a o))->r (.ref a) vs H Q
def Lr(i:Nat)(T:String)(f:D->List D->(D->D->Prop)->Prop)(ws:Ex):Ai:=λD2 n ρ=>∃d,ρ[i]?=some (.ow d)/\bp T d/\ws n ρ λds n1=>f d ds λe _=>D2.nx n1 (ρ.set i (.ow e))
theorem GB{M:Ch->Prop}{H:Hp}{a:Ch}{o u:HO}(m:M a)(e:H a=some u)(t:∀vs,u≠.tup vs:=by intro _ z; cases z):Pres M H M (BK H a o):=⟨λb o' q nb=>by rw [Aa (λz=>nb (by rw [z]; exact m))]; exact q,λ_ z=>.inl z,λb vs q=>by rw [Aa (λz=>by rw [z,e] at q; exact t vs (c_ q))]; exact q⟩
theorem Ej{x name:Str}{p apos cpos:Pos}{T id:String}{r:V->List V->Hp->VK->Prop}{f:D->List D->(D->D->Prop)->Prop}{es:List dO}{ws:Ex}(i:Nat)(pa:PlainAttrs T)(slot:PySem.Slot T name id)(hty:typeOf (.builtin id)=pure (.type "method_descriptor"))
  (hm:Zc X id r) (hA:Zb X.K r f) (h:PE X (.Name x p) (CG i)) (ha:Xx X (e::es) ws)
  (hbase:attributeBase (.Name x p) name X.env (eval (.Name x p) X.env)=eval (.Name x p) X.env:=by rfl)
  (hfew:((backTo cpos (starEach (e::es) X.env)).all (λx=>!x.1)&&(backToKw cpos (keywordEach [] X.env)).all (λx=>x.1.isSome)
   && decide ((e::es).length+([]:List gK).length+(if ([]:List gK).isEmpty then 0 else 1)<30))=true:=by rfl)
  (hline:(apos.endLine==cpos.line)=true:=by rfl) (hs:starEach (e::es) X.env=(false,eval e X.env)::starEach es X.env:=by rfl) (hplain:(backTo cpos (starEach es X.env)).any (·.1)=false:=by rfl)
  (hsw:swapsWith (.Call (.Attribute (.Name x p) name apos) (e::es) [] cpos) none pos.line X.env=pure false:=by rfl) :
  DS X κ (.Expr (.Call (.Attribute (.Name x p) name apos) (e::es) [] cpos) pos) (Lr i T f ws):=by
 obtain⟨t,a1,a2⟩:=ha;refine⟨_,WK (Xd pa slot hty hm h a1 hbase hfew hline hs hplain) hsw,λC M H n ρ Z D2 E R L ⟨d,hd,hT,hw⟩=>?_⟩;obtain⟨a,e1,m,nv,tt⟩:=R.sl i _ hd;refine⟨.ref a,getD_some e1,VE hT (tt.att nv),?_⟩;refine a2 C M H n ρ Z _ _ R hw λvs H1 ds n1 ee f1 r1 p=>?_;have R1:=R.step ee f1;obtain⟨a',e1',m',nv',tt'⟩:=R1.sl i _ hd;rw [e1] at e1';cases e1';exact hA M H1 a d ds vs _ _ m' tt' r1 p λo d' z v t2 hz pp=>L.nx M _ n1 _ Z (R1.mut hd e1 t2) pp
def Ei(d:D)(ds:List D)(P:D->D->Prop):Prop:=∃xs y,d=.lst xs/\ds=[y]/\xs.length<sizeLine/\P (.lst (xs++[y])) .non
theorem FN{K:Frag}:Zb K RC Ei:=by
 intro M H a d ds vs P Q m t hv w q;obtain⟨xs,y,rfl,rfl,hl,w⟩:=w;obtain⟨us,h1,h2⟩:=t;obtain⟨u,r,rfl,hu,hr⟩:=hv;cases (show r=[] from hr);refine⟨a,us,u,rfl,rfl,h1,by rw [h2.length]; exact hl,q _ (.lst (xs++[y])) .non _ ⟨us++[u],Ap,?_⟩ rfl w⟩;exact(h2.append (Ats.one hu)).pres (GB m h1)
end
def Yields(K:Frag)(M:Ch->Prop)(H:Hp)(J:It)(ds:List D):Prop:=∀(i:Nat) (M':Ch->Prop) (H':Hp),Pres M H M' H'->(∀a,M' a->∃o,H' a=some o) ->
 (∀d,ds[i]?=some d->J.go i H'/\∀x H2,J.yld i H' x H2->Grow H' H2/\At K M' H2 d x)/\(ds.length<=i->J.stop i H')
def R7(K:Frag)(U M:Ch->Prop)(H:Hp)(J:It)(ds:List D):Prop:=∀(i:Nat) (M':Ch->Prop) (H':Hp),Pres M H M' H'->Ext U H H'->(∀a,M' a->∃o,H' a=some o) ->
 (∀d,ds[i]?=some d->J.go i H'/\∀x H2,J.yld i H' x H2->Grow H' H2/\At K M' H2 d x)/\(ds.length<=i->J.stop i H')
theorem Yields.e{K:Frag}{U M:Ch->Prop}{H:Hp}{J:It}{ds:List D}(h:Yields K M H J ds):R7 K U M H J ds:=λi M' H' p _ d=>h i M' H' p d
def Zg(X:Cx)(tg iter:dO)(w:Ex):Prop:=∃wi,PI X tg iter wi/\∀(C:Fm) (M:Ch->Prop) (H:Hp) (n:Nat) (ρ:List Slot) (Z:L2.St) (P:List D->Nat->Prop) (R:It->Hp->Prop),Rel X.K C M H n ρ Z->w n ρ P ->
 (∀J H' ds n',Ext C.U H H'->FeedC X.K C.F M H' n'->R7 X.K C.U M H' J ds->P ds n'->R J H')->wi Z H R
def DI(X:Cx)(tg iter:dO)(w:Ex):Prop:=∃wi,PI X tg iter wi/\∀(C:Fm) (M:Ch->Prop) (H:Hp) (n:Nat) (ρ:List Slot) (Z:L2.St) (P:List D->Nat->Prop) (R:It->Hp->Prop),Rel X.K C M H n ρ Z->w n ρ P ->
 (∀J H' ds n',Ext C.U H H'->FeedC X.K C.F M H' n'->Yields X.K M H' J ds->P ds n'->R J H')->wi Z H R
def signs(x:Str):List D:=x.cps.toList.map λc=>.str ⟨#[c]⟩
def BF(w:DW):Ex:=λn ρ P=>w n ρ λd n1=>match d with
 | .lst ds=>P ds n1
 | .tup ds=>P ds n1
 | .str x=>P (signs x) n1
 | _=>False
theorem OQ{K:Frag}{M:Ch->Prop}{H:Hp}{a:Ch}{vs:List V}{ds:List D}(h:NdL M H a vs)(hs:Ats K M H ds vs):Yields K M H (cI K a) ds:=by
 intro i M' H' p _;have hq:SqL K H' a vs:=(h.pres p).sq;refine⟨λd hd=>?_,λhl=>⟨vs,hq,by rw [hs.length]; exact hl⟩⟩;obtain⟨v,e,hv⟩:=(hs.pres p).get hd;refine⟨⟨vs,v,hq,e⟩,λx H2 y=>?_⟩;obtain⟨e2,y⟩:=y;subst e2
 have:some v=some x:=e.symm.trans (y vs hq)
 cases this;exact⟨.refl,hv⟩
theorem KI{K:Frag}{M:Ch->Prop}{H:Hp}{a:Ch}{vs:List V}{ds:List D}(h:NdT M H a vs)(hs:Ats K M H ds vs):Yields K M H (Ze K a) ds:=by
 intro i M' H' p _;have hq:SqT K H' a vs:=(h.pres p).sq;refine⟨λd hd=>?_,λhl=>⟨vs,hq,by rw [hs.length]; exact hl⟩⟩;obtain⟨v,e,hv⟩:=(hs.pres p).get hd;refine⟨⟨vs,v,hq,e⟩,λx H2 y=>?_⟩;obtain⟨e2,y⟩:=y;subst e2
 have:some v=some x:=e.symm.trans (y vs hq)
 cases this;exact⟨.refl,hv⟩
theorem yields_str{K:Frag}{M:Ch->Prop}{H:Hp}{z:Str}:Yields K M H (cH z) (signs z):=by
 intro i M' H' p _;refine⟨λd hd=>?_,λhl=>?_⟩
 ·unfold signs at hd
  rw [dC] at hd
  have hi:i<z.cps.size:=by
   cases q:z.cps.toList[i]? with
   | none=>rw [q] at hd; cases hd
   | some c=>simpa using (c8.mp q).1
  refine⟨hi,λx H2 y=>?_⟩;obtain⟨e2,c,hc,rfl⟩:=y;subst e2
  have:z.cps.toList[i]?=some c:=by simpa using hc
  rw [this] at hd;have hd':D.str ⟨#[c]⟩=d:=c_ hd;subst hd';exact⟨.refl,rfl,by rw [d7]; show 1<=16777216; decide⟩
 ·show z.cps.size<=i
  unfold signs at hl
  simpa using hl
def Cd(lo:Int)(n:Nat):List D:=(dW n).map fun(i:Nat)=>.int (lo+(i:Int))
theorem HD{K:Frag}{M:Ch->Prop}{H:Hp}{lo:Int}{m:Nat}:Yields K M H (bB lo m) (Cd lo m):=by
 intro i M' H' p _;refine⟨λd hd=>?_,λhl=>?_⟩
 ·unfold Cd at hd
  rw [dC] at hd
  have hi:i<m:=by
   cases q:(dW m)[i]? with
   | none=>rw [q] at hd; cases hd
   | some c=>simpa using (c8.mp q).1
  rw [ir hi] at hd;have hd':D.int (lo+i)=d:=c_ hd;subst hd';refine⟨hi,λx H2 y=>?_⟩;obtain⟨e2,e3⟩:=y;subst e2;exact⟨.refl,e3⟩
 ·show m<=i
  unfold Cd at hl
  simpa using hl
section
variable {X:Cx}{tg e e2:Expr}{κ:Kd}{wa:DW}{ws:Ex}{p pos:Pos}
theorem LO(h:DE X e κ wa)(hk:κ≠.tp:=by intro z; cases z):DI X tg e (BF wa):=by
 obtain⟨t,a1,a2⟩:=h;refine⟨_,QP a1,λC M H n ρ Z P Rr R w q=>?_⟩;refine a2 C M H n ρ Z _ _ R w λv H1 d n1 e1 f1 r1 p=>?_;have hv:=r1.shOf R.dom hk;cases d with
 | lst ds =>
  obtain⟨a,vs,e,hn,hs⟩:=hv;exact .inl ⟨a,e,⟨vs,hn.sq⟩,q _ H1 ds n1 e1 f1 (OQ hn hs) p⟩
 | tup ds =>
  obtain⟨a,vs,e,hn,hs⟩:=hv;exact .inr (.inl ⟨a,e,⟨vs,hn.sq⟩,q _ H1 ds n1 e1 f1 (KI hn hs) p⟩)
 | str z=>exact .inr (.inr ⟨z,hv.1,q _ H1 _ n1 e1 f1 yields_str p⟩)
 | _=>exact p.elim
def Eb(ws:Ex):Ex:=λn ρ P=>ws n ρ λds n1=>∃j:Int,ds=[.int j]/\(-(2 ^ 62)<=j/\j<2 ^ 62)/\P (Cd 0 j.toNat) n1
theorem Cc(hg:Gl X "range")(hm:X.mg "range"=none)(ha:V3 X [e] ws)(hs:starEach [e] X.env=[(false,eval e X.env)]:=by rfl):DI X tg (.Call (.Name "range" p) [e] [] pos) (Eb ws):=by
 obtain⟨t,a1,a2⟩:=ha;refine⟨_,Sr hg hm a1 hs,λC M H n ρ Z P Rr R w q=>?_⟩;refine a2 C M H n ρ Z _ _ R w λvs H1 ds n1 e1 f1 r1 p=>?_;obtain⟨j,rfl,hj,p⟩:=p;cases r1 with
 | cons r rr =>
  cases rr;have hv:_=V.int j:=r;exact⟨j,by rw [hv],hj.1,hj.2,q _ H1 _ n1 e1 f1 HD p⟩
theorem DI.c(h:DI X tg e ws):Zg X tg e ws:=by
 obtain⟨wi,a1,a2⟩:=h;exact⟨wi,a1,λC M H n ρ Z P Rr R w q=>a2 C M H n ρ Z P Rr R w λJ H' ds n' e1 f1 y p=>q J H' ds n' e1 f1 y.e p⟩
theorem BI(h:DE X e κ wa):Zg X tg e (BF wa):=by
 obtain⟨t,a1,a2⟩:=h;refine⟨_,QP a1,λC M H n ρ Z P Rr R w q=>?_⟩;refine a2 C M H n ρ Z _ _ R w λv H1 d n1 e1 f1 r1 p=>?_;have hv:AtT X.K C.V M H1 d v:=r1.tpOf R.dom R.vM;cases d with
 | lst ds =>
  obtain⟨a,vs,e,nv,hr,hs⟩:=hv;refine .inl ⟨a,e,⟨vs,.inl hr⟩,q _ H1 ds n1 e1 f1 (λi M' H' pr ex _=>?_) p⟩
  have hq:SqL X.K H' a vs:=by
   rcases hr with hr | ⟨o,hr⟩
   ·exact .inl (.inl (ex.keep hr λz=>nv (R.uV a z)))
   ·exact .inl (.inr ⟨o,ex.keep hr λz=>nv (R.uV a z)⟩)
  refine⟨λd hd=>?_,λhl=>⟨vs,hq,by rw [hs.length]; exact hl⟩⟩;obtain⟨v,e,hv⟩:=(hs.pres pr).get hd;refine⟨⟨vs,v,hq,e⟩,λx H2 y=>?_⟩;obtain⟨e2,y⟩:=y;subst e2
  have:some v=some x:=e.symm.trans (y vs hq)
  cases this;exact⟨.refl,hv⟩
 | tup ds =>
  obtain⟨a,vs,e,hn,hs⟩:=hv;exact .inr (.inl ⟨a,e,⟨vs,hn.sq⟩,q _ H1 ds n1 e1 f1 (KI hn hs).e p⟩)
 | str z=>exact .inr (.inr ⟨z,hv.1,q _ H1 _ n1 e1 f1 yields_str.e p⟩)
 | _=>exact p.elim
end
abbrev BW:=D->List Slot->(List Slot->Prop)->Prop
def DG(X:Cx)(tg:dO)(b:BW):Prop:=∃g,PG X tg g/\∀(C:Fm) (M:Ch->Prop) (H:Hp) (n:Nat) (ρ:List Slot) (Z:L2.St) (d:D) (v:V) (P:List Slot->Prop) (Q:L2.St->Hp->Prop),Rel X.K C M H n ρ Z->At X.K M H d v->b d ρ P ->
 (∀zY zZ,Rel X.K C M H n zY zZ->P zY->Q zZ H)->g v Z H Q
def Ad(i:Nat):BW:=λd ρ P=>P (ρ.set i (.sh d))
theorem Ab{X:Cx}{i:Nat}{x:Str}{pos:Pos}(hN:X.N.Nodup)(hi:X.N[i]?=some x)(hx:Loc X.env.scope x)(hf:X.fn x=true\/X.env.scope.names.lookup x=some .local:=by first | exact .inl rfl | exact .inr rfl | assumption):DG X (.Name x pos) (Ad i) :=
 ⟨_,HP hN hi hx hf,λC M H n ρ Z d v P Q R h w q=>q _ _ (R.set h) w⟩
def Be(b:BW)(body:Ai)(D2:E2):List D->Nat->List Slot->Prop
 | [],n,ρ=>D2.nx n ρ
 | d::ds,n,ρ=>b d ρ λzU=>body { D2 with nx:=Be b body D2 ds,ct:=Be b body D2 ds,bk:=D2.nx } n zU
def Ez(src:Ex)(b:BW)(body:Ai):Ai:=λD2 n ρ=>src n ρ λds n1=>Be b body D2 ds n1 ρ
theorem Rel.unpin{K:Frag}{C:Fm}{p:(Ch->Prop)×Hp}{M:Ch->Prop}{H:Hp}{n:Nat}{ρ:List Slot}{Z:L2.St}(R:Rel K { C with zG:=p::C.zG } M H n ρ Z):Rel K C M H n ρ Z :=
 ⟨R.len,R.sub,R.dom,R.ext,R.fU,R.uV,R.vM,R.feed,R.sl,λq hq=>R.pin q (Rs _ hq),R.br0,R.new,R.two,R.kept⟩
theorem Rel.pinned{K:Frag}{C:Fm}{M:Ch->Prop}{H:Hp}{n:Nat}{ρ:List Slot}{Z:L2.St}(R:Rel K C M H n ρ Z):Rel K { C with zG:=(M,H)::C.zG } M H n ρ Z :=
 ⟨R.len,R.sub,R.dom,R.ext,R.fU,R.uV,R.vM,R.feed,R.sl,λq hq=>(T0.mp hq).elim (λe=>e▸Pres.refl M H) (R.pin q),R.br0,R.new,R.two,R.kept⟩
section
variable {X:Cx}{κ:Kd}{tg iter:Expr}{body:List Stmt}{src:Ex}{b:BW}{wb:Ai}{pos:Pos}
theorem CV(hp:jm (model X.prog X.w) X.A X.env X.xe)(hc:X.calm=true)(hi:DI X tg iter src)(hg:DG X tg b)(hb:Tx X κ body wb)
  (hs:∀x,foldedSetIterable iter X.env x=pure x:=by intro _; rfl):DS X κ (.For tg iter body [] pos) (Ez src b wb):=by
 obtain⟨wi,a1,a2⟩:=hi;obtain⟨g,g1,g2⟩:=hg;obtain⟨tb,b1,b2⟩:=hb;refine⟨_,NY hp hc a1 g1 b1 hs,λC M H n ρ Z D2 E R L w=>?_⟩;refine a2 C M H n ρ Z _ _ R w λJ H1 ds n1 e1 f1 y w1=>?_;have R1:=R.step e1 f1;refine⟨λi m zZ H'=>m=ds.length - i/\i<=ds.length/\∃M' n' zY,Rel X.K { C with zG:=(M,H1)::C.zG } M' H' n' zY zZ/\Be b wb D2 (ds.drop i) n' zY,⟨ds.length,by simp,dD _,M,n1,ρ,R1.pinned,w1⟩,?_⟩;rintro i m zZ H' ⟨rfl,hi,M',n',zY,R',w'⟩;have pr:Pres M H1 M' H':=R'.pin (M,H1) On
 by_cases hlt:i<ds.length
 ·have ed:ds.drop i=ds[i]::ds.drop (i+1):=e7 hlt
  rw [ed] at w';obtain⟨go,yl⟩:=(y i M' H' pr R'.dom).1 ds[i] (FM hlt);refine .inr ⟨go,λzN H2=>∃M2 n2 zL,Rel X.K { C with zG:=(M,H1)::C.zG } M2 H2 n2 zL zN/\Be b wb D2 (ds.drop (i+1)) n2 zL,λzN H2 ⟨M2,n2,zL,R2',w2⟩=>⟨ds.length - (i+1),by omega,rfl,hlt,M2,n2,zL,R2',w2⟩,λx H2 hy=>?_⟩;obtain⟨gr,hx⟩:=yl x H2 hy;have R2':=R'.step gr.ext (R'.feed.grow gr);refine g2 _ M' H2 n' zY zZ ds[i] x _ _ R2' hx w' λzQ zV R3 w3=>?_;refine b2 _ M' H2 n' zQ zV { D2 with nx:=Be b wb D2 (ds.drop (i+1)),ct:=Be b wb D2 (ds.drop (i+1)),bk:=D2.nx } _ R3 ⟨λM4 H4 n4 zS zR R4 w4=>⟨M4,n4,zS,R4,w4⟩,L.rt,λM4 H4 n4 zS zR R4 w4=>L.nx M4 H4 n4 zS zR R4.unpin w4,λM4 H4 n4 zS zR R4 w4=>⟨M4,n4,zS,R4,w4⟩⟩ w3
 ·have e:i=ds.length:=by omega
  subst e;rw [gl] at w';exact .inl ⟨(y _ M' H' pr R'.dom).2 (Sc _),L.nx M' H' n' zY zZ R'.unpin w'⟩
end
def Cr(b:BW)(tt:JR)(te:DW)(P:List D->Nat->Prop):List D->List D->Nat->List Slot->Prop
 | [],acc,n,_=>P acc n
 | d::ds,acc,n,ρ=>b d ρ λzU=>tt n zU λc n1=>if c=true then te n1 zU λy n2=>Cr b tt te P ds (acc++[y]) n2 zU else Cr b tt te P ds acc n1 zU
def TD:Slot->Slot
 | .ow d=>.br d
 | .lt _ d=>.br d
 | s=>s
theorem TC(s:Slot):(TD s).owns=false:=by cases s <;> rfl
theorem FC{js:List (Option Nat)}{ρ:List Slot}{i:Nat}{s:Slot}(h:(js.map λo=>match o with | some i=>TD ((ρ[i]?).getD .no) | none=>Slot.no)[i]?=some s):s.owns=false:=by
 rw [dC] at h;cases q:js[i]? with
 | none=>rw [q] at h; cases h
 | some o =>
  rw [q] at h;cases o with
  | none =>
   have e:Slot.no=s:=c_ h;rw [← e]; rfl
  | some j =>
   have e:TD ((ρ[j]?).getD .no)=s:=c_ h;rw [← e]; exact TC _
def HW(js:List (Option Nat))(ρ:List Slot):List Slot:=js.map λo=>match o with
 | some i=>TD ((ρ[i]?).getD .no)
 | none=>.no
def BU(js:List (Option Nat))(src:Ex)(b:BW)(tt:JR)(te:DW):DW:=λn ρ P=>src n ρ λds n1=>ds.length<=10000000/\Cr b tt te (λacc n2=>P (.lst acc) n2) ds [] n1 (HW js ρ)
def Zn(X:Cx)(ifs:List dO)(w:JR):Prop:=∃t,az X ifs t/\∀(C:Fm) (M:Ch->Prop) (H:Hp) (n:Nat) (ρ:List Slot) (Z:L2.St) (P:Bool->Nat->Prop) (Q:Bool->Hp->Prop),Rel X.K C M H n ρ Z->w n ρ P ->
 (∀b H' n',Ext C.U H H'->FeedC X.K C.F M H' n'->P b n'->Q b H')->t Z H Q
def Bm:JR:=λn _ P=>P true n
theorem A_{X:Cx}:Zn X [] Bm:=⟨_,WN,λC M H n ρ Z P Q R w q=>q true H n (Ext.refl _ _) R.feed w⟩
theorem Rq{X:Cx}{c:dO}{w:JR}(h:DT X c w):Zn X [c] w:=by
 obtain⟨t,h1,h2⟩:=h;exact⟨t,WM h1,h2⟩
theorem MU{js:List (Option Nat)}{ρ:List Slot}{Z:L2.St}{i:Nat}{s:Slot}(hs:(HW js ρ)[i]?=some s):s=.no\/∃(j:Nat) (s':Slot),ρ[j]?=some s'/\s=TD s'/\((Cv js Z)[i]?).getD none=(Z[j]?).getD none:=by
 unfold HW at hs;unfold Cv;rw [dC] at hs ⊢;cases q:js[i]? with
 | none=>rw [q] at hs; cases hs
 | some o =>
  rw [q] at hs;cases o with
  | none=>exact .inl (c_ hs).symm
  | some j =>
   have e:TD ((ρ[j]?).getD .no)=s:=c_ hs;cases q2:ρ[j]? with
   | none=>rw [q2] at e; exact .inl e.symm
   | some s' =>
    rw [q2] at e;exact .inr ⟨j,s',q2,e.symm,rfl⟩
theorem PN{K:Frag}{F:Option (Ch×Ch)}{U U' M M':Ch->Prop}{H H':Hp}{js:List (Option Nat)}{ρ:List Slot}{Z:L2.St}(hsl:∀(i:Nat) (s:Slot),ρ[i]?=some s->SlotOk K F U M H s ((Z[i]?).getD none))
  (pr:Pres M H M' H') (br:∀d v,AtT K U M H d v->AtT K U' M' H' d v):∀(i:Nat) (s:Slot),(HW js ρ)[i]?=some s->SlotOk K F U' M' H' s (((Cv js Z)[i]?).getD none):=by
 intro i s hs
 rcases MU (Z:=Z) hs with rfl | ⟨j,s',q,rfl,e⟩
 ·trivial
 ·rw [e]
  have h1:=hsl j s' q;cases s' with
  | no=>trivial
  | sh d=>obtain⟨v,e1,h2⟩:=h1; exact⟨v,e1,h2.pres pr⟩
  | ex a nm ks ds=>obtain⟨e1,h2⟩:=h1; exact⟨e1,h2.pres pr⟩
  | br d=>obtain⟨v,e1,h2⟩:=h1; exact⟨v,e1,br d v h2⟩
  | fd=>exact h1
  | ow d=>obtain⟨a,e1,_,nv,t⟩:=h1; exact⟨.ref a,e1,br d _ (t.att nv)⟩
  | lt a d=>obtain⟨e1,_,nv,t⟩:=h1; exact⟨.ref a,e1,br d _ (t.att nv)⟩
theorem RQ{K:Frag}{F:Option (Ch×Ch)}{U M:Ch->Prop}{H:Hp}{js:List (Option Nat)}{ρ:List Slot}{Z:L2.St}(hsl:∀(i:Nat) (s:Slot),ρ[i]?=some s->SlotOk K F U M H s ((Z[i]?).getD none)){i:Nat}{d:D}{a:Ch}
  (hs:(HW js ρ)[i]?=some (.br d)) (ha:((Cv js Z)[i]?).getD none=some (.ref a)):∃o,H a=some o:=by
 rcases MU (Z:=Z) hs with z | ⟨j,s',q,z,e⟩
 ·cases z
 ·rw [e] at ha
  have h1:=hsl j s' q;rw [ha] at h1;cases s' with
  | br d=>obtain⟨v,e1,h2⟩:=h1; cases e1; exact h2.lies
  | ow d=>obtain⟨b,e1,_,nv,t⟩:=h1; cases e1; exact(t.att nv).lies
  | lt b d=>obtain⟨e1,_,nv,t⟩:=h1; cases e1; exact(t.att nv).lies
  | no=>cases z
  | sh d=>cases z
  | ex a nm ks ds=>cases z
  | fd=>cases z
section
variable {X:Cx}{zP:Kd}{tg elt iter:Expr}{ifs:List Expr}{sc:Scope}{pos:Pos}{src:Ex}{b:BW}{tt:JR}{te:DW}
theorem W7(hc:X.calm=true)(N':List Str)(js:List (Option Nat))(hi:Zg X tg iter src)(hg:∀cl C s H fp,DG (BD X sc N' cl C s H fp) tg b)(ht:∀cl C s H fp,Zn (BD X sc N' cl C s H fp) ifs tt)(he:∀cl C s H fp,DE (BD X sc N' cl C s H fp) elt zP te)
  (hB:JI sc X.env.scope X.N N' js=true) (hk:zP≠.tp:=by intro z; cases z)
  (hs:∀x,foldedSetIterable iter X.env x=pure x:=by intro _; rfl):DE X (.ListComp elt [⟨tg,iter,ifs,0⟩] sc pos) .fr (BU js src b tt te):=by
 obtain⟨wi,a1,a2⟩:=hi;refine⟨_,WQ hc N' js a1 hB hs,λC M H n ρ Z P Q R w q=>?_⟩;refine a2 C M H n ρ Z _ _ R w λJ H1 ds n1 e1 f1 y w1=>?_;obtain⟨hlen,w1⟩:=w1;have R1:=R.step e1 f1;intro l hl hkl cl Ca s0 H0 fp;obtain⟨g,g1,g2⟩:=hg cl Ca s0 H0 fp;obtain⟨tc,c1,c2⟩:=ht cl Ca s0 H0 fp;obtain⟨tx,x1,x2⟩:=he cl Ca s0 H0 fp
 have noU:¬C.U l:=λz=>by
  obtain⟨o,z⟩:=R1.udom l z;rw [hl] at z; cases z
 generalize hM':(λb=>M b\/b=l)=M';have M'l:M' l:=by rw [← hM']; exact .inr rfl
 have M'of:∀b,M b->M' b:=λb z=>by rw [← hM']; exact .inl z
 have ofM':∀b,M' b->M b\/b=l:=λb z=>by rw [← hM'] at z; exact z
 have inV:∀b,C.V b\/b=l->M' b:=λb z=>z.elim (λz=>M'of b (R1.vM b z)) λz=>by rw [z]; exact M'l
 have lenj:js.length=N'.length:=Fl (CompOk.of hB).cap
 refine⟨g,tc,tx,λi m zZ H'=>m=ds.length - i/\i<=ds.length/\∃n' zY acc vs,Rel X.K ⟨M',C.F,C.U,λb=>C.V b\/b=l,H1,[],[]⟩ M' H' n' zY zZ/\H' l=some (.lst vs)/\Ats X.K M' H' acc vs/\acc.length<=i/\Pres M H1 M' H' /\
   Cr b tt te (λacc n2=>P (.lst acc) n2) (ds.drop i) acc n' zY,g1,c1,x1,⟨ds.length,by simp,dD _,n1,HW js ρ,[],[],?_⟩,?_⟩
 ·have gr:Grow H1 (BK H1 l (.lst [])):=BH hl
  have pr:Pres M H1 M' (BK H1 l (.lst [])):=⟨λb o e _=>gr.all b o e,λb z=>(ofM' b z).elim .inl λz=>.inr (by rw [z]; exact hl),λb vs e=>gr.all b _ e⟩;refine⟨⟨?_,λa z=>z,λa z=>?_,gr.ext,R1.fU,λa z=>.inl (R1.uV a z),inV,f1.pres pr λf o _ e=>gr.all f.1 o e,?_,λp hp=>absurd hp (by simp),λi d a q z=>RQ R1.sl q z,λi s a q o _=>absurd o (by rw [FC q]; decide),λi j s t a q o _ _ _ _=>absurd o (by rw [FC q]; decide),λp hp=>absurd hp (by simp)⟩,Ap,rfl,dD _,pr,w1⟩
  ·unfold HW Cv
   rw [Go,Go]
  ·rcases ofM' a z with z | z
   ·obtain⟨o,z⟩:=R1.dom a z
    exact⟨o,gr.all a o z⟩
   ·subst z
    exact⟨_,Ap⟩
  ·refine PN R1.sl pr λd v h=>h.same pr (λa o _ e=>gr.all a o e) λa e n1 z=>z.elim n1 λz=>?_
   subst e;obtain⟨o,w⟩:=h.lies;rw [z,hl] at w;cases w
 ·rintro i m zZ H' ⟨rfl,hi,n',zY,acc,vs,R',hlv,hac,hal,pr,w'⟩
  by_cases hlt:i<ds.length
  ·have ed:ds.drop i=ds[i]::ds.drop (i+1):=e7 hlt
   rw [ed] at w';obtain⟨go,yl⟩:=(y i M' H' pr R'.ext R'.dom).1 ds[i] (FM hlt);refine .inr ⟨go,λx H2 hy=>?_⟩;obtain⟨gr,hx⟩:=yl x H2 hy;have R2':=R'.step gr.ext (R'.feed.grow gr);refine g2 _ M' H2 n' zY zZ ds[i] x _ _ R2' hx w' λzQ zV R3 w3=>?_;refine c2 _ M' H2 n' zQ zV _ _ R3 w3 λc H4 n4 e4 f4 w4=>?_;have R4:=R3.step e4 f4;have p4:Pres M' H' M' H4:=gr.pres.trans (R3.pres e4);have l4:H4 l=some (.lst vs):=e4.keep (gr.all _ _ hlv) noU;cases c with
   | false=>exact⟨ds.length - (i+1),by omega,rfl,hlt,n4,zQ,acc,vs,R4,l4,hac.pres p4,by omega,pr.trans p4,w4⟩
   | true =>
    refine x2 _ M' H4 n4 zQ zV _ _ R4 w4 λyv H5 d5 n5 e5 f5 r5 w5=>?_;have R5:=R4.step e5 f5;have p5:Pres M' H4 M' H5:=R4.pres e5;have l5:H5 l=some (.lst vs):=e5.keep l4 noU;have hy5:=r5.shOf R4.dom hk;have a5:=(hac.pres p4).pres p5;have pu:Pres M' H5 M' (BK H5 l (.lst (vs++[yv]))):=GB M'l l5;have hvl:vs.length=acc.length:=hac.length;refine⟨vs,l5,by rw [d7]; omega,ds.length - (i+1),by omega,rfl,hlt,n5,zQ,acc++[d5],vs++[yv],?_,Ap,(a5.append (Ats.one hy5)).pres pu,by rw [c9,dR]; omega,(pr.trans p4).trans (p5.trans pu),w5⟩;refine⟨R5.len,R5.sub,λa z=>?_,λb o e=>?_,R5.fU,R5.uV,R5.vM,?_,λj s hs=>?_,λp hp=>absurd hp (by simp),R5.br0,R5.new,R5.two,λp hp=>absurd hp (by simp)⟩
    ·by_cases ha:a=l
     ·subst ha; exact⟨_,Ap⟩
     ·rw [Aa ha]; exact R5.dom a z
    ·obtain⟨o',q1,q2⟩:=R5.ext b o e
     by_cases hb:b=l
     ·subst hb
      have e':H1 b=some o:=e;rw [hl] at e'; cases e'
     ·exact⟨o',by rw [Aa hb]; exact q1,q2⟩
    ·refine f5.pres pu λf o hf e=>?_
     rw [Aa (λz=>noU (by rw [← z]; exact R1.fU f hf))];exact e
    ·have hs5:=R5.sl j s hs
     cases s with
     | no=>trivial
     | sh d=>obtain⟨v,e1,h2⟩:=hs5; exact⟨v,e1,h2.pres pu⟩
     | ex a nm ks ds=>obtain⟨e1,h2⟩:=hs5; exact⟨e1,h2.pres pu⟩
     | br d =>
      obtain⟨v,e1,h2⟩:=hs5;refine⟨v,e1,h2.same pu (λa o z e=>?_) λ_ _ z=>z⟩;subst z;obtain⟨o3,w⟩:=R5.br0 j d a hs e1
      have hal:a≠l:=λz=>by
       have w':H1 a=some o3:=w;rw [z,hl] at w'; cases w'
      rw [Aa hal]; exact e
     | ow d =>
      obtain⟨a,e1,h2,_⟩:=hs5;exact absurd h2 (R5.new j _ a hs rfl e1).1
     | lt a d =>
      obtain⟨e1,h2,_⟩:=hs5;exact absurd h2 (R5.new j _ a hs rfl e1).1
     | fd=>exact hs5
  ·have e:i=ds.length:=by omega
   subst e;rw [gl] at w';refine .inl ⟨(y _ M' H' pr R'.ext R'.dom).2 (Sc _),?_⟩;have eb:Ext C.U H1 H':=R'.ext;have less:Pres M' H' M H':=Pres.less M'of;refine q _ H' (.lst acc) n' (e1.trans eb) (R'.feed.pres less λ_ _ _ z=>z) (VR.back e1 ?_) w';exact⟨l,rfl,hl,vs,hlv,by rw [hM']; exact hac⟩
end
theorem SY{K:Frag}{F:Option (Ch×Ch)}{U V' M:Ch->Prop}{H:Hp}{n:Nat}{ss:List Slot}{vs:List V}{N:List Str}(h:aw K F U V' M H n ss vs)(hl:vs.length<=N.length) :
  Rel K ⟨M,F,U,V',H,[],[]⟩ M H n (ss++XV (N.length - ss.length) .no) (L2.start N vs):=by
 obtain⟨dom,fU,uV,vM,fd,pa⟩:=h;have el:vs.length=ss.length:=Paired.length pa
 have go:∀{vs:List V} {ss:List Slot} {i:Nat} {s:Slot},Paired (M7 K F V' M H) vs ss->ss[i]?=some s->∃v,vs[i]?=some v/\M7 K F V' M H v s:=by
  intro vs ss i s pa
  induction pa generalizing i with
  | nil=>intro e; simp at e
  | cons r t ih =>
   intro e;cases i with
   | zero=>simp at e; subst e; exact⟨_,rfl,r⟩
   | succ i =>
    obtain⟨v,e1,h1⟩:=ih (i:=i) (by simpa using e);exact⟨v,by simpa using e1,h1⟩
 have at_:∀(i:Nat) (s:Slot),(ss++XV (N.length - ss.length) Slot.no)[i]?=some s->s=.no\/∃v,((L2.start N vs)[i]?).getD none=some v/\M7 K F V' M H v s:=by
  intro i s hs
  by_cases hi:i<ss.length
  ·rw [gG hi] at hs
   obtain⟨v,e1,h1⟩:=go pa hs;refine .inr ⟨v,?_,h1⟩;unfold L2.start;rw [gG (by rw [Go,el]; exact hi),dC,e1];rfl
  ·rw [eQ (by omega),iB] at hs
   split at hs
   ·exact .inl (c_ hs).symm
   ·cases hs
 refine⟨?_,λa z=>z,dom,Ext.refl _ _,fU,uV,vM,fd,λi s hs=>?_,λp hp=>absurd hp (by simp),λi d a hs ha=>?_,λi s a hs o _=>?_,λi j s t a hs o _ _ _ _=>?_,λp hp=>absurd hp (by simp)⟩
 ·unfold L2.start
  simp only [c9,Go,jy];omega
 ·rcases at_ i s hs with rfl | ⟨v,e,h⟩
  ·trivial
  ·rw [e]; exact h.1
 ·rcases at_ i _ hs with z | ⟨v,e,h⟩
  ·cases z
  ·rw [e] at ha
   cases ha;obtain⟨v,e1,h1⟩:=h.1;cases e1;exact h1.lies
 ·rcases at_ i s hs with rfl | ⟨v,e,h⟩
  ·cases o
  ·rw [h.2] at o; cases o
 ·rcases at_ i s hs with rfl | ⟨v,e,h⟩
  ·cases o
  ·rw [h.2] at o; cases o
theorem ce{P:dZ}{w:dh}{K:Frag}{mg:Str->Option Ev}{base:dL}{x qual:Str}{st:df}{f:Ch}{fd:eI}{N ps:List Str}{k:Nat}{κ:Kd}{W:W2}{wb:Ai}(F:Fun K x qual st f fd)(S:Ae N ps (AQ st))(hNp:ps.length<=N.length)
  (hb:∀(cdv:Ev) (A:eC) (outer:List Env) (s:Op) (H:Hp) (E:XK),Room k (A.deeper (envOfC qual (AQ st) s.heap.objs.size f cdv))->Tx (ME B9 P w K mg base N qual (AQ st) f cdv A outer s H E).nox κ (CP st) wb)
  (hW:∀ss n Pd,ss.length=ps.length->W ss n Pd->wb { nx:=λn _=>κ=.sh/\Pd .non n,rt:=Pd } n (ss++XV (N.length - ps.length) .no)) :
  A8 P w K mg base B9 (k+1) f fd ps (Cq K κ W ps.length):=by
 refine F.ok S (λvs H Q E h=>h.1) (λcdv A outer s H vs Q E hr h=>?_);obtain⟨hl,F0,U,V',M,n,ss,Pd,ra,hw,q⟩:=h;obtain⟨t,t1,t2⟩:=hb cdv A outer s H E hr;refine⟨t,t1,?_⟩;have el:vs.length=ss.length:=Paired.length ra.2.2.2.2.2;have R:=SY (N:=N) ra (by omega);refine t2 ⟨M,F0,U,V',H,[],[]⟩ M H n _ _ { nx:=λn _=>κ=.sh/\Pd .non n,rt:=Pd } _ R ⟨λM1 H1 n1 zU zK R1 p=>?_,λv H1 d n1 e1 f1 r1 p=>q v H1 d n1 e1 f1 r1 p,λ_ _ _ _ _ _ z=>z.elim,λ_ _ _ _ _ _ z=>z.elim⟩ ?_
 ·obtain⟨hk,p⟩:=p
  subst hk;exact q .non H1 .non n1 R1.ext (R1.feed.pres (Pres.less R1.sub) λ_ _ _ z=>z) rfl p
 ·have e:ss.length=ps.length:=by omega
  have h1:=hW ss n Pd e hw;rw [← e] at h1;exact h1
end Dp
namespace L2
section
variable {X:Cx}
theorem Inv.rdl{zG:List (Ch×Obj)}{Z:L2.St}{H:Hp}{s:Op}{l:Ch}{xs:List V}(I:Inv X zG Z H s)(h:Rd H l (.lst xs)):xs.length<=sizeLine/\∃(its:List Ev) (n:Nat),Vals xs its/\xs.length=its.length/\s.heap.get? l=some { cls:=.type "list",data:=.seq its.toArray n }:=by
 obtain⟨z,its,n,r,e⟩:=h.ok I.hok;exact⟨z,its,n,r,r.length,e⟩
theorem WU:OpR X (binaryOp .Add) (λx y H Q=>∃l b xs zs,x=.ref l/\y=.ref b/\Rd H l (.lst xs)/\Rd H b (.lst zs)/\xs.length+zs.length<=sizeLine/\∀p,H p=none->Q (.ref p) (BK H p (.lst (xs++zs)))):=by
 intro zG s Z H x y v u Q I rx ry h;obtain⟨l,b,xs,zs,rfl,rfl,hH,hB,hz,q⟩:=h;cases rx;cases ry;obtain⟨z,its,n,r,hl,e⟩:=I.rdl hH;obtain⟨z2,its2,n2,r2,hl2,e2⟩:=I.rdl hB;refine PySem.P.add_list e e2 ?_ (by rw [Tk,Tk]; omega);have ea:its.toArray++its2.toArray=(its++its2).toArray:=by simp
 rw [ea];exact⟨.ref _,_,I.lnew (t':=s.toks) (r.append r2) (by rw [c9]; omega),rfl,q _ I.fresh⟩
end
end L2
namespace Dp
open L2
section
variable {K:Frag}
theorem AtT.int{U M:Ch->Prop}{H:Hp}{i:Int}{v:V}(h:AtT K U M H (.int i) v):v=.int i:=h
theorem AtT.bl{U M:Ch->Prop}{H:Hp}{i:Bool}{v:V}(h:AtT K U M H (.bl i) v):v=.bl i:=h
theorem AtT.str{U M:Ch->Prop}{H:Hp}{x:Str}{v:V}(h:AtT K U M H (.str x) v):v=.str x/\x.length<=sizeLine:=h
theorem AtT.tup{U M:Ch->Prop}{H:Hp}{ds:List D}{v:V}(h:AtT K U M H (.tup ds) v):∃a vs,v=.ref a/\NdT M H a vs/\Ats K M H ds vs:=h
def bL(g:Int->Int->(D->Prop)->Prop)(d e:D)(P:D->Prop):Prop:=match d,e with
 | .int i,.int j=>g i j P
 | _,_=>False
theorem N2{g:Int->Int->(D->Prop)->Prop}{d e:D}{P:D->Prop}(w:bL g d e P):∃i j,d=.int i/\e=.int j/\g i j P:=by
 unfold bL at w
 split at w
 ·exact⟨_,_,rfl,rfl,w⟩
 ·exact w.elim
def f2(g:Int->Int->D):D->D->(D->Prop)->Prop:=bL λi j P=>P (g i j)
def OO(C:Int->Int->Prop)(g:Int->Int->D):D->D->(D->Prop)->Prop:=bL λi j P=>C i j/\P (g i j)
theorem Vs{g:Int->Int->Int}:FH K .sh (I0 λi j=>.int (g i j)) (f2 λi j=>.int (g i j)):=by
 intro U M H d e x y P Q dom vM hx hy w q;obtain⟨i,j,rfl,rfl,w⟩:=N2 w;exact⟨i,j,hx,hy,q _ H (.int (g i j)) .refl rfl w⟩
theorem OJ{g:Int->Int->Bool}:FH K .sh (I0 λi j=>.bl (g i j)) (f2 λi j=>.bl (g i j)):=by
 intro U M H d e x y P Q dom vM hx hy w q;obtain⟨i,j,rfl,rfl,w⟩:=N2 w;exact⟨i,j,hx,hy,q _ H (.bl (g i j)) .refl rfl w⟩
theorem Co{C:Int->Int->Prop}{g:Int->Int->Int}:FH K .sh (rI C λi j=>.int (g i j)) (OO C λi j=>.int (g i j)):=by
 intro U M H d e x y P Q dom vM hx hy w q;obtain⟨i,j,rfl,rfl,w⟩:=N2 w;exact⟨i,j,hx,hy,w.1,q _ H (.int (g i j)) .refl rfl w.2⟩
def Zi(g:Str->Str->(D->Prop)->Prop)(d e:D)(P:D->Prop):Prop:=match d,e with
 | .str i,.str j=>g i j P
 | _,_=>False
theorem Ri{g:Str->Str->(D->Prop)->Prop}{d e:D}{P:D->Prop}(w:Zi g d e P):∃i j,d=.str i/\e=.str j/\g i j P:=by
 unfold Zi at w
 split at w
 ·exact⟨_,_,rfl,rfl,w⟩
 ·exact w.elim
theorem Qw{g:Str->Str->Bool}:FH K .sh (λx y H Q=>∃i j,x=.str i/\y=.str j/\Q (.bl (g i j)) H) (Zi λi j P=>P (.bl (g i j))):=by
 intro U M H d e x y P Q dom vM hx hy w q;obtain⟨i,j,rfl,rfl,w⟩:=Ri w;exact⟨i,j,hx.1,hy.1,q _ H (.bl (g i j)) .refl rfl w⟩
theorem Tp:FH K .sh (λx y H Q=>∃i j,x=.str i/\y=.str j/\i.length+j.length<=sizeLine/\Q (.str (i++j)) H) (Zi λi j P=>i.length+j.length<=sizeLine/\P (.str (i++j))):=by
 intro U M H d e x y P Q dom vM hx hy w q;obtain⟨i,j,rfl,rfl,w⟩:=Ri w;exact⟨i,j,hx.1,hy.1,w.1,q _ H (.str (i++j)) .refl ⟨rfl,by rw [show (i++j).length=i.length+j.length from jQ i j]; exact w.1⟩ w.2⟩
def b7(g:List D->List D->(D->Prop)->Prop)(d e:D)(P:D->Prop):Prop:=match d,e with
 | .tup i,.tup j=>g i j P
 | _,_=>False
def b8(g:List D->List D->(D->Prop)->Prop)(d e:D)(P:D->Prop):Prop:=match d,e with
 | .lst i,.lst j=>g i j P
 | _,_=>False
theorem Wm{g:List D->List D->(D->Prop)->Prop}{d e:D}{P:D->Prop}(w:b7 g d e P):∃i j,d=.tup i/\e=.tup j/\g i j P:=by
 unfold b7 at w
 split at w
 ·exact⟨_,_,rfl,rfl,w⟩
 ·exact w.elim
theorem Wn{g:List D->List D->(D->Prop)->Prop}{d e:D}{P:D->Prop}(w:b8 g d e P):∃i j,d=.lst i/\e=.lst j/\g i j P:=by
 unfold b8 at w
 split at w
 ·exact⟨_,_,rfl,rfl,w⟩
 ·exact w.elim
theorem Du{M:Ch->Prop}{H:Hp}{p:Ch}{vs:List V}{ds:List D}(dom:∀a,M a->∃o,H a=some o)(hp:H p=none)(h:Ats K M H ds vs):At K M (BK H p (.tup vs)) (.tup ds) (.ref p):=by
 exact⟨p,vs,rfl,Ap,h.pres (BH hp).pres⟩
theorem Fh{U M:Ch->Prop}{H:Hp}{p:Ch}{vs:List V}{ds:List D}(hp:H p=none)(h:Ats K M H ds vs):VR K U M H (BK H p (.lst vs)) .fr (.ref p) (.lst ds) :=
 ⟨p,rfl,hp,vs,Ap,h.pres (G4 hp)⟩
theorem To:FH K .sh (Ua K) (b7 λi j P=>i≠[]/\i.length+j.length<=sizeLine/\P (.tup (i++j))):=by
 intro U M H d e x y P Q dom vM hx hy w q;obtain⟨i,j,rfl,rfl,w⟩:=Wm w;obtain⟨a,vs,rfl,ha,hs⟩:=hx.tup;obtain⟨b,us,rfl,hb,ht⟩:=hy.tup;have l1:=hs.length;have l2:=ht.length;refine⟨a,b,vs,us,rfl,rfl,ha.sq,hb.sq,λz=>w.1 ?_,by rw [l1,l2]; exact w.2.1,λz=>?_,λz p hp=>?_⟩
 ·rw [z] at l1; exact fk.mp l1.symm
 ·rw [z] at l2
  have:j=[]:=fk.mp l2.symm
  subst this;exact q _ H (.tup i) .refl ⟨a,vs,rfl,ha,hs⟩ (by have:=w.2.2; rw [dX] at this; exact this)
 ·exact q _ _ (.tup (i++j)) (BH hp) (Du dom hp (hs.append ht)) w.2.2
theorem Tq:FH K .fr (λx y H Q=>∃l b xs zs,x=.ref l/\y=.ref b/\Rd H l (.lst xs)/\Rd H b (.lst zs)/\xs.length+zs.length<=sizeLine/\∀p,H p=none->Q (.ref p) (BK H p (.lst (xs++zs)))) (b8 λi j P=>i.length+j.length<=sizeLine/\P (.lst (i++j))):=by
 intro U M H d e x y P Q dom vM hx hy w q;obtain⟨i,j,rfl,rfl,w⟩:=Wn w;obtain⟨a,vs,rfl,_,ha,hs⟩:=hx;obtain⟨b,us,rfl,_,hb,ht⟩:=hy;exact⟨a,b,vs,us,rfl,rfl,ha,hb,by rw [hs.length,ht.length]; exact w.1,λp hp=>q _ _ (.lst (i++j)) (BH hp) (Fh hp (hs.append ht)) w.2⟩
def G6(neg:Bool)(d e:D)(P:D->Prop):Prop:=match d,e with
 | .bl i,.bl j=>P (.bl (if neg then !(i==j) else i==j))
 | .int i,.int j=>P (.bl (if neg then !(i==j) else i==j))
 | .str i,.str j=>P (.bl (if neg then !(i==j) else i==j))
 | _,_=>False
theorem Rl{neg:Bool}{d e:D}{P:D->Prop}(w:G6 neg d e P):(∃i j,d=.bl i/\e=.bl j/\P (.bl (if neg then !(i==j) else i==j)))\/(∃i j,d=.int i/\e=.int j/\P (.bl (if neg then !(i==j) else i==j)))\/∃i j,d=.str i/\e=.str j/\P (.bl (if neg then !(i==j) else i==j)):=by
 unfold G6 at w
 split at w
 ·exact .inl ⟨_,_,rfl,rfl,w⟩
 ·exact .inr (.inl ⟨_,_,rfl,rfl,w⟩)
 ·exact .inr (.inr ⟨_,_,rfl,rfl,w⟩)
 ·exact w.elim
theorem Iv:FH K .sh cN (G6 false):=by
 intro U M H d e x y P Q dom vM hx hy w q
 rcases Rl w with ⟨i,j,rfl,rfl,w⟩ | ⟨i,j,rfl,rfl,w⟩ | ⟨i,j,rfl,rfl,w⟩
 ·rw [hx.bl,hy.bl]; exact⟨rfl,q _ H _ .refl (by rw [N8]; rfl) w⟩
 ·rw [hx.int,hy.int]; exact⟨rfl,q _ H _ .refl (by rw [J5]; rfl) w⟩
 ·rw [hx.str.1,hy.str.1]; exact⟨rfl,q _ H _ .refl (by rw [J4]; rfl) w⟩
theorem Iu:FH K .sh cK (G6 true):=by
 intro U M H d e x y P Q dom vM hx hy w q
 rcases Rl w with ⟨i,j,rfl,rfl,w⟩ | ⟨i,j,rfl,rfl,w⟩ | ⟨i,j,rfl,rfl,w⟩
 ·rw [hx.bl,hy.bl]; exact⟨rfl,q _ H _ .refl (by rw [N8]; rfl) w⟩
 ·rw [hx.int,hy.int]; exact⟨rfl,q _ H _ .refl (by rw [J5]; rfl) w⟩
 ·rw [hx.str.1,hy.str.1]; exact⟨rfl,q _ H _ .refl (by rw [J4]; rfl) w⟩
def PY:D->Bool
 | .non=>true
 | _=>false
theorem PX{U M:Ch->Prop}{H:Hp}{d:D}{x:V}(h:AtT K U M H d x):decide (x=.non)=PY d:=by
 cases d with
 | non=>rw [show x=.non from h]; rfl
 | bl b=>rw [h.bl]; rfl
 | int i=>rw [h.int]; rfl
 | str z=>rw [h.str.1]; rfl
 | tup ds=>obtain⟨a,vs,rfl,_⟩:=h.tup; rfl
 | lst ds=>obtain⟨a,vs,rfl,_⟩:=h; rfl
 | dic ks ds=>obtain⟨a,vs,rfl,_⟩:=h; rfl
 | fdi ks ds=>obtain⟨a,vs,rfl,_⟩:=h; rfl
 | dit ks ds=>obtain⟨a,vs,rfl,_⟩:=h; rfl
def Ax(d e:D)(P:D->Prop):Prop:=match d,e with
 | .lst ds,.int i=>∃z,atI ds i=some z/\P z
 | .tup ds,.int i=>∃z,atI ds i=some z/\P z
 | .str x,.int i=>∃c,atI x.cps.toList i=some c/\P (.str ⟨#[c]⟩)
 | _,_=>False
theorem Wo{d e:D}{P:D->Prop}(w:Ax d e P):(∃ds i z,d=.lst ds/\e=.int i/\atI ds i=some z/\P z)\/(∃ds i z,d=.tup ds/\e=.int i/\atI ds i=some z/\P z)\/∃x i c,d=.str x/\e=.int i/\atI x.cps.toList i=some c/\P (.str ⟨#[c]⟩):=by
 unfold Ax at w
 split at w
 ·obtain⟨z,h1,h2⟩:=w; exact .inl ⟨_,_,z,rfl,rfl,h1,h2⟩
 ·obtain⟨z,h1,h2⟩:=w; exact .inr (.inl ⟨_,_,z,rfl,rfl,h1,h2⟩)
 ·obtain⟨z,h1,h2⟩:=w; exact .inr (.inr ⟨_,_,z,rfl,rfl,h1,h2⟩)
 ·exact w.elim
theorem Ats.atI{M:Ch->Prop}{H:Hp}{ds:List D}{vs:List V}{i:Int}{z:D}(h:Ats K M H ds vs)(e:atI ds i=some z):∃v,L2.atI vs i=some v/\At K M H z v:=by
 unfold L2.atI at e ⊢;rw [h.length];cases q:V2 ds.length i with
 | none=>rw [q] at e; cases e
 | some j =>
  rw [q] at e;exact h.get e
theorem Af:FH K .sh (cL K) Ax:=by
 intro U M H d e x y P Q dom vM hx hy w q
 rcases Wo w with ⟨ds,i,z,rfl,rfl,hz,w⟩ | ⟨ds,i,z,rfl,rfl,hz,w⟩ | ⟨x,i,c,rfl,rfl,hc,w⟩
 ·obtain⟨a,vs,rfl,_,ha,hs⟩:=hx
  obtain⟨v,hv,hAt⟩:=hs.atI hz;exact .inl ⟨a,vs,i,v,rfl,hy,.inl ha,hv,q v H z .refl hAt w⟩
 ·obtain⟨a,vs,rfl,ha,hs⟩:=hx.tup
  obtain⟨v,hv,hAt⟩:=hs.atI hz;exact .inr (.inl ⟨a,vs,i,v,rfl,hy,ha.sq,hv,q v H z .refl hAt w⟩)
 ·exact .inr (.inr ⟨x,i,c,hx.str.1,hy,hx.str.2,hc,q _ H (.str ⟨#[c]⟩) .refl ⟨rfl,by rw [d7]; show 1<=16777216; decide⟩ w⟩)
def cutD{α:Type}(xs:List α)(lo hi:Option Int):List α:=(xs.drop (HT.sIx xs.length 0 lo)).take (HT.sIx xs.length xs.length hi - HT.sIx xs.length 0 lo)
theorem Ec{R:V->D->Prop}{vs:List V}{d:D}(h:Paired R vs [d]):∃v,vs=[v]/\R v d:=by
 cases h with
 | cons r t=>cases t; exact⟨_,rfl,r⟩
def bj:D->Option Nat
 | .str x=>some x.length
 | .tup xs=>some xs.length
 | .lst xs=>some xs.length
 | _=>none
def D7(ds:List D)(P:D->Prop):Prop:=∃d n,ds=[d]/\bj d=some n/\P (.int (n:Int))
theorem CJ:EJ K .sh (λxs H Q=>∃x n,xs=[x]/\Zd K x H n/\Q (.int n) H) D7:=by
 intro U M H ds vs P Q dom vM hp w q;obtain⟨d,n,rfl,hn,w⟩:=w;obtain⟨v,rfl,hx⟩:=Ec hp;refine⟨v,n,rfl,?_,q _ H (.int (n:Int)) .refl rfl w⟩;cases d with
 | str z=>cases hn; rw [hx.str.1]; exact⟨hx.str.2,rfl⟩
 | tup xs =>
  cases hn;obtain⟨a,us,rfl,ha,hs⟩:=hx.tup;exact .inr ⟨us,ha.sq,hs.length.symm⟩
 | lst xs =>
  cases hn;obtain⟨a,us,rfl,_,ha,hs⟩:=hx;exact .inl ⟨us,.inl ha,hs.length.symm⟩
 | _=>cases hn
def allB:List D->Option (List Bool)
 | []=>some []
 | .bl b::r=>(allB r).map (b::·)
 | _::_=>none
theorem Rz{M:Ch->Prop}{H:Hp}:∀{ds:List D} {vs:List V} {bs:List Bool},allB ds=some bs->Ats K M H ds vs->vs=bs.map V.bl
 | [],vs,bs,e,h=>by cases e; exact h
 | .bl b::r,vs,bs,e,h=>by
  obtain⟨v,r',e1,h1,h2⟩:=h;unfold allB at e;obtain⟨bs',e2,rfl⟩:=d6.mp e;rw [e1,Rz e2 h2,show v=.bl b from h1];rfl
 | .non::r,vs,bs,e,h=>by unfold allB at e; cases e
 | .int _::r,vs,bs,e,h=>by unfold allB at e; cases e
 | .str _::r,vs,bs,e,h=>by unfold allB at e; cases e
 | .tup _::r,vs,bs,e,h=>by unfold allB at e; cases e
 | .lst _::r,vs,bs,e,h=>by unfold allB at e; cases e
 | .dic _ _::r,vs,bs,e,h=>by unfold allB at e; cases e
 | .fdi _ _::r,vs,bs,e,h=>by unfold allB at e; cases e
 | .dit _ _::r,vs,bs,e,h=>by unfold allB at e; cases e
def LI(ds:List D)(P:D->Prop):Prop:=∃xs bs,ds=[.lst xs]/\allB xs=some bs/\P (.bl (bs.all id))
theorem Lh:EJ K .sh (λxs H Q=>∃(p:Ch) (bs:List Bool),xs=[.ref p]/\SqL K H p (bs.map V.bl)/\Q (.bl (bs.all id)) H) LI:=by
 intro U M H ds vs P Q dom vM hp w q;obtain⟨xs,bs,rfl,e,w⟩:=w;obtain⟨v,rfl,hx⟩:=Ec hp;obtain⟨a,us,rfl,_,ha,hs⟩:=hx
 have:=Rz e hs
 subst this;exact⟨a,bs,rfl,.inl ha,q _ H (.bl (bs.all id)) .refl rfl w⟩
def C9:List D->Option (List Str)
 | []=>some []
 | .str b::r=>(C9 r).map (b::·)
 | _::_=>none
theorem OG{M:Ch->Prop}{H:Hp}:∀{ds:List D} {vs:List V} {bs:List Str},C9 ds=some bs->Ats K M H ds vs->vs=bs.map V.str
 | [],vs,bs,e,h=>by cases e; exact h
 | .str b::r,vs,bs,e,h=>by
  obtain⟨v,r',e1,h1,h2⟩:=h;unfold C9 at e;obtain⟨bs',e2,rfl⟩:=d6.mp e;rw [e1,OG e2 h2,h1.1];rfl
 | .non::r,vs,bs,e,h=>by unfold C9 at e; cases e
 | .int _::r,vs,bs,e,h=>by unfold C9 at e; cases e
 | .bl _::r,vs,bs,e,h=>by unfold C9 at e; cases e
 | .tup _::r,vs,bs,e,h=>by unfold C9 at e; cases e
 | .lst _::r,vs,bs,e,h=>by unfold C9 at e; cases e
 | .dic _ _::r,vs,bs,e,h=>by unfold C9 at e; cases e
 | .fdi _ _::r,vs,bs,e,h=>by unfold C9 at e; cases e
 | .dit _ _::r,vs,bs,e,h=>by unfold C9 at e; cases e
def VS(d:D)(ds:List D)(P:D->Prop):Prop:=∃(z:Str) (xs:List D) (ys:List Str),d=.str z/\ds=[.lst xs]/\C9 xs=some ys/\(ys.map (·.length)).sum+ys.length*z.length<=16777216/\(Txt.join z ys).length<=16777216/\P (.str (Txt.join z ys))
theorem ZS:cF K .sh "str" (λx xs H Q=>∃(z:Str) (p:Ch) (ys:List Str),x=.str z/\xs=[.ref p]/\SqL K H p (ys.map V.str)/\(ys.map (·.length)).sum+ys.length*z.length<=16777216/\Q (.str (Txt.join z ys)) H) VS:=by
 intro U M H d ds x vs P Q dom vM hx hp w q;obtain⟨z,xs,ys,rfl,rfl,e,h1,h2,w⟩:=w;obtain⟨v,rfl,hy⟩:=Ec hp;obtain⟨a,us,rfl,_,ha,hs⟩:=hy
 have:=OG e hs
 subst this;exact⟨z,a,ys,hx.str.1,rfl,.inl ha,h1,q _ H (.str (Txt.join z ys)) .refl ⟨rfl,by rw [d7]; exact h2⟩ w⟩
def VT(ds:List D)(P:D->Prop):Prop:=match ds with
 | [.int i]=>P (.int i)
 | [.bl k]=>P (.int (if k then 1 else 0))
 | _=>False
theorem ZT:EJ K .sh (λxs H Q=>(∃i,xs=[.int i]/\Q (.int i) H)\/∃k,xs=[.bl k]/\Q (.int (if k then 1 else 0)) H) VT:=by
 intro U M H ds vs P Q dom vM hp w q;unfold VT at w
 split at w
 ·rename_i i
  obtain⟨v,rfl,hx⟩:=Ec hp;rw [hx.int]; exact .inl ⟨i,rfl,q _ H (.int i) .refl rfl w⟩
 ·rename_i k
  obtain⟨v,rfl,hx⟩:=Ec hp;rw [hx.bl]; exact .inr ⟨k,rfl,q _ H (.int (if k then 1 else 0)) .refl rfl w⟩
 ·exact w.elim
end
def Zr:D->String
 | .non => "NoneType"
 | .bl _ => "bool"
 | .int _ => "int"
 | .str _ => "str"
 | .tup _ => "tuple"
 | .lst _ => "list"
 | .dic _ _ => "dict"
 | .fdi _ _ => "dict"
 | .dit _ _ => "dict"
def Y1(t T:String):Bool:=t==T||(t == "bool"&&T == "int")
def Ey(T:String)(wa:DW):DW:=λn ρ P=>wa n ρ λd n1=>P (.bl (Y1 (Zr d) T)) n1
structure Vz (K:Frag) (T:String):Prop where
 ans:∀t∈["NoneType","bool","int","str","tuple","list","dict"],PySem.W.kitOne K (.type t) (.type T)=some (Y1 t T)
theorem V8{K:Frag}{M U:Ch->Prop}{H:Hp}{d:D}{x:V}(h:AtT K U M H d x):HC K H x (.type (Zr d)):=by
 cases d with
 | non=>cases (show x=.non from h); exact .non
 | bl b=>cases h.bl; exact .bl b
 | int i=>cases h.int; exact .int i
 | str z=>cases h.str.1; exact .str z
 | tup ds =>
  obtain⟨a,vs,rfl,ha,hs⟩:=h.tup;exact .tup ha
 | lst ds =>
  obtain⟨a,vs,rfl,_,ha,hs⟩:=h
  rcases ha with ha | ⟨o,ha⟩
  ·exact .lst ha
  ·exact .frz ha
 | dic ks ds =>
  obtain⟨a,vs,rfl,_,ha,_⟩:=h;exact .dK ha
 | fdi ks ds =>
  obtain⟨a,vs,rfl,⟨o,_,ha⟩,_⟩:=h;exact .dF ha
 | dit ks ds =>
  obtain⟨a,vs,rfl,_,ha,_⟩:=h;exact .dT ha
theorem V9(d:D):Zr d∈["NoneType","bool","int","str","tuple","list","dict"]:=by cases d <;> simp [Zr]
theorem B0{X:Cx}{a:dO}{κ:Kd}{wa:DW}{T:String}{Tn:Str}{p p2 pos:Pos}(kt:Vz X.K T)(ha:DE X a κ wa)(hg:Gl X "isinstance")(hm:X.mg "isinstance"=none)(hgT:Gl X Tn)(hmT:X.mg Tn=none)(hvT:bootBuiltins Tn=some (.type T))
  (hnT:Tn ≠ "__name__":=by decide) (hdT:(Tn==("__debug__":Str))=false:=by decide)
  (he:starEach [a,.Name Tn p2] X.env=(false,eval a X.env)::starEach [.Name Tn p2] X.env:=by rfl) (he2:starEach [.Name Tn p2] X.env=[(false,eval (.Name Tn p2) X.env)]:=by rfl)
  (hpl:(backTo pos (starEach [.Name Tn p2] X.env)).any (·.1)=false:=by rfl):DE X (.Call (.Name "isinstance" p) [a,.Name Tn p2] [] pos) .sh (Ey T wa):=by
 obtain⟨t,h1,h2⟩:=ha;have pT:PE X (.Name Tn p2) (tC (.ty T)):=WS hgT hmT hvT (v:=.ty T) rfl hnT hdT;refine⟨_,HQ Pq hg hm (by decide +kernel) (CA h1 (CA pT Ds he2) he) (by decide) (by decide) he hpl,λC M H n ρ Z P Q R w q=>?_⟩;refine h2 C M H n ρ Z _ _ R w λv H1 d n1 e1 f1 r1 p=>?_;exact⟨v,T,_,_,rfl,V8 (r1.tpOf R.dom R.vM),kt.ans _ (V9 d),q _ H1 (.bl (Y1 (Zr d) T)) n1 e1 f1 rfl p⟩
section
variable {K:Frag}{X:Cx}
def Xl(d e:D)(P:D->Prop):Prop:=match d,e with
 | .int i,.int j=>P (.int (i+j))
 | .str i,.str j=>i.length+j.length<=sizeLine/\P (.str (i++j))
 | .tup i,.tup j=>i≠[]/\i.length+j.length<=sizeLine/\P (.tup (i++j))
 | .lst i,.lst j=>i.length+j.length<=sizeLine/\P (.lst (i++j))
 | _,_=>False
def Xa:R2:=λx y H Q=>∃l b xs zs,x=.ref l/\y=.ref b/\Rd H l (.lst xs)/\Rd H b (.lst zs)/\xs.length+zs.length<=sizeLine/\∀p,H p=none->Q (.ref p) (BK H p (.lst (xs++zs)))
def XZ:R2:=λx y H Q=>∃i j,x=.str i/\y=.str j/\i.length+j.length<=sizeLine/\Q (.str (i++j)) H
def UV(g:Str->Str->Bool):R2:=λx y H Q=>∃i j,x=.str i/\y=.str j/\Q (.bl (g i j)) H
def Ub(K:Frag):R2:=λx y H Q=>(I0 λi j=>.int (i+j)) x y H Q\/XZ x y H Q\/Ua K x y H Q\/Xa x y H Q
theorem op_addU:OpR X (binaryOp .Add) (Ub X.K):=op_add.or ((show OpR X (binaryOp .Add) XZ from QS).or (op_catT.or (show OpR X (binaryOp .Add) Xa from WU)))
theorem OK:FH X.K .sh (Ub X.K) Xl:=λU M H d e x y P Q dom vM hx hy w q=>by
 unfold Xl at w
 split at w
 ·exact .inl (Vs (K:=X.K) (g:=λi j=>i+j) U M H (.int _) (.int _) x y P Q dom vM hx hy w q)
 ·exact .inr (.inl (Tp (K:=X.K) U M H (.str _) (.str _) x y P Q dom vM hx hy w q))
 ·exact .inr (.inr (.inl (To (K:=X.K) U M H (.tup _) (.tup _) x y P Q dom vM hx hy w q)))
 ·exact .inr (.inr (.inr (Tq (K:=X.K) U M H (.lst _) (.lst _) x y P Q dom vM hx hy w λv H' z g r p=>q v H' z g (r.shOf dom (by intro z; cases z)) p)))
 ·exact w.elim
def af(d e:D)(P:D->Prop):Prop:=match d,e with
 | .int i,.int j=>P (.bl (decide (i<j)))
 | .str i,.str j=>P (.bl (decide (i.cps.toList<j.cps.toList)))
 | _,_=>False
def YM:R2:=λx y H Q=>(I0 λi j=>.bl (decide (i<j))) x y H Q\/UV (λi j=>decide (i.cps.toList<j.cps.toList)) x y H Q
theorem op_ltU:OpR X (compareOp .Lt) YM:=op_lt.or Sx
theorem Xr:FH X.K .sh YM af:=λU M H d e x y P Q dom vM hx hy w q=>by
 unfold af at w
 split at w
 ·exact .inl (OJ (K:=X.K) (g:=λi j=>decide (i<j)) U M H (.int _) (.int _) x y P Q dom vM hx hy w q)
 ·exact .inr (Qw (K:=X.K) (g:=λi j=>decide (i.cps.toList<j.cps.toList)) U M H (.str _) (.str _) x y P Q dom vM hx hy w q)
 ·exact w.elim
def N0(d e:D)(P:D->Prop):Prop:=match d,e with
 | .int i,.int j=>P (.bl (decide (i<=j)))
 | .str i,.str j=>P (.bl (!(decide (j.cps.toList<i.cps.toList))))
 | _,_=>False
def aB:R2:=λx y H Q=>(I0 λi j=>.bl (decide (i<=j))) x y H Q\/UV (λi j=>!(decide (j.cps.toList<i.cps.toList))) x y H Q
theorem Gw:OpR X (compareOp .LtE) aB:=op_le.or Sy
theorem Lg:FH X.K .sh aB N0:=λU M H d e x y P Q dom vM hx hy w q=>by
 unfold N0 at w
 split at w
 ·exact .inl (OJ (K:=X.K) (g:=λi j=>decide (i<=j)) U M H (.int _) (.int _) x y P Q dom vM hx hy w q)
 ·exact .inr (Qw (K:=X.K) (g:=λi j=>!(decide (j.cps.toList<i.cps.toList))) U M H (.str _) (.str _) x y P Q dom vM hx hy w q)
 ·exact w.elim
def aF:R2:=I0 λi j=>.bl (decide (j<i))
theorem Kt:OpR X (compareOp .Gt) aF:=Xg
theorem Px:FH X.K .sh aF (f2 λi j=>.bl (decide (j<i))):=OJ
def aG:R2:=I0 λi j=>.bl (decide (j<=i))
theorem Yi:OpR X (compareOp .GtE) aG:=Xh
theorem au:FH X.K .sh aG (f2 λi j=>.bl (decide (j<=i))):=OJ
def aE:R2:=UV λi j=>!(eR j i 0 j.length 1).isEmpty
theorem Yh:OpR X (compareOp .In) aE:=S0
theorem ar:FH X.K .sh aE (Zi λi j P=>P (.bl (!(eR j i 0 j.length 1).isEmpty))):=Qw
def Z6:V->Option Int->Option Int->Hp->VK->Prop:=λx lo hi H Q=>∃z,x=.str z/\z.length<=sizeLine/\Q (.str (Txt.slice z lo hi)) H
theorem sl_U:SlR X Z6:=YG
def X5(w:DW):DW:=λn ρ P=>w n ρ λd n1=>∃i,d=.int i/\P (.int (-i)) n1
theorem Ve{a:dO}{κ:Kd}{wa:DW}{pos:Pos}(h:DE X a κ wa):DE X (.UnaryOp .USub a pos) .sh (X5 wa):=by
 obtain⟨t,h1,h2⟩:=h;refine⟨_,aK X6 h1,λC M H n ρ Z P Q R w q=>?_⟩;refine h2 C M H n ρ Z _ _ R w λv H1 d n1 e1 f1 r1 p=>?_;obtain⟨i,rfl,p⟩:=p;exact⟨i,Qh r1,q _ H1 (.int (-i)) n1 e1 f1 rfl p⟩
def Got(P:dZ)(w:dh)(K:Frag)(mg:Str->Option Ev)(base:dL)(x:Str)(k:Nat)(ps:List Str)(κ:Kd)(W:W2):Prop :=
 ∃f fd,A8 P w K mg base B9 k f fd ps (Cq K κ W ps.length)/\mg x=some (.ref f)/\keepIn K (.ref f)=true/\Binds K fd ps []/\∀ss n P,W ss n P->ss.length=ps.length
theorem Vh{e:dO}{es:List dO}{k:Nat}{ps:List Str}{κ:Kd}{W:W2}{x:Str}{p pos:Pos}{was:Xw}(G:Got X.prog X.w X.K X.mg X.base x k ps κ W)
  (hr:Room k X.A) (hg:Gl X x) (ha:Zo X (e::es) was)
  (hdb:(x==("__debug__":Str))=false:=by decide) (he:starEach (e::es) X.env=(false,eval e X.env)::starEach es X.env:=by rfl) (hpl:(backTo pos (starEach es X.env)).any (·.1)=false:=by rfl) :
  DE X (.Call (.Name x p) (e::es) [] pos) κ (AY W was):=by
 obtain⟨f,fd,G,hm,hk,hb,hW⟩:=G;exact W8 G hW hr hg hm hk hb ha hdb he hpl
def Xc(np:Nat)(g:List D->D):W2:=λss n P=>∃ds:List D,ds.length=np/\ss=ds.map .sh/\P (g ds) n
theorem Ig{np:Nat}{g:List D->D}{ss:List Slot}{n:Nat}{P:D->Nat->Prop}(h:Xc np g ss n P):ss.length=np:=by
 obtain⟨ds,e,rfl,_⟩:=h;rw [Go]; exact e
theorem RU:Vz K "int":=⟨λt ht=>by
 simp only [T0,dB,or_false] at ht
 rcases ht with rfl | rfl | rfl | rfl | rfl | rfl | rfl <;> kernel_rfl⟩
theorem PU:Vz K "bool":=⟨λt ht=>by
 simp only [T0,dB,or_false] at ht
 rcases ht with rfl | rfl | rfl | rfl | rfl | rfl | rfl <;> kernel_rfl⟩
theorem Nu:Vz K "str":=⟨λt ht=>by
 simp only [T0,dB,or_false] at ht
 rcases ht with rfl | rfl | rfl | rfl | rfl | rfl | rfl <;> kernel_rfl⟩
theorem kit_tuple:Vz K "tuple":=⟨λt ht=>by
 simp only [T0,dB,or_false] at ht
 rcases ht with rfl | rfl | rfl | rfl | rfl | rfl | rfl <;> kernel_rfl⟩
end
theorem G0{i:Nat}{te:DW}{P:List D->Nat->Prop}{g:D->D}(I:List Slot->Prop)(hI:∀d ρ,I ρ->I (ρ.set i (.sh d))) :
  ∀(ds acc:List D) (n:Nat) (ρ:List Slot),(∀d∈ds,∀ρ n P',I ρ->P' (g d) n->te n (ρ.set i (.sh d)) P')->I ρ->P (acc++ds.map g) n->Cr (Ad i) Bm te P ds acc n ρ
 | [],acc,n,ρ,_,_,h=>by
  rw [gf,dX] at h;exact h
 | d::ds,acc,n,ρ,ht,hρ,h=>by
  refine ht d On ρ n _ hρ ?_;refine G0 I hI ds (acc++[g d]) n _ (λd hd=>ht d (Rs _ hd)) (hI d ρ hρ) ?_;rw [dg];exact h
theorem Fq{α:Type}(p:α->Bool):∀l:List α,allB (l.map λc=>.bl (p c))=some (l.map p)
 | []=>rfl
 | a::l=>by
  rw [dA,dA];unfold allB;rw [Fq p l];rfl
theorem Vn{b1 b2:Bool}{P:D->Nat->Prop}{n:Nat}{k:(D->Nat->Prop)->Prop}(hk:b1=true->P (.bl b2) n->k P)(h:P (.bl (b1&&b2)) n):(match (.bl b1:D) with | .bl true=>k P | .bl false=>P (.bl false) n | _=>False):=by
 cases b1 with
 | false=>exact h
 | true=>exact hk rfl h
theorem Y6{P:dZ}{w:dh}{K:Frag}{mg:Str->Option Ev}{base:dL}{x:Str}{st:df}{f:Ch}{fd:eI}{k:Nat}{ps:List Str}{κ:Kd}{W:W2}(F:Fun K x x st f fd)(m:mg x=some (.ref f))(b:Binds K fd ps [])
  (hW:∀ss n P,W ss n P->ss.length=ps.length) (ok:A8 P w K mg base B9 k f fd ps (Cq K κ W ps.length)):Got P w K mg base x k ps κ W:=⟨f,fd,ok,m,F.kp,b,hW⟩
def Of(K:Frag):Sp:=λvs H Q _=>∃a ns,vs=[V.ref a]/\(fN (α:=Int) ns<=63/\SqL K H a (ns.map V.int))/\∀H',Q (.bl true) H'
def NE(K:Frag):Sp:=λvs H Q _=>∃a ns,vs=[V.ref a]/\(fN (α:=Int) ns<=63/\SqL K H a (ns.map V.int)) /\
 ∀(c f:Ch) (H':Hp),c≠f->H' c=some (.lst (ns.map V.int))->H' f=some (.lst [.ref c,.int 0,.int 0])->Q (.ref f) H'
theorem al{ns:List Int}(h:ns.length<=63):MF (ns.map V.int) none (some 63)=ns.map V.int:=by
 have e:HT.sIx (ns.map V.int).length (ns.map V.int).length (some 63)=ns.length:=by
  rw [show (63:Int)=((63:Nat):Int) from rfl,HT.sIx_nat,Go,Nat.min_eq_right h]
 unfold MF;rw [e,HT.sIx_none,jz,jc];exact iG (by rw [Go]; exact Sc _)
theorem aY{P:dZ}{w:dh}{K:Frag}{mg:Str->Option Ev}{base:dL}{st s1:df}{rest:List df}{f:Ch}{fd:eI}{Nr:List Str}{k n0:Nat}{wb:Ai}(F:Fun K "law" "law" st f fd)
  (S:Ae ("_law_script" :: "_law_feed_here"::Nr) ["_law_script"] (AQ st)) (hbd:CP st=s1::rest) (hn0:n0<=2 ^ 60)
  (h1:∀(cdv:Ev) (A:eC) (outer:List Env) (s:Op) (H:Hp) (E:XK),Room k (A.deeper (envOfC "law" (AQ st) s.heap.objs.size f cdv)) ->
   PS (ME B9 P w K mg base ("_law_script" :: "_law_feed_here"::Nr) "law" (AQ st) f cdv A outer s H E).nox s1 (Ob (UK (NE K) [] E0 (Q9 (CG 0) WD)) (JB 1)))
  (h2:∀(cdv:Ev) (A:eC) (outer:List Env) (s:Op) (H:Hp) (E:XK),Room k (A.deeper (envOfC "law" (AQ st) s.heap.objs.size f cdv)) ->
   Tx (ME B9 P w K mg base ("_law_script" :: "_law_feed_here"::Nr) "law" (AQ st) f cdv A outer s H E).nox .sh rest wb)
  (hW:wb { nx:=λ_ _=>False,rt:=λd _=>d=.bl true } n0 (.no::.fd::XV Nr.length .no)):A8 P w K mg base B9 (k+1) f fd ["_law_script"] (Of K):=by
 refine F.ok S (λvs H Q E h=>?_) (λcdv A outer s H vs Q E hr h=>?_)
 ·obtain⟨a,ns,rfl,_⟩:=h
  rfl
 ·obtain⟨a,ns,rfl,⟨hl,hS⟩,q⟩:=h
  obtain⟨t,t1,t2⟩:=h2 cdv A outer s H E hr;refine⟨SQ (Ob (UK (NE K) [] E0 (Q9 (CG 0) WD)) (JB 1)) t,by rw [hbd]; exact Bb (h1 cdv A outer s H E hr) t1,?_⟩;refine⟨_,rfl,a,ns,rfl,⟨hl,hS⟩,λc g H' hcg hc hg=>?_⟩
  have at_:∀(i:Nat) (sl:Slot),(Slot.no::Slot.fd::XV Nr.length Slot.no)[i]?=some sl->Slot.no=sl\/(Slot.fd=sl/\i=1):=by
   intro i sl hs
   match i,hs with
   | 0,hs=>exact .inl (c_ hs)
   | 1,hs=>exact .inr ⟨c_ hs,rfl⟩
   | i+2,hs =>
    rw [ji,ji,iB] at hs
    split at hs
    ·exact .inl (c_ hs)
    ·cases hs
  have R:Rel K ⟨λb=>b=g,some (g,c),λb=>b=g,λb=>b=g,H',[],[]⟩ (λb=>b=g) H' n0 (.no::.fd::XV Nr.length .no) ((start ("_law_script" :: "_law_feed_here"::Nr) [V.ref a]).set 1 (some (.ref g))):=by
   refine⟨by simp [L2.start],λ_ z=>z,λb z=>⟨_,(congrArg H' z).trans hg⟩,Ext.refl _ _,λb z=>by rw [← c_ z],λ_ z=>z,λ_ z=>z,λb z=>?_,λi sl hs=>?_,λp hp=>absurd hp (by simp),λi d b hs _=>?_,λi sl b hs o _=>?_,λi j sl t b hs o _ _ _ _=>?_,λp hp=>absurd hp (by simp)⟩
   ·have e:(g,c)=b:=c_ z
    subst e;exact⟨0,0,ns,hg,hcg,⟨hcg,hc⟩,hl,by decide,by omega⟩
   ·rcases at_ i sl hs with e | ⟨e,rfl⟩
    ·rw [← e]; trivial
    ·rw [← e]
     exact⟨(g,c),by simp [L2.start],rfl⟩
   ·rcases at_ i _ hs with e | ⟨e,_⟩ <;> cases e
   ·rcases at_ i sl hs with e | ⟨e,_⟩ <;> (rw [← e] at o; cases o)
   ·rcases at_ i sl hs with e | ⟨e,_⟩ <;> (rw [← e] at o; cases o)
  refine t2 _ _ H' n0 _ _ { nx:=λ_ _=>False,rt:=λd _=>d=.bl true } _ R ⟨λ_ _ _ _ _ _ z=>z.elim,λv H2 d n' _ _ r p=>?_,λ_ _ _ _ _ _ z=>z.elim,λ_ _ _ _ _ _ z=>z.elim⟩ hW;have e:d=.bl true:=p;subst e;have e2:v=.bl true:=r;subst e2;exact q H2
end Dp
namespace L2
section
variable {X:Cx}
theorem HG:∀{us:List Ev} {ys:List Str},StrsAre us ys->Vals (ys.map V.str) us
 | _,_,.nil=>.nil
 | _,_,.cons x t r=>.cons ⟨t,rfl⟩ (HG r)
def UX(K:Frag):List V->Hp->VK->Prop:=λxs H Q=>∃(p:Ch) (ss:List Str),xs=[.ref p]/\SqL K H p (ss.map V.str)/\ss.length<64/\∀(ss':List Str) (l:Ch),ss'.Perm ss->sortedS ss'=true->H l=none->Q (.ref l) (BK H l (.lst (ss'.map V.str)))
theorem LW:DB X (.builtin "sorted") (UX X.K):=by
 intro zG s Z H xs us Q I r h;obtain⟨p,ss,rfl,hq,h64,q⟩:=h;obtain⟨u,rfl,rx⟩:=vals1 r;cases rx;obtain⟨its,r',pl,hz⟩:=I.list hq;have hlen:=r'.length;rw [Go] at hlen;refine sorted_strs pl.isList (KY r') (by omega) λout ss' a1 a2 a3=>?_;obtain⟨e,he⟩:=sortedAll_at s.heap its out;have hl':ss'.length=ss.length:=a2.length_eq;have hn:H (s.heap.objs.size+1)=none:=I.hok.fresh (fO _);refine⟨.ref (s.heap.objs.size+1),_,I.laid (t':=s.toks) (λb o z=>sortedAll_old z) (fO _) (show ObjOk X.prog X.w _ _ _ (.lst (ss'.map V.str)) from⟨?_,out.toList,e,HG a1,?_⟩),rfl,q ss' _ a2 a3 hn⟩
 ·rw [Go,d7]; omega
 ·exact he
def XS:R2:=λx y H Q=>∃z k,x=.str z/\y=.int k/\MulOk z k/\Q (.str (Txt.mul z k)) H
theorem WT:OpR X (binaryOp .Mult) XS:=by
 intro zG s Z H x y v u Q I rx ry h;obtain⟨z,k,rfl,rfl,hm,q⟩:=h;obtain⟨t,rfl⟩:=rx;obtain⟨t',rfl⟩:=ry;exact SB.mul hm λt' k=>⟨.str _,H,I.tok _,⟨_,rfl⟩,q⟩
end
end L2
namespace Dp
open L2
section
variable {K:Frag}
def CB(ds:List D)(P:D->Prop):Prop:=match ds with
 | [.lst xs]=>P (.tup xs)
 | [.tup xs]=>P (.tup xs)
 | _=>False
theorem C_:EJ K .sh (λxs H Q=>∃p ys,xs=[.ref p]/\((SqL K H p ys/\∀l,H l=none->Q (.ref l) (BK H l (.tup ys)))\/(SqT K H p ys/\Q (.ref p) H))) CB:=by
 intro U M H ds vs P Q dom vM hp w q;unfold CB at w
 split at w
 ·obtain⟨v,rfl,hx⟩:=Ec hp
  obtain⟨a,us,rfl,_,ha,hs⟩:=hx;exact⟨a,us,rfl,.inl ⟨.inl ha,λl hl=>q _ _ (.tup _) (BH hl) (Du dom hl hs) w⟩⟩
 ·obtain⟨v,rfl,hx⟩:=Ec hp
  obtain⟨a,us,rfl,ha,hs⟩:=hx.tup;exact⟨a,us,rfl,.inr ⟨ha.sq,q _ H (.tup _) .refl ⟨a,us,rfl,ha,hs⟩ w⟩⟩
 ·exact w.elim
theorem Ats.strs{M:Ch->Prop}{H:Hp}:∀{ss:List Str},(∀x∈ss,x.length<=sizeLine)->Ats K M H (ss.map D.str) (ss.map V.str)
 | [],_=>rfl
 | x::r,h=>⟨.str x,r.map V.str,rfl,⟨rfl,h x On⟩,Ats.strs λy hy=>h y (Rs _ hy)⟩
theorem Ats.strs_le{M:Ch->Prop}{H:Hp}:∀{ss:List Str} {vs:List V},Ats K M H (ss.map D.str) vs->∀x∈ss,x.length<=sizeLine
 | [],_,_=>λx hx=>by cases hx
 | y::r,vs,h=>λx hx=>by
  obtain⟨v,t,e,h1,h2⟩:=h
  rcases T0.mp hx with rfl | hx
  ·exact h1.2
  ·exact Ats.strs_le h2 x hx
def LH(ds:List D)(P:D->Prop):Prop:=∃(xs:List D) (ss:List Str),ds=[.lst xs]/\C9 xs=some ss/\ss.length<64/\∀ss':List Str,ss'.Perm ss->sortedS ss'=true->P (.lst (ss'.map .str))
theorem Ry:∀{xs:List D} {ss:List Str},C9 xs=some ss->xs=ss.map .str
 | [],ss,h=>by cases h; rfl
 | .str b::r,ss,h=>by
  unfold C9 at h;obtain⟨t,e,rfl⟩:=d6.mp h;rw [dA,← Ry e]
 | .non::r,ss,h=>by unfold C9 at h; cases h
 | .int _::r,ss,h=>by unfold C9 at h; cases h
 | .bl _::r,ss,h=>by unfold C9 at h; cases h
 | .tup _::r,ss,h=>by unfold C9 at h; cases h
 | .lst _::r,ss,h=>by unfold C9 at h; cases h
 | .dic _ _::r,ss,h=>by unfold C9 at h; cases h
 | .fdi _ _::r,ss,h=>by unfold C9 at h; cases h
 | .dit _ _::r,ss,h=>by unfold C9 at h; cases h
theorem R6:EJ K .fr (UX K) LH:=by
 intro U M H ds vs P Q dom vM hp w q;obtain⟨xs,ss,rfl,e,h64,w⟩:=w;obtain⟨v,rfl,hx⟩:=Ec hp;obtain⟨a,us,rfl,_,ha,hs⟩:=hx
 have:=OG e hs
 subst this;have e2:=Ry e;subst e2;refine⟨a,ss,rfl,.inl ha,h64,λss' l h1 h2 hl=>?_⟩;exact q _ _ _ (BH hl) (Fh hl (Ats.strs λx hx=>hs.strs_le x (h1.mem_iff.mp hx))) (w ss' h1 h2)
def B7(d e:D)(P:D->Prop):Prop:=match d,e with
 | .int i,.int j=>CMul i j/\P (.int (i*j))
 | .str z,.int k=>MulOk z k/\(Txt.mul z k).length<=sizeLine/\P (.str (Txt.mul z k))
 | _,_=>False
def XU:R2:=λx y H Q=>(rI CMul λi j=>.int (i*j)) x y H Q\/XS x y H Q
theorem Bo{X:Cx}:OpR X (binaryOp .Mult) XU:=op_mul.or WT
theorem CW:FH K .sh XU B7:=λU M H d e x y P Q dom vM hx hy w q=>by
 unfold B7 at w
 split at w
 ·exact .inl (Co (K:=K) (C:=CMul) (g:=λi j=>i*j) U M H (.int _) (.int _) x y P Q dom vM hx hy w q)
 ·rename_i z k
  exact .inr ⟨z,k,hx.1,hy,w.1,q _ H (.str _) .refl ⟨rfl,w.2.1⟩ w.2.2⟩
 ·exact w.elim
end
section
variable {X:Cx}{tg e e2:Expr}{es:List Expr}{ws:Ex}{p pos:Pos}
def T8(ws:Ex):Ex:=λn ρ P=>ws n ρ λds n1=>∃i j:Int,ds=[.int i,.int j]/\(-(2 ^ 62)<=i/\i<2 ^ 62/\-(2 ^ 62)<=j/\j<2 ^ 62)/\P (Cd i (j - i).toNat) n1
theorem Md(hg:Gl X "range")(hm:X.mg "range"=none)(ha:V3 X [e,e2] ws)(hs:starEach [e,e2] X.env=[(false,eval e X.env),(false,eval e2 X.env)]:=by rfl)(hs2:starEach [e2] X.env=[(false,eval e2 X.env)]:=by rfl):DI X tg (.Call (.Name "range" p) [e,e2] [] pos) (T8 ws):=by
 obtain⟨t,a1,a2⟩:=ha;refine⟨_,Sq hg hm a1 hs hs2,λC M H n ρ Z P Rr R w q=>?_⟩;refine a2 C M H n ρ Z _ _ R w λvs H1 ds n1 e1 f1 r1 p=>?_;obtain⟨i,j,rfl,hj,p⟩:=p;cases r1 with
 | cons r rr =>
  cases rr with
  | cons r' rr =>
   cases rr;have hv:_=V.int i:=r;have hv':_=V.int j:=r';exact⟨i,j,by rw [hv,hv'],hj,q _ H1 _ n1 e1 f1 HD p⟩
def bP(X:Cx)(ts:List dO)(b:List D->List Slot->(List Slot->Prop)->Prop):Prop:=∃g,a9 X ts g/\∀(C:Fm) (M:Ch->Prop) (H:Hp) (n:Nat) (ρ:List Slot) (Z:L2.St) (ds:List D) (vs:List V) (P:List Slot->Prop) (Q:L2.St->Hp->Prop),Rel X.K C M H n ρ Z->Ats X.K M H ds vs->b ds ρ P ->
 (∀zY zZ,Rel X.K C M H n zY zZ->P zY->Q zZ H)->g vs Z H Q
def Bu:List D->List Slot->(List Slot->Prop)->Prop:=λds ρ P=>ds=[]/\P ρ
def Ao(b:BW)(bs:List D->List Slot->(List Slot->Prop)->Prop):List D->List Slot->(List Slot->Prop)->Prop:=λds ρ P=>match ds with
 | d::r=>b d ρ λzU=>bs r zU P
 | []=>False
theorem CO:bP X [] Bu:=⟨_,RJ,λC M H n ρ Z ds vs P Q R h w q=>by
 obtain⟨rfl,w⟩:=w;exact⟨h,q ρ Z R w⟩⟩
theorem Aw{b:BW}{bs:List D->List Slot->(List Slot->Prop)->Prop}(h1:DG X e b)(h2:bP X es bs)(hs:(assignEach (e::es) X.env).map (·.2)=assign e X.env::(assignEach es X.env).map (·.2):=by rfl):bP X (e::es) (Ao b bs):=by
 obtain⟨g,a1,a2⟩:=h1;obtain⟨g',b1,b2⟩:=h2;refine⟨_,HN a1 b1 hs,λC M H n ρ Z ds vs P Q R h w q=>?_⟩;cases ds with
 | nil=>exact w.elim
 | cons d r =>
  obtain⟨v,vr,e,hv,hr⟩:=h;exact⟨v,vr,e,a2 C M H n ρ Z d v _ _ R hv w λzY zZ R' w'=>b2 C M H n zY zZ r vr _ _ R' hr w' q⟩
def DJ(k:Nat)(bs:List D->List Slot->(List Slot->Prop)->Prop):BW:=λd ρ P=>match d with
 | .tup ds=>ds.length=k/\bs ds ρ P
 | _=>False
theorem DH{bs:List D->List Slot->(List Slot->Prop)->Prop}{k:Nat}{j:Nat}(hc:X.calm=true)(h:bP X es bs)(hn:(assignEach es X.env).length=k:=by rfl)(hst:(assignEach es X.env).findIdx? (·.1)=none:=by rfl):DG X (.Tuple es j pos) (DJ k bs):=by
 obtain⟨g,a1,a2⟩:=h;refine⟨_,Uq hc a1 hn hst,λC M H n ρ Z d v P Q R h w q=>?_⟩;cases d with
 | tup ds =>
  obtain⟨a,vs,rfl,hq,hs⟩:=h;exact⟨a,vs,rfl,hq.sq,by rw [hs.length]; exact w.1,a2 C M H n ρ Z ds vs P Q R hs w.2 q⟩
 | _=>exact w.elim
def Zq(wa:DW)(b:BW):Ai:=λD2 n ρ=>wa n ρ λd n1=>b d ρ λzU=>D2.nx n1 zU
theorem ZE{κ zP:Kd}{wa:DW}{b:BW}(he:DE X e zP wa)(hg:DG X tg b)(hk:zP≠.tp:=by intro z; cases z)(hs:swapsWithSole [tg] e pos.line X.env=pure false:=by rfl)(hw:swappedStores [tg] e X.env=pure none:=by rfl)
  (h1:(assignEach [tg] X.env).map (·.2)=[assign tg X.env]:=by rfl):DS X κ (.Assign [tg] e pos) (Zq wa b):=by
 obtain⟨t,a1,a2⟩:=he;obtain⟨g,g1,g2⟩:=hg;refine⟨_,NZ a1 g1 hs hw h1,λC M H n ρ Z D2 E R L w=>?_⟩;refine a2 C M H n ρ Z _ _ R w λv H' d n' e1 f1 r1 p=>?_;exact g2 C M H' n' ρ Z d v _ _ (R.step e1 f1) (r1.shOf R.dom hk) p λzY zZ R' w'=>L.nx M H' n' zY zZ R' w'
end
end Dp
namespace L2
mutual
def RV(H:Hp):gT->V->Prop
 | .none,v=>v=.non
 | .bool b,v=>v=.bl b
 | .int i,v=>v=.int i
 | .str x,v=>v=.str x
 | .tuple xs,v=>∃a vs,v=.ref a/\H a=some (.tup vs)/\RVs H xs vs
 | .list xs,v=>∃a vs,v=.ref a/\Rd H a (.lst vs)/\RVs H xs vs
 | .dict _,_=>False
def RVs(H:Hp):List gT->List V->Prop
 | [],vs=>vs=[]
 | x::xs,vs=>∃v r,vs=v::r/\RV H x v/\RVs H xs r
end
section
variable {X:Cx}{zG:List (Addr×Obj)}{Z:L2.St}{H:Hp}{s:Shared}
mutual
theorem RV.reads(I:Inv X zG Z H s):∀{d:gT} {v:V} {u:Ev},RV H d v->RelV v u->∃as,Reads s.heap u d as
 | .none,v,u,h,r=>by
  cases (show v=.non from h);cases (show u=dk from r);exact⟨_,.none⟩
 | .bool b,v,u,h,r=>by
  cases (show v=.bl b from h);cases (show u=hX b from r);exact⟨_,.bool b⟩
 | .int i,v,u,h,r=>by
  cases (show v=.int i from h);obtain⟨t,rfl⟩:=r;exact⟨_,.int i t⟩
 | .str x,v,u,h,r=>by
  cases (show v=.str x from h);obtain⟨t,rfl⟩:=r;exact⟨_,.str x t⟩
 | .tuple xs,v,u,h,r=>by
  obtain⟨a,vs,rfl,hq,hs⟩:=h;cases r;obtain⟨its,rv,⟨o,e,c,n,d⟩,_⟩:=I.tuple (X:=X) (xs:=vs) (.inl (.inl hq));obtain⟨as,ra⟩:=RVs.reads I hs rv;exact⟨_,.tuple e c d ra⟩
 | .list xs,v,u,h,r=>by
  obtain⟨a,vs,rfl,hq,hs⟩:=h;cases r;obtain⟨its,rv,pl,_⟩:=I.list (X:=X) (xs:=vs) (.inl hq);obtain⟨o,e,c,n,d⟩:=pl.isList;obtain⟨as,ra⟩:=RVs.reads I hs rv;exact⟨_,.list e c d ra⟩
 | .dict _,v,u,h,r=>h.elim
theorem RVs.reads(I:Inv X zG Z H s):∀{ds:List gT} {vs:List V} {us:List Ev},RVs H ds vs->Vals vs us->∃as,ReadsAll s.heap us ds as
 | [],vs,us,h,r=>by
  cases (show vs=[] from h);cases r;exact⟨_,.nil⟩
 | d::ds,vs,us,h,r=>by
  obtain⟨v,w,rfl,h1,h2⟩:=h;cases r with
  | cons r1 r2 =>
   obtain⟨as,a1⟩:=RV.reads I h1 r1;obtain⟨bs,a2⟩:=RVs.reads I h2 r2;exact⟨_,.cons a1 a2⟩
end
end
theorem RV.noDict{H:Hp}:∀(d:gT) (v:V),RV H d v->d.hasDict=false
 | d,v,h=>by
  have go:∀(n:Nat),(∀(d:gT) (v:V),sizeOf d<=n->RV H d v->d.hasDict=false)/\∀(ds:List gT) (vs:List V),sizeOf ds<=n->RVs H ds vs->jR ds=false:=by
   intro n
   induction n with
   | zero =>
    refine⟨λd v h _=>?_,λds vs h _=>?_⟩
    ·cases d <;> simp at h
    ·cases ds <;> simp at h
   | succ n ih =>
    refine⟨λd v h hr=>?_,λds vs h hr=>?_⟩
    ·cases d with
     | tuple xs =>
      obtain⟨a,vs,_,_,hs⟩:=hr;simp only [gg];exact ih.2 xs vs (by simp at h; omega) hs
     | list xs =>
      obtain⟨a,vs,_,_,hs⟩:=hr;simp only [gg];exact ih.2 xs vs (by simp at h; omega) hs
     | dict kvs=>exact(show False from hr).elim
     | none=>simp only [gg]
     | bool b=>simp only [gg]
     | int i=>simp only [gg]
     | str x=>simp only [gg]
    ·cases ds with
     | nil=>simp only [jR]
     | cons x xs =>
      obtain⟨v,w,_,h1,h2⟩:=hr;simp only [jR,ih.1 x v (by simp at h; omega) h1,ih.2 xs w (by simp at h; omega) h2,kC]
  exact(go (sizeOf d)).1 d v (Sc _) h
section
variable {X:Cx}
def XR:List V->Hp->VK->Prop:=λxs H Q=>∃x d,xs=[x]/\RV H d x/\d.showable=true/\d.depth<=100/\d.shown.length<=sizeLine/\Q (.str d.shown) H
theorem C4{k:Nat}(hr:Room k X.A):DB X (.builtin "repr") XR:=by
 intro zG s Z H xs us Q I r h;obtain⟨x,d,rfl,hx,hs,hd,hz,q⟩:=h;obtain⟨u,rfl,rx⟩:=vals1 r;have hu:=hr.un;cases d with
 | none =>
  cases (show x=.non from hx);cases (show u=dk from rx);exact PySem.P.repr_of_none ⟨.str _,H,I.tok _,⟨_,rfl⟩,q⟩
 | bool b =>
  cases (show x=.bl b from hx);cases (show u=hX b from rx);refine PySem.P.repr_of_bool ⟨.str _,H,I.tok _,⟨_,rfl⟩,?_⟩;have e:jd (.bool b)=if b then ("True":Str) else "False":=by cases b <;> rfl
  rw [e] at q;exact q
 | int i =>
  cases (show x=.int i from hx);obtain⟨t,rfl⟩:=rx;refine PySem.P.repr_of_int (by simpa [PyData.showable] using hs) ⟨.str _,H,I.tok _,⟨_,rfl⟩,q⟩
 | str z =>
  cases (show x=.str z from hx);obtain⟨t,rfl⟩:=rx;exact PySem.P.repr_of_str ⟨.str _,H,I.tok _,⟨_,rfl⟩,q⟩ hz
 | tuple ds =>
  obtain⟨as,ra⟩:=RV.reads I hx rx;obtain⟨a,vs,rfl,_⟩:=id hx;cases rx;refine repr_of_reads' ra hs (PyData.noDict_hsm (RV.noDict _ _ hx)) hr.gd (by omega) (λ_ _ e=>e) (λh' u tk hk=>⟨.str _,H,I.kept (t':=tk) hk,⟨_,rfl⟩,q⟩) hz
 | list ds =>
  obtain⟨as,ra⟩:=RV.reads I hx rx;obtain⟨a,vs,rfl,_⟩:=id hx;cases rx;refine repr_of_reads' ra hs (PyData.noDict_hsm (RV.noDict _ _ hx)) hr.gd (by omega) (λ_ _ e=>e) (λh' u tk hk=>⟨.str _,H,I.kept (t':=tk) hk,⟨_,rfl⟩,q⟩) hz
 | dict _=>exact(show False from hx).elim
def aH:R2:=λx y H Q=>∃d e,RV H d x/\RV H e y/\d.canLay0=true/\e.canLay0=true/\d.depth<=100/\Q (.bl (eN d e)) H
theorem U0{k:Nat}(hr:Room k X.A):OpR X (compareOp .Eq) aH:=by
 intro zG s Z H x y v u Q I rx ry h;obtain⟨d,e,hx,hy,h1,h2,hd,q⟩:=h;obtain⟨as,ra⟩:=RV.reads I hx rx;obtain⟨bs,rb⟩:=RV.reads I hy ry;have hu:=hr.un;have hm:min d.depth e.depth<=d.depth:=Nat.min_le_left _ _;exact PySem.SeqAt.compareEq_reads ra rb h1 h2 (by omega) ⟨.bl _,H,I,rfl,q⟩
def YQ(neg:Bool):R2:=λx y H Q=>∃d es,RV H d x/\(RV H (.list es) y\/RV H (.tuple es) y)/\d.canLay0=true/\fF es=true/\d.depth<=100/\Q (.bl (if neg then !(es.any λy=>eN y d) else es.any λy=>eN y d)) H
theorem Bz{k:Nat}(hr:Room k X.A):OpR X (compareOp .In) (YQ false):=by
 intro zG s Z H x y v u Q I rx ry h;obtain⟨d,es,hx,hy,h1,h2,hd,q⟩:=h;obtain⟨as,ra⟩:=RV.reads I hx rx;have hu:=hr.un;have hm:min (eO es) d.depth<=d.depth:=gj _ _
 rcases hy with hy | hy
 ·obtain⟨bs,rb⟩:=RV.reads I hy ry
  exact PySem.SeqAt.in_list_reads rb ra h2 h1 (by omega) ⟨.bl _,H,I,rfl,q⟩
 ·obtain⟨bs,rb⟩:=RV.reads I hy ry
  exact PySem.SeqAt.in_tuple_reads rb ra h2 h1 (by omega) ⟨.bl _,H,I,rfl,q⟩
theorem F_{k:Nat}(hr:Room k X.A):OpR X (compareOp .NotIn) (YQ true):=by
 intro zG s Z H x y v u Q I rx ry h;obtain⟨d,es,hx,hy,h1,h2,hd,q⟩:=h;obtain⟨as,ra⟩:=RV.reads I hx rx;have hu:=hr.un;have hm:min (eO es) d.depth<=d.depth:=gj _ _
 rcases hy with hy | hy
 ·obtain⟨bs,rb⟩:=RV.reads I hy ry
  exact PySem.SeqAt.notIn_list_reads rb ra h2 h1 (by omega) ⟨.bl _,H,I,rfl,q⟩
 ·obtain⟨bs,rb⟩:=RV.reads I hy ry
  exact PySem.SeqAt.notIn_tuple_reads rb ra h2 h1 (by omega) ⟨.bl _,H,I,rfl,q⟩
end
end L2
namespace Dp
open L2
mutual
def toPy:D->gT
 | .non=>.none
 | .bl b=>.bool b
 | .int i=>.int i
 | .str x=>.str x
 | .tup ds=>.tuple (A6 ds)
 | .lst ds=>.list (A6 ds)
 | .dic _ _=>.dict []
 | .fdi _ _=>.dict []
 | .dit _ _=>.dict []
def A6:List D->List gT
 | []=>[]
 | d::ds=>toPy d::A6 ds
end
mutual
def GV:D->Bool
 | .tup ds=>Cu ds
 | .lst ds=>Cu ds
 | .dic _ _=>false
 | .fdi _ _=>false
 | .dit _ _=>false
 | _=>true
def Cu:List D->Bool
 | []=>true
 | d::ds=>GV d&&Cu ds
end
theorem DV(ds:List D):A6 ds=ds.map toPy:=by
 induction ds with
 | nil=>rfl
 | cons d r ih=>rw [A6,ih,dA]
section
variable {K:Frag}{M:Addr->Prop}{H:Hp}
mutual
theorem At.rv:∀{d:D} {v:V},At K M H d v->GV d=true->RV H (toPy d) v
 | .non,v,h,_=>h
 | .bl b,v,h,_=>h
 | .int i,v,h,_=>h
 | .str x,v,h,_=>h.1
 | .tup ds,v,h,n=>by
  obtain⟨a,vs,e,hn,hs⟩:=h;exact⟨a,vs,e,hn,Ats.rv hs n⟩
 | .lst ds,v,h,n=>by
  obtain⟨a,vs,e,hn,hs⟩:=h;exact⟨a,vs,e,.inl hn.2,Ats.rv hs n⟩
 | .dic ks ds,v,h,n=>by cases n
 | .fdi ks ds,v,h,n=>by cases n
 | .dit ks ds,v,h,n=>by cases n
theorem Ats.rv:∀{ds:List D} {vs:List V},Ats K M H ds vs->Cu ds=true->RVs H (A6 ds) vs
 | [],vs,h,_=>h
 | d::ds,vs,h,n=>by
  obtain⟨v,r,e,h1,h2⟩:=h;have n':(GV d&&Cu ds)=true:=n;rw [UF] at n';exact⟨v,r,e,At.rv h1 n'.1,Ats.rv h2 n'.2⟩
end
theorem AtT.rv{U:Ch->Prop}{d:D}{v:V}(h:AtT K U M H d v)(n:GV d=true):RV H (toPy d) v:=by
 cases d with
 | lst ds =>
  obtain⟨a,vs,e,_,hq,hs⟩:=h;exact⟨a,vs,e,hq,Ats.rv hs n⟩
 | dic ks ds=>cases n
 | fdi ks ds=>cases n
 | dit ks ds=>cases n
 | non=>exact h
 | bl b=>exact h
 | int i=>exact h
 | str x=>exact h.1
 | tup ds=>exact At.rv (K:=K) (M:=M) (d:=.tup ds) h n
def Kc(d:D):Prop:=GV d=true/\(toPy d).showable=true/\(toPy d).depth<=100/\(toPy d).shown.length<=sizeLine
def BB(d:D):Str:=(toPy d).shown
def JC(ds:List D)(P:D->Prop):Prop:=∃d,ds=[d]/\Kc d/\P (.str (BB d))
theorem G9:EJ K .sh XR JC:=by
 intro U M H ds vs P Q dom vM hp w q;obtain⟨d,rfl,hd,w⟩:=w;obtain⟨v,rfl,hx⟩:=Ec hp;exact⟨v,toPy d,rfl,hx.rv hd.1,hd.2.1,hd.2.2.1,hd.2.2.2,q _ H (.str (BB d)) .refl ⟨rfl,hd.2.2.2⟩ w⟩
def Ci(d:D):Prop:=GV d=true/\(toPy d).canLay0=true/\(toPy d).depth<=100
def GF(d e:D):Bool:=eN (toPy d) (toPy e)
def Y9(d e:D)(P:D->Prop):Prop:=Ci d/\Ci e/\P (.bl (GF d e))
theorem Xt:FH K .sh aH Y9:=λU M H d e x y P Q dom vM hx hy w q =>
 ⟨toPy d,toPy e,hx.rv w.1.1,hy.rv w.2.1.1,w.1.2.1,w.2.1.2.1,w.1.2.2,q _ H (.bl (GF d e)) .refl rfl w.2.2⟩
def IU:D->Option (List D)
 | .lst ds=>some ds
 | .tup ds=>some ds
 | _=>none
def DF(neg:Bool)(d e:D)(P:D->Prop):Prop:=Ci d/\Ci e/\∃es,IU e=some es/\P (.bl (if neg then !(es.any λy=>GF y d) else es.any λy=>GF y d))
theorem CD{neg:Bool}:FH K .sh (YQ neg) (DF neg):=λU M H d e x y P Q dom vM hx hy w q=>by
 obtain⟨h1,h2,es,he,w⟩:=w;have any_eq:∀es:List D,(es.map toPy).any (λy=>eN y (toPy d))=es.any λy=>GF y d:=λes=>by rw [kN]; rfl
 cases e with
 | lst ds =>
  cases he;refine⟨toPy d,A6 es,hx.rv h1.1,.inl (hy.rv h2.1),h1.2.1,by simpa [toPy,PyData.canLay0] using h2.2.1,h1.2.2,?_⟩;rw [DV,any_eq];exact q _ H (.bl _) .refl rfl w
 | tup ds =>
  cases he;refine⟨toPy d,A6 es,hx.rv h1.1,.inr (hy.rv h2.1),h1.2.1,by simpa [toPy,PyData.canLay0] using h2.2.1,h1.2.2,?_⟩;rw [DV,any_eq];exact q _ H (.bl _) .refl rfl w
 | _=>cases he
end
end Dp
namespace L2
end L2
namespace Dp
open L2
end Dp
namespace L2
def kOf:Key->V
 | .inl i=>.int i
 | .inr x=>.str x
def bJ:Key->Key->Bool
 | .inl i,.inl j=>decide (i<j)
 | .inr x,.inr y=>decide (x.cps.toList<y.cps.toList)
 | _,_=>false
def MQ:Key->Key->Bool
 | .inl _,.inl _=>true
 | .inr _,.inr _=>true
 | _,_=>false
def Eg:List Key->List Key->Bool
 | [],[]=>false
 | [],_::_=>true
 | _::_,[]=>false
 | x::xs,y::ys=>if x=y then Eg xs ys else bJ x y
def CT:List Key->List Key->Bool
 | x::xs,y::ys=>MQ x y&&CT xs ys
 | _,_=>true
theorem VX{A:eC}{s:Op}{x y:Key}{u v:Ev}(rx:RelV (kOf x) u)(ry:RelV (kOf y) v):∃e,SeqAt.EqAt A s u v e/\(e=true↔x=y):=by
 cases x with
 | inl i =>
  cases y with
  | inl j=>exact⟨_,N3 rx ry rfl rfl,by simp [kOf,ag]⟩
  | inr z=>exact⟨_,N3 rx ry rfl rfl,by simp [kOf,ag]⟩
 | inr z =>
  cases y with
  | inl j=>exact⟨_,N3 rx ry rfl rfl,by simp [kOf,ag]⟩
  | inr z'=>exact⟨_,N3 rx ry rfl rfl,by simp [kOf,ag]⟩
theorem UU(A:eC)(s:Op){x y:Key}{u v:Ev}(rx:RelV (kOf x) u)(ry:RelV (kOf y) v)(hs:MQ x y=true)(prog:dZ)(w:dh)(E:Ev->Op->Prop)(Q:Ev->Op->Prop)(h:Q (.bool (bJ x y)) s) :
  wpAny (model prog w) A (richCompare .Lt u v) Q E s:=by
 cases x with
 | inl i =>
  cases y with
  | inl j =>
   obtain⟨t,rfl⟩:=rx;obtain⟨t',rfl⟩:=ry;exact(jt h:wpAny (model prog w) A (compareOp .Lt (.int i t) (.int j t')) Q E s)
  | inr z=>cases hs
 | inr z =>
  cases y with
  | inl j=>cases hs
  | inr z' =>
   obtain⟨t,rfl⟩:=rx;obtain⟨t',rfl⟩:=ry;exact(PySem.P.lt_str h:wpAny (model prog w) A (compareOp .Lt (.str z t) (.str z' t')) Q E s)
section
open PySem.SeqAt
open PySem.AutoSeq1 (wpAny_loadPart')
open PySem.MeetsSeq PySem.MeetsSeq2 PySem.MeetsSeq3
theorem GS(l b:Ch)(items items2:Array Ev)(n n2:Nat)(dd dd2:Option Ch)(sl sl2:Array (Option Ev))(ns ms:List Key)(hi:Vals (ns.map kOf) items.toList)(hj:Vals (ms.map kOf) items2.toList)(hsame:CT ns ms=true) :
  Meets (fq.«tuple.__lt__» ⟨[.ref l,.ref b],[]⟩)
   (λ_ R s=>s.heap.get? l=some { cls:=.type "tuple",dict:=dd,data:=.seq items n,slots:=sl }/\s.heap.get? b=some { cls:=.type "tuple",dict:=dd2,data:=.seq items2 n2,slots:=sl2 } /\
    R (.ok (.ret (.bool (Eg ns ms)))) s) :=
 .of_wp λprog w A R s h=>by
  obtain⟨hp,g,d,tk,os⟩:=s; obtain⟨hl,hb,h⟩:=h
  have f2:=AutoSeq1.sub_tuple_tuple;have z1:items.size=ns.length:=by have:=hi.length; rw [Go] at this; rw [this]; simp
  have z2:items2.size=ms.length:=by have:=hj.length; rw [Go] at this; rw [this]; simp
  wp_walk using eX hl,eX hb,wpAny_forIn_list _ (λrest b s'=>b.1=none/\s'=⟨hp,g,d,tk,os⟩/\∃(vs ws:List Ev) (ns' ms':List Key),rest=vs.zip ws /\
   Vals (ns'.map kOf) vs/\Vals (ms'.map kOf) ws/\CT ns' ms'=true/\ns'.length+items2.size=ms'.length+items.size/\R (.ok (.ret (.bool (Eg ns' ms')))) ⟨hp,g,d,tk,os⟩) _
  case turn =>
   rintro ⟨y,x⟩ rest b s' ⟨hb',rfl,vs,ws,ns',ms',hz,hvi,hwi,hsm,hlen,hR⟩;cases ns' with
   | nil=>cases hvi; rw [List.zip_nil_left] at hz; cases hz
   | cons a ns' =>
    cases ms' with
    | nil=>cases hwi; rw [List.zip_nil_right] at hz; cases hz
    | cons c ms' =>
     rw [dA] at hvi hwi;cases hvi with
     | cons ra hvi' =>
      cases hwi with
      | cons rc hwi' =>
       rw [i9] at hz;injection hz with hyx hrest
       injection hyx with hy hx
       subst hy hx;have hR':R (.ok (.ret (.bool (if a=c then Eg ns' ms' else bJ a c)))) ⟨hp,g,d,tk,os⟩:=hR;have hsm':(MQ a c&&CT ns' ms')=true:=hsm;rw [UF] at hsm';simp only [c6] at hlen;obtain⟨e,he,hiff⟩:=VX (A:=A.in1) (s:=⟨hp,g,d,tk,os⟩) ra rc;refine Db (he prog w _ _ ?_);cases e with
       | true =>
        rw [if_pos (hiff.mp rfl)] at hR'
        wp_walk
        exact⟨rfl,rfl,_,_,_,_,hrest,hvi',hwi',hsm'.2,by omega,hR'⟩
       | false =>
        rw [if_neg (λq=>absurd (hiff.mpr q) dH)] at hR';have hri:=UU A.in1 ⟨hp,g,d,tk,os⟩ ra rc hsm'.1 prog w
        wp_walk using hri
        exact⟨_,rfl,by simpa using hR'⟩
  case fin =>
   rintro ⟨b1,b2⟩ s' ⟨hb',rfl,vs,ws,ns',ms',hz,hvi,hwi,hsm,hlen,hR⟩;simp only at hb';subst hb'
   have hv:Eg ns' ms'=decide (items.size<items2.size):=by
    cases ns' with
    | nil =>
     cases ms' with
     | nil =>
      simp only [e6] at hlen;exact(decide_eq_false (by omega)).symm
     | cons c u =>
      simp only [e6,c6] at hlen;exact(decide_eq_true (by omega)).symm
    | cons a t =>
     cases ms' with
     | nil =>
      simp only [e6,c6] at hlen;exact(decide_eq_false (by omega)).symm
     | cons c u =>
      rw [dA] at hvi hwi;cases hvi;cases hwi;rw [i9] at hz;cases hz
   rw [hv] at hR
   wp_walk
   exact⟨_,rfl,by simpa [Builtin.Tuple.tupleCompareSizes] using hR⟩
  case h =>
   exact⟨rfl,rfl,items.toList,items2.toList,ns,ms,rfl,hi,hj,hsame,by omega,h⟩
end
section
variable {X:Cx}
def Z_(K:Frag):R2:=λx y H Q=>∃a b ns ms,x=.ref a/\y=.ref b/\SqT K H a (ns.map kOf)/\SqT K H b (ms.map kOf)/\CT ns ms=true/\Q (.bl (Eg ns ms)) H
theorem Yf(hu:X.A.units<cLine):OpR X (compareOp .Lt) (Z_ X.K):=by
 intro zG s Z H x y v u Q I rx ry h;obtain⟨a,b,ns,ms,rfl,rfl,ha,hb,hsm,q⟩:=h;cases rx;cases ry;obtain⟨its,r1,p1,_⟩:=I.tuple ha;obtain⟨its2,r2,p2,_⟩:=I.tuple hb;obtain⟨⟨cls,dd,data,sl⟩,ho,hc,n,hd⟩:=id p1;obtain⟨⟨cls2,dd2,data2,sl2⟩,ho2,hc2,n2,hd2⟩:=id p2;simp only at hc hd hc2 hd2;subst hc hd hc2 hd2
 exact richCompare_meets_room (op:=.Lt) ⟨_,ho,rfl⟩ ⟨_,ho2,rfl⟩ PySem.F.slot_tuple_lt PySem.F.entry_tuple_lt (PySem.F.args_tuple_lt_2 _ _) (GS a b its.toArray its2.toArray n n2 dd dd2 sl sl2 ns ms r1 r2 hsm)
  ⟨ho,ho2,show hX (Eg ns ms)≠kA/\EP X zG Z Q (.bool (Eg ns ms)) s from⟨(λx=>nomatch x),⟨.bl _,H,I,rfl,q⟩⟩⟩ hu
end
def ItAt(κ:Bool)(h:dL)(it l:Ch)(k:Nat):Prop:=match κ with
 | true=>h.IsListIter it l k
 | false=>h.IsTupleIter it l k
def SqAt(κ:Bool)(h:dL)(l:Ch)(items:Array Ev):Prop:=match κ with
 | true=>h.IsList l items
 | false=>h.IsTuple l items
section
variable {κ:Bool}{h h':Heap}{it l b:Addr}{k:Nat}{items:Array Value}
theorem ItAt.mv(x:ItAt κ h it l k)(e:∀o,h.get? it=some o->h'.get? it=some o):ItAt κ h' it l k:=by
 cases κ with
 | true=>obtain⟨o,ho,r⟩:=x; exact⟨o,e o ho,r⟩
 | false=>obtain⟨o,ho,r⟩:=x; exact⟨o,e o ho,r⟩
theorem SqAt.mv(x:SqAt κ h l items)(e:∀o,h.get? l=some o->h'.get? l=some o):SqAt κ h' l items:=by
 cases κ with
 | true=>obtain⟨o,ho,r⟩:=x; exact⟨o,e o ho,r⟩
 | false=>obtain⟨o,ho,r⟩:=x; exact⟨o,e o ho,r⟩
theorem ItAt.eb(x:ItAt κ h it l k)(hs:Heap.ExtBut b h h')(n:it≠b):ItAt κ h' it l k:=x.mv λo e=>hs it o n e
theorem SqAt.eb(x:SqAt κ h l items)(hs:Heap.ExtBut b h h')(n:l≠b):SqAt κ h' l items:=x.mv λo e=>hs l o n e
theorem ItAt.lies(x:ItAt κ h it l k):∃o,h.get? it=some o/\∀v,o.data≠.cell v:=by
 cases κ with
 | true=>obtain⟨o,ho,_,d⟩:=x; exact⟨o,ho,λv z=>by rw [d] at z; cases z⟩
 | false=>obtain⟨o,ho,_,d⟩:=x; exact⟨o,ho,λv z=>by rw [d] at z; cases z⟩
theorem SqAt.lies(x:SqAt κ h l items):∃o,h.get? l=some o:=by
 cases κ with
 | true=>obtain⟨o,ho,_⟩:=x; exact⟨o,ho⟩
 | false=>obtain⟨o,ho,_⟩:=x; exact⟨o,ho⟩
end
section
variable {prog:Program}{w:World}{A:Around}{E:Value->Shared->Prop}{s:Shared}
theorem GG{κ:Bool}{it l:Ch}{i:Nat}{items:Array Ev}{x:Ev}{Q:Ev->Op->Prop}(hit:ItAt κ s.heap it l i)(hl:SqAt κ s.heap l items)(hx:items[i]?=some x)
  (hQ:∀h',ItAt κ h' it l (i+1)->g8 it s.heap h'->Q x { s with heap:=h' }):wpAny (model prog w) A (eV (.ref it)) Q E s:=by
 cases κ with
 | true=>exact wpAny_nextOf_list_item hit hl hx hQ
 | false =>
  have hit':s.heap.IsTupleIter it l i:=hit;have hl':s.heap.IsTuple l items:=hl;obtain⟨o,ho,hc,hd⟩:=id hit'; obtain⟨ol,hol,_,nl,hdl⟩:=hl'
  unfold eV;refine Db (fS (name:=eE "__next__") hit'.typeIs gB (gL gB hit'.typeIs i_ ?_ (iw _)));show wpAny (model prog w) _ (field (.ref it) 0 >>= _) _ _ s; refine Db (fB ho hd (x:=.ref l) rfl ?_)
  show wpAny (model prog w) _ (if (dn l==dk)=true then _ else _) _ _ s; rw [if_neg (show ¬((dn l==dk)=true) from dH)]
  show wpAny (model prog w) _ (field (.ref it) 1 >>= _) _ _ s; refine Db (fB ho hd (x:=.int i 0) rfl ?_)
  show wpAny (model prog w) _ (seqItems? (.ref l) >>= _) _ _ s; refine Db (fA hol hdl ?_); simp only [gE,hx]
  refine Db (wpAny_setField ho hd (by simp) (TW ⟨x,rfl,TW (hQ _ (show Heap.IsTupleIter _ it l (i+1) from ?_) (kE ..))⟩));exact⟨_,ge _ ho (Obj.isFreed_of_fields (Obj.data_mapFields hd _)),(Obj.cls_mapFields ..).trans hc,by(rw [Obj.data_mapFields hd]; simp [rawInt])⟩
theorem Hj{κ:Bool}{it l:Ch}{i:Nat}{items:Array Ev}{Q:Ev->Op->Prop}(hh:A.handled=none)(hit:ItAt κ s.heap it l i)(hl:SqAt κ s.heap l items)(hx:items[i]?=none)
  (hE:∀h' e,Heap.ExtBut it s.heap h'->(∃o,h'.get? e=some o/\o.cls=.type "StopIteration")->E (.ref e) { s with heap:=h' }):wpAny (model prog w) A (eV (.ref it)) Q E s:=by
 cases κ with
 | true=>exact wpAny_nextOf_list_end hh hit hl hx hE
 | false =>
  have hit':s.heap.IsTupleIter it l i:=hit;have hl':s.heap.IsTuple l items:=hl;obtain⟨o,ho,hc,hd⟩:=id hit'; obtain⟨ol,hol,_,nl,hdl⟩:=hl'
  unfold eV;refine Db (fS (name:=eE "__next__") hit'.typeIs gB (gL gB hit'.typeIs i_ ?_ (iw _)));show wpAny (model prog w) _ (field (.ref it) 0 >>= _) _ _ s; refine Db (fB ho hd (x:=.ref l) rfl ?_)
  show wpAny (model prog w) _ (if (dn l==dk)=true then _ else _) _ _ s; rw [if_neg (show ¬((dn l==dk)=true) from dH)]
  show wpAny (model prog w) _ (field (.ref it) 1 >>= _) _ _ s; refine Db (fB ho hd (x:=.int i 0) rfl ?_)
  show wpAny (model prog w) _ (seqItems? (.ref l) >>= _) _ _ s; refine Db (fA hol hdl ?_); simp only [gE,hx]
  refine Db (gR (Db (wpAny_setField ho hd (by simp) ?_))); show wpAny (model prog w) _ (newExc (.type "StopIteration") [] >>= _) _ _ _
  refine Db ?_; simp only [newExc,newTuple]; refine Db (eS ?_ (by size_fits))
  refine Db (m:=firstArgMember _ _) (jv (a:=dk) (by first | rfl | (simp only [firstArgMember]; rfl)) ?_); refine eS ?_ (by size_fits)
  simp only [raiseNew]; refine Db (wpAny_handled ?_); first | rw [show A.in1.handled=none from hh] | rw [hh]
  refine Db (TW (wpAny_throw ?_)); exact hE _ _ (((kE ..).extBut.push _).push _) ⟨_,c7 _ rfl,rfl⟩
structure Zk (z TI TO i1 i2 l1 l2:Ch):Prop where
 TIz:TI≠z
 TOz:TO≠z
 i1z:i1≠z
 i2z:i2≠z
 TOi1:TO≠i1
 TOi2:TO≠i2
 i12:i1≠i2
 l1z:l1≠z
 l1TO:l1≠TO
 l1i1:l1≠i1
 l1i2:l1≠i2
 l2z:l2≠z
 l2TO:l2≠TO
 l2i1:l2≠i1
 l2i2:l2≠i2
theorem Tz{zX zW:Bool}{z TI TO i1 i2 l1 l2:Ch}{k:Nat}{xs ys:Array Ev}{x y a b:Ev}{Q:Ev->Op->Prop}(D:Zk z TI TO i1 i2 l1 l2)
  (hz:gZ s.heap z TI TO .none) (hTI:fM s.heap TI (.ref i1) (.ref i2)) (hTO:fM s.heap TO a b) (h1:ItAt zX s.heap i1 l1 k) (h2:ItAt zW s.heap i2 l2 k) (hl1:SqAt zX s.heap l1 xs) (hl2:SqAt zW s.heap l2 ys) (hx:xs[k]?=some x) (hy:ys[k]?=some y)
  (hQ:∀h',gZ h' z TI TO (rawInt s.heap.objs.size)->fM h' TO x y->ItAt zX h' i1 l1 (k+1)->ItAt zW h' i2 l2 (k+1)->fM h' s.heap.objs.size x y->h'.objs.size=s.heap.objs.size+1->(∀c o,c≠z->c≠TO->c≠i1->c≠i2->s.heap.get? c=some o->h'.get? c=some o)->Q (.ref s.heap.objs.size) { s with heap:=h' }) :
  wpAny (model prog w) A (fq.«zip.__next__» ⟨[.ref z],[]⟩) (λfin s'=>∃v,fin=.done (.ret v)/\Q v s') E s:=by
 show wpAny (model prog w) A (field (.ref z) 2 >>= _) _ _ _; refine Db (fB hz rfl (x:=.bool false) rfl ?_)
 show wpAny (model prog w) A (field (.ref z) 3 >>= _) _ _ _; refine Db (fB hz rfl (x:=.ref TI) rfl ?_); refine Db (fA hTI rfl ?_)
 show wpAny (model prog w) A (fR (.ref z) >>= _) _ _ _; refine Db ?_; unfold fR
 refine Db (fB hz rfl (x:=.none) rfl (TW ?_)); simp only [if_true]; refine Db (gR ?_); refine Db (fB hz rfl (x:=.ref TO) rfl ?_)
 refine Db (f6 hz (by simp) λha hza hsa=>?_);replace hza:gZ ha z TI TO .ellipsis:=hza;refine Db ?_; simp only [List.zipIdx_cons,List.zipIdx_nil,gy,List.forIn_nil]
 refine Db (Db (jG ?_)); show wpAny (model prog w) _ (eV (.ref i1) >>= _) _ _ _
 refine Db (GG (h1.eb hsa.extBut D.i1z) (hl1.eb hsa.extBut D.l1z) hx λhb h1b hsb=>TW ?_);have hTOb:fM hb TO a b:=hsb.extBut _ _ D.TOi1 (hsa.extBut _ _ D.TOz hTO);refine Db (fA hTOb rfl ?_); refine Db (iZ hTOb λhc hTOc hsc=>?_)
 replace hTOc:fM hc TO x b:=hTOc;refine Db (gX (TW ?_)); refine Db (Db (jG ?_)); show wpAny (model prog w) _ (eV (.ref i2) >>= _) _ _ _
 refine Db (GG (((h2.eb hsa.extBut D.i2z).eb hsb.extBut D.i12.symm).eb hsc.extBut D.TOi2.symm) (((hl2.eb hsa.extBut D.l2z).eb hsb.extBut D.l2i1).eb hsc.extBut D.l2TO) hy λhd h2d hsd=>TW ?_);have hTOd:fM hd TO x b:=hsd.extBut _ _ D.TOi2 hTOc;refine Db (fA hTOd rfl ?_); refine Db (iZ hTOd λhe hTOe hse=>?_)
 replace hTOe:fM he TO x y:=hTOe;refine Db (gX (TW (TW ?_))); refine Db (fA hTOe rfl ?_); refine Db (wpAny_newTuple ?_)
 have hsz:he.objs.size=s.heap.objs.size:=by rw [hse.1,hsd.1,hsc.1,hsb.1,hsa.1]
 have hze:gZ he z TI TO .ellipsis:=hse.extBut _ _ D.TOz.symm (hsd.extBut _ _ D.i2z.symm (hsc.extBut _ _ D.TOz.symm (hsb.extBut _ _ D.i1z.symm hza)));have hke:∀c o,c≠z->c≠TO->c≠i1->c≠i2->s.heap.get? c=some o->he.get? c=some o:=λc o c1 c2 c3 c4 e=>hse.extBut _ _ c2 (hsd.extBut _ _ c4 (hsc.extBut _ _ c2 (hsb.extBut _ _ c3 (hsa.extBut _ _ c1 e))));have h1e:ItAt zX he i1 l1 (k+1):=((h1b.eb hsc.extBut D.TOi1.symm).eb hsd.extBut D.i12).eb hse.extBut D.TOi1.symm;have h2e:ItAt zW he i2 l2 (k+1):=h2d.eb hse.extBut D.TOi2.symm;have hzlt:z<he.objs.size:=ZB hze;show wpAny (model prog w) _ (hU (.ref z) (.ref he.objs.size) >>= _) _ _ _; refine Db ?_; unfold hU
 have hzf:gZ (he.push { cls:=.type "tuple",data:=.seq #[x,y] }) z TI TO .ellipsis:=No _ hze;refine Db (f6 hzf (by simp) λhg hzg hsg=>?_);replace hzg:gZ hg z TI TO (rawInt he.objs.size):=hzg;refine f6 hzg (by simp) λhi hzi hsi=>?_;replace hzi:gZ hi z TI TO (rawInt he.objs.size):=hzi;have up:∀c o,c≠z->he.get? c=some o->hi.get? c=some o:=λc o c1 e=>hsi.extBut _ _ c1 (hsg.extBut _ _ c1 (No _ e));have hTi:fM hi he.objs.size x y:=hsi.extBut _ _ (g9 hzlt) (hsg.extBut _ _ (g9 hzlt) (c7 _ rfl));have hzs:hi.objs.size=he.objs.size+1:=by rw [hsi.1,hsg.1,fh]
 rw [hsz] at hzi hTi hzs;refine TW ⟨_,rfl,?_⟩;show Q (.ref he.objs.size) _; rw [hsz]
 exact hQ hi hzi (up _ _ D.TOz hTOe) (h1e.mv λo e=>up _ o D.i1z e) (h2e.mv λo e=>up _ o D.i2z e) hTi hzs λc o c1 c2 c3 c4 e=>up c o c1 (hke c o c1 c2 c3 c4 e)
theorem V6{zX zW:Bool}{z TI TO i1 i2 l1 l2:Ch}{k:Nat}{xs ys:Array Ev}{a b:Ev}{Q:Fin->Op->Prop}(hh:A.handled=none)(D:Zk z TI TO i1 i2 l1 l2)
  (hz:gZ s.heap z TI TO .none) (hTI:fM s.heap TI (.ref i1) (.ref i2)) (hTO:fM s.heap TO a b) (h1:ItAt zX s.heap i1 l1 k) (h2:ItAt zW s.heap i2 l2 k) (hl1:SqAt zX s.heap l1 xs) (hl2:SqAt zW s.heap l2 ys) (hend:xs[k]?=none\/ys[k]?=none)
  (hE:∀h' e,(∀c o,c≠z->c≠TO->c≠i1->c≠i2->s.heap.get? c=some o->h'.get? c=some o)->(∃o,h'.get? e=some o/\o.cls=.type "StopIteration")->E (.ref e) { s with heap:=h' }) :
  wpAny (model prog w) A (fq.«zip.__next__» ⟨[.ref z],[]⟩) Q E s:=by
 show wpAny (model prog w) A (field (.ref z) 2 >>= _) _ _ _; refine Db (fB hz rfl (x:=.bool false) rfl ?_)
 show wpAny (model prog w) A (field (.ref z) 3 >>= _) _ _ _; refine Db (fB hz rfl (x:=.ref TI) rfl ?_); refine Db (fA hTI rfl ?_)
 show wpAny (model prog w) A (fR (.ref z) >>= _) _ _ _; refine Db ?_; unfold fR
 refine Db (fB hz rfl (x:=.none) rfl (TW ?_)); simp only [if_true]; refine Db (gR ?_); refine Db (fB hz rfl (x:=.ref TO) rfl ?_)
 refine Db (f6 hz (by simp) λha hza hsa=>?_);replace hza:gZ ha z TI TO .ellipsis:=hza;refine Db ?_; simp only [List.zipIdx_cons,List.zipIdx_nil,gy,List.forIn_nil]
 refine Db (Db (jG ?_)); show wpAny (model prog w) _ (eV (.ref i1) >>= _) _ _ _
 cases hx:xs[k]? with
 | none =>
  refine Db (Hj hh (h1.eb hsa.extBut D.i1z) (hl1.eb hsa.extBut D.l1z) hx λhb e hsb he=>?_);obtain⟨oe,hoe,hce⟩:=he;have hzb:gZ hb z TI TO .ellipsis:=hsb _ _ D.i1z.symm hza;have hez:e≠z:=λx=>by subst x; rw [hzb] at hoe; cases hoe; simp at hce
  exact f6 hzb (by simp) λhc _ hsc=>hE hc e (λc o c1 _ c3 _ x=>hsc.extBut _ _ c1 (hsb _ _ c3 (hsa.extBut _ _ c1 x))) ⟨oe,hsc.extBut _ _ hez hoe,hce⟩
 | some x =>
  have hy:ys[k]?=none:=by
   rcases hend with h | h
   ·rw [hx] at h; cases h
   ·exact h
  refine Db (GG (h1.eb hsa.extBut D.i1z) (hl1.eb hsa.extBut D.l1z) hx λhb h1b hsb=>TW ?_);have hTOb:fM hb TO a b:=hsb.extBut _ _ D.TOi1 (hsa.extBut _ _ D.TOz hTO);refine Db (fA hTOb rfl ?_); refine Db (iZ hTOb λhc hTOc hsc=>?_)
  refine Db (gX (TW ?_)); refine Db (Db (jG ?_)); show wpAny (model prog w) _ (eV (.ref i2) >>= _) _ _ _
  refine Db (Hj hh (((h2.eb hsa.extBut D.i2z).eb hsb.extBut D.i12.symm).eb hsc.extBut D.TOi2.symm) (((hl2.eb hsa.extBut D.l2z).eb hsb.extBut D.l2i1).eb hsc.extBut D.l2TO) hy λhd e hsd he=>?_);obtain⟨oe,hoe,hce⟩:=he;have hzd:gZ hd z TI TO .ellipsis:=hsd _ _ D.i2z.symm (hsc.extBut _ _ D.TOz.symm (hsb.extBut _ _ D.i1z.symm hza));have hez:e≠z:=λx=>by subst x; rw [hzd] at hoe; cases hoe; simp at hce
  exact f6 hzd (by simp) λhf _ hsf=>hE hf e (λc o c1 c2 c3 c4 x=>hsf.extBut _ _ c1 (hsd _ _ c4 (hsc.extBut _ _ c2 (hsb.extBut _ _ c3 (hsa.extBut _ _ c1 x))))) ⟨oe,hsf.extBut _ _ hez hoe,hce⟩
end
def Y0(κ:Bool):String:=match κ with
 | true => "list_iterator"
 | false => "tuple_iterator"
def JA(κ:Bool)(l:Ch):Obj:={ cls:=.type (Y0 κ),data:=.fields #[.ref l,.int 0 0] }
abbrev zA(zX:Bool)(h:dL)(l1:Ch):dL:=h.push (JA zX l1)
abbrev zB(zX zW:Bool)(h:dL)(l1 l2:Ch):dL:=(zA zX h l1).push (JA zW l2)
abbrev zC(zX zW:Bool)(h:dL)(l1 l2:Ch):dL:=(zB zX zW h l1 l2).push { cls:=.type "tuple",data:=.seq #[.ref h.objs.size,.ref (zA zX h l1).objs.size] }
abbrev zD(zX zW:Bool)(h:dL)(l1 l2:Ch):dL:=(zC zX zW h l1 l2).push { cls:=.type "tuple",data:=.seq #[.none,.none] }
abbrev zE(zX zW:Bool)(h:dL)(l1 l2:Ch):dL:=(zD zX zW h l1 l2).push { cls:=.type "zip",data:=.fields #[.none,.bool false,.bool false,.ref (zB zX zW h l1 l2).objs.size,.ref (zC zX zW h l1 l2).objs.size] }
theorem WZ(zX zW:Bool)(l1 l2:Ch)(xs ys:Array Ev):Meets (fq.«zip.__new__» ⟨[.type "zip",.ref l1,.ref l2],[]⟩)
  (λ_ R s=>SqAt zX s.heap l1 xs/\SqAt zW s.heap l2 ys/\R (.ok (.ret (.ref (zD zX zW s.heap l1 l2).objs.size))) { s with heap:=zE zX zW s.heap l1 l2 }) :=
 .of_wp λprog w A R s h=>by
  obtain⟨hp,g,d,tk,os⟩:=s; obtain⟨hl1,hl2,h⟩:=h
  have hsub:=sub_zip;have hL2:SqAt zW (zA zX hp l1) l2 ys:=hl2.mv λo e=>No _ e;cases zX with
  | true =>
   have g1:jw (gY ⟨hp,g,d,tk,os⟩) l1 xs:=hl1;cases zW with
   | true =>
    have g2:jw (gY ⟨hp.push { cls:=.type "list_iterator",data:=.fields #[.ref l1,.int 0 0] },g,d,tk,os⟩) l2 ys:=hL2
    wp_walk using e9 g1,e9 g2
    exact⟨_,rfl,h⟩
   | false =>
    have g2:je (gY ⟨hp.push { cls:=.type "list_iterator",data:=.fields #[.ref l1,.int 0 0] },g,d,tk,os⟩) l2 ys:=hL2
    wp_walk using e9 g1,fK g2
    exact⟨_,rfl,h⟩
  | false =>
   have g1:je (gY ⟨hp,g,d,tk,os⟩) l1 xs:=hl1;cases zW with
   | true =>
    have g2:jw (gY ⟨hp.push { cls:=.type "tuple_iterator",data:=.fields #[.ref l1,.int 0 0] },g,d,tk,os⟩) l2 ys:=hL2
    wp_walk using fK g1,e9 g2
    exact⟨_,rfl,h⟩
   | false =>
    have g2:je (gY ⟨hp.push { cls:=.type "tuple_iterator",data:=.fields #[.ref l1,.int 0 0] },g,d,tk,os⟩) l2 ys:=hL2
    wp_walk using fK g1,fK g2
    exact⟨_,rfl,h⟩
theorem K9(κ:Bool)(h:dL)(l:Ch):ItAt κ (h.push (JA κ l)) h.objs.size l 0:=by
 cases κ with
 | true=>exact⟨_,c7 _ rfl,rfl,rfl⟩
 | false=>exact⟨_,c7 _ rfl,rfl,rfl⟩
section
variable {prog:Program}{w:World}{A:Around}{E:Value->Shared->Prop}{s:Shared}
theorem OC{zX zW:Bool}{l1 l2:Ch}{xs ys:Array Ev}{Q:Ev->Op->Prop}(hl1:SqAt zX s.heap l1 xs)(hl2:SqAt zW s.heap l2 ys)
  (h:∀h',gZ h' (s.heap.objs.size+4) (s.heap.objs.size+2) (s.heap.objs.size+3) .none->fM h' (s.heap.objs.size+2) (.ref s.heap.objs.size) (.ref (s.heap.objs.size+1))->fM h' (s.heap.objs.size+3) .none .none ->
   ItAt zX h' s.heap.objs.size l1 0->ItAt zW h' (s.heap.objs.size+1) l2 0->(∀c o,s.heap.get? c=some o->h'.get? c=some o)->Q (.ref (s.heap.objs.size+4)) { s with heap:=h' }) :
  wpAny (model prog w) A (call (.type "zip") [.ref l1,.ref l2]) Q E s:=by
 refine callType_new F.called_zip (by decide) (F.typeCall_zip_2 _ _) (F.newCall_zip_2 _ _) (λobj=>F.args_object_init_3 obj _ _) F.entry_zip_new (WZ zX zW l1 l2 xs ys) ⟨hl1,hl2,?_⟩;have z1:(zA zX s.heap l1).objs.size=s.heap.objs.size+1:=fh ..;have z2:(zB zX zW s.heap l1 l2).objs.size=s.heap.objs.size+2:=by rw [fh,z1]
 have z3:(zC zX zW s.heap l1 l2).objs.size=s.heap.objs.size+3:=by rw [fh,z2]
 have z4:(zD zX zW s.heap l1 l2).objs.size=s.heap.objs.size+4:=by rw [fh,z3]
 have g5:(zE zX zW s.heap l1 l2).get? (zD zX zW s.heap l1 l2).objs.size=some _:=c7 _ rfl;have g4:(zE zX zW s.heap l1 l2).get? (zC zX zW s.heap l1 l2).objs.size=some _:=No _ (c7 _ rfl);have g3:(zE zX zW s.heap l1 l2).get? (zB zX zW s.heap l1 l2).objs.size=some _:=No _ (No _ (c7 _ rfl));have i2:ItAt zW (zE zX zW s.heap l1 l2) (zA zX s.heap l1).objs.size l2 0:=(K9 zW (zA zX s.heap l1) l2).mv λo e=>No _ (No _ (No _ e));have i1:ItAt zX (zE zX zW s.heap l1 l2) s.heap.objs.size l1 0:=(K9 zX s.heap l1).mv λo e=>No _ (No _ (No _ (No _ e)));rw [z4] at g5;rw [z3] at g4;rw [z2] at g3;rw [z1] at i2;have fin:=h (zE zX zW s.heap l1 l2) (by rw [gZ,g5,z2,z3]) (by rw [fM,g3,z1]) g4 i1 i2 (λc o e=>No _ (No _ (No _ (No _ (No _ e)))));refine⟨⟨_,by rw [z4]; exact g5,rfl⟩,?_⟩;rw [z4];exact fin
theorem MB{zX zW:Bool}{z TI TO i1 i2 l1 l2:Ch}{k:Nat}{xs ys:Array Ev}{x y a b:Ev}{Q:Option Ev->Op->Prop}(D:Zk z TI TO i1 i2 l1 l2)
  (hz:gZ s.heap z TI TO .none) (hTI:fM s.heap TI (.ref i1) (.ref i2)) (hTO:fM s.heap TO a b) (h1:ItAt zX s.heap i1 l1 k) (h2:ItAt zW s.heap i2 l2 k) (hl1:SqAt zX s.heap l1 xs) (hl2:SqAt zW s.heap l2 ys) (hx:xs[k]?=some x) (hy:ys[k]?=some y)
  (hQ:∀h',gZ h' z TI TO (rawInt s.heap.objs.size)->fM h' TO x y->ItAt zX h' i1 l1 (k+1)->ItAt zW h' i2 l2 (k+1)->fM h' s.heap.objs.size x y->h'.objs.size=s.heap.objs.size+1->(∀c o,c≠z->c≠TO->c≠i1->c≠i2->s.heap.get? c=some o->h'.get? c=some o)->Q (some (.ref s.heap.objs.size)) { s with heap:=h' }) :
  wpAny (model prog w) A (pyNext (.ref z)) Q E s:=by
 have hT:s.TypeIs (.ref z) "zip":=⟨_,hz,rfl⟩;unfold pyNext
 exact Db (wpAny_attempt (fS (name:=eE "__next__") hT ia (gL ia hT F.entry_zip_next
  (Tz D hz hTI hTO h1 h2 hl1 hl2 hx hy λh' a1 a2 a3 a4 a5 a6 a7=>TW (hQ h' a1 a2 a3 a4 a5 a6 a7)) (F.args_zip_next_1 _))))
theorem Nm{zX zW:Bool}{z TI TO i1 i2 l1 l2:Ch}{k:Nat}{xs ys:Array Ev}{a b:Ev}{Q:Option Ev->Op->Prop}(hh:A.handled=none)(D:Zk z TI TO i1 i2 l1 l2)
  (hz:gZ s.heap z TI TO .none) (hTI:fM s.heap TI (.ref i1) (.ref i2)) (hTO:fM s.heap TO a b) (h1:ItAt zX s.heap i1 l1 k) (h2:ItAt zW s.heap i2 l2 k) (hl1:SqAt zX s.heap l1 xs) (hl2:SqAt zW s.heap l2 ys) (hend:xs[k]?=none\/ys[k]?=none)
  (hQ:∀h',(∀c o,c≠z->c≠TO->c≠i1->c≠i2->s.heap.get? c=some o->h'.get? c=some o)->Q none { s with heap:=h' }):wpAny (model prog w) A (pyNext (.ref z)) Q E s:=by
 have hT:s.TypeIs (.ref z) "zip":=⟨_,hz,rfl⟩;unfold pyNext;refine Db (wpAny_attempt (fS (name:=eE "__next__") hT ia (gL ia hT F.entry_zip_next (V6 hh D hz hTI hTO h1 h2 hl1 hl2 hend λh' e hk he=>?_) (F.args_zip_next_1 _))));obtain⟨o,ho,hc⟩:=he;exact Db (wpAny_isInstance (T := "StopIteration") (b:=true) ⟨o,ho,hc⟩ isSubtype_stop (TW (hQ _ hk)))
end
section
variable {X:Cx}{zG:List (Addr×Obj)}{Z:L2.St}{H:Hp}{s:Shared}{h':Heap}
theorem Inv.turnedL{t':Nat}{ch:List Ch}(I:Inv X zG Z H s)(hf:∀b∈ch,II X zG H b)(k:∀b o,b∉ch->s.heap.get? b=some o->h'.get? b=some o):Inv X zG Z H { s with heap:=h',toks:=t' }:=by
 have nit:∀b u,H b=some u->b∉ch:=λb u e z=>by rw [(hf b z).1] at e; cases e
 refine I.step (g':=s.gens) (d':=s.drawn) (ch:=ch) (λb hb=>?_) (λb o _ _ hc e _=>k b o hc e) (λb o _ _ hc e _=>⟨o.slots,k b o hc e⟩) (λ_ _ _ _ n=>n) (λb o hc e=>⟨o,k b o hc e⟩) (λ_ _ e=>e) (λ_ _ _ e=>e) (λb ps e=>⟨#[],by rw [e]; simp⟩) (λm hm=>?_) (λb u e=>?_) I.bare
 ·obtain⟨f0,f1,f2,f3,f4,f5⟩:=hf b hb
  exact⟨f3,f1,f4,f5⟩
 ·obtain⟨o,es,ep,ho,r⟩:=hm
  exact⟨o,es,ep,k _ o (λz=>(hf _ z).2.1 rfl) ho,r⟩
 ·exact(I.hok b u e).stay (λc v hc q=>k c v (hc.elim (λz=>by rw [z]; exact nit b u e) λz=>nit c _ z) q) (λ_ q=>q) λ_ _ q=>q
theorem Inv.turnLaid{t':Nat}{ch:List Ch}{a:Ch}{o:HO}(I:Inv X zG Z H s)(hf:∀b∈ch,II X zG H b)(k:∀b o,b∉ch->s.heap.get? b=some o->h'.get? b=some o)(ha:s.heap.objs.size<=a)(new:ObjOk X.prog X.w (BK H a o) h' a o) :
  Inv X zG Z (BK H a o) { s with heap:=h',toks:=t' }:=by
 have nit:∀b u,H b=some u->b∉ch:=λb u e z=>by rw [(hf b z).1] at e; cases e
 have hn:H a=none:=I.hok.fresh ha;have up:∀b u,H b=some u->BK H a o b=some u:=λb u e=>by rw [Aa (Au e hn)]; exact e
 refine I.step (g':=s.gens) (d':=s.drawn) (ch:=ch) (λb hb=>?_) (λb o _ _ hc e _=>k b o hc e) (λb o _ _ hc e _=>⟨o.slots,k b o hc e⟩) (λb u _ e n=>?_) (λb o hc e=>⟨o,k b o hc e⟩) (λb xs e=>up _ _ e) (λb o u e=>up _ _ e) (λb ps e=>⟨#[],by rw [up _ _ e]; simp⟩) (λm hm=>?_) (λb u e=>?_) I.bare
 ·obtain⟨f0,f1,f2,f3,f4,f5⟩:=hf b hb
  exact⟨f3,f1,f4,f5⟩
 ·rw [Aa (dJ (dY (ZB e) ha))]; exact n
 ·obtain⟨o,es,ep,ho,r⟩:=hm
  exact⟨o,es,ep,k _ o (λz=>(hf _ z).2.1 rfl) ho,r⟩
 ·by_cases hb:b=a
  ·subst hb; rw [Ap] at e; cases e; exact new
  ·rw [Aa hb] at e
   exact(I.hok b u e).stay (λc v hc q=>k c v (hc.elim (λz=>by rw [z]; exact nit b u e) λz=>nit c _ z) q) (λc q=>up _ _ q) λc xs q=>up _ _ q
end
def SqK(κ:Bool)(K:Frag)(H:Hp)(a:Ch)(xs:List V):Prop:=match κ with
 | true=>SqL K H a xs
 | false=>SqT K H a xs
theorem SqK.at{κ:Bool}{X:Cx}{zG:List (Ch×Obj)}{Z:L2.St}{H:Hp}{s:Op}{a:Ch}{xs:List V}(I:Inv X zG Z H s)(h:SqK κ X.K H a xs):∃its:List Ev,Vals xs its/\SqAt κ s.heap a its.toArray:=by
 cases κ with
 | true=>obtain⟨its,r,pl,_⟩:=I.list h; exact⟨its,r,pl.isList⟩
 | false=>obtain⟨its,r,p,_⟩:=I.tuple h; exact⟨its,r,p⟩
def Zl (K : Frag) (zX zW : Bool) (a b : Ch) (xs ys : List V) : It :=
  ⟨λi H => SqK zX K H a xs ∧ SqK zW K H b ys ∧ i < xs.length ∧ i < ys.length, λi H x H' => ∃ T p q, x = .ref T ∧ H T = none ∧ H' = BK H T (.tup [p, q]) ∧ xs[i]? = some p ∧ ys[i]? = some q,
   λi H => SqK zX K H a xs ∧ SqK zW K H b ys ∧ (xs.length ≤ i ∨ ys.length ≤ i)⟩
structure av (zX zW:Bool) (z TI TO i1 i2 a b:Ch) (k:Nat) (h:dL):Prop where
 z:gZ h z TI TO .none
 ti:fM h TI (.ref i1) (.ref i2)
 to:∃a b,fM h TO a b
 i1:ItAt zX h i1 a k
 i2:ItAt zW h i2 b k
theorem UD{P:dZ}{w:dh}{K:Frag}{es:List dO}{j:Nat}{pos:Pos}(zX zW:Bool)(z TI TO i1 i2 a b:Ch)(xs ys:List V)(D:Zk z TI TO i1 i2 a b)(hTI:TI∉[z,TO,i1,i2]) :
  Turn P w K (.Tuple es j pos) (Zl K zX zW a b xs ys) [z,TI,TO,i1,i2] z (av zX zW z TI TO i1 i2 a b) where
 mem:=by simp
 obj:=λi h st c hc=>by
  simp only [T0,dB,or_false] at hc
  rcases hc with rfl | rfl | rfl | rfl | rfl
  ·exact⟨_,st.z,λv q=>by cases q⟩
  ·exact⟨_,st.ti,λv q=>by cases q⟩
  ·obtain⟨a,b,e⟩:=st.to
   exact⟨_,e,λv q=>by cases q⟩
  ·exact st.i1.lies
  ·exact st.i2.lies
 keep:=λi h h' st k=>by
  obtain⟨p,q,e⟩:=st.to;exact⟨k z (by simp) _ st.z,k TI (by simp) _ st.ti,⟨p,q,k TO (by simp) _ e⟩,st.i1.mv λo e=>k i1 (by simp) o e,st.i2.mv λo e=>k i2 (by simp) o e⟩
 item:=by
  intro X hP hw hK hc i zG s Z H E I hf st hg;subst hP hw hK;obtain⟨ha,hb,hi,hj⟩:=hg;obtain⟨us,r1,q1⟩:=ha.at I;obtain⟨ws,r2,q2⟩:=hb.at I;obtain⟨u,hu,ru⟩:=r1.get (FM hi);obtain⟨v,hv,rv⟩:=r2.get (FM hj);obtain⟨p,q,e⟩:=st.to;refine MB D st.z st.ti e st.i1 st.i2 q1 q2 (x:=u) (y:=v) (by simpa using hu) (by simpa using hv) λh' a1 a2 a3 a4 a5 a6 a7=>⟨_,rfl,?_⟩;refine wpAny_letOwnedTupleGo_zip a1 λh2 b1 b2=>?_;have hT:H s.heap.objs.size=none:=I.hok.fresh (Sc _)
  have kk:∀c o,c∉[z,TO,i1,i2]->s.heap.get? c=some o->h2.get? c=some o:=λc o hc e=>by
   simp only [T0,dB,or_false,not_or] at hc;exact b2.extBut _ _ hc.1 (a7 c o hc.1 hc.2.1 hc.2.2.1 hc.2.2.2 e)
  have I2:Inv X zG Z (BK H s.heap.objs.size (.tup [xs[i],ys[i]])) { s with heap:=h2 }:=by
   refine I.turnLaid (t':=s.toks) (ch:=[z,TO,i1,i2]) (λc hc=>hf c ?_) kk (Sc _) ?_
   ·simp only [T0,dB,or_false] at hc ⊢
    rcases hc with rfl | rfl | rfl | rfl <;> simp
   ·have nT:s.heap.objs.size≠z:=g9 (ZB st.z)
    exact⟨by show 2<=sizeLine; decide,[u,v],.cons ru (.cons rv .nil),⟨_,b2.extBut _ _ nT a5,rfl,_,rfl,rfl,rfl⟩⟩
  have ti2:fM h2 TI (.ref i1) (.ref i2):=kk _ _ hTI st.ti;refine⟨.ref s.heap.objs.size,_,I2,rfl,⟨_,_,_,rfl,hT,rfl,FM hi,FM hj⟩,⟨b1,ti2,⟨_,_,b2.extBut _ _ D.TOz a2⟩,a3.eb b2.extBut D.i1z,a4.eb b2.extBut D.i2z⟩,λc hc=>?_⟩;have hcn:H c=none:=(hf c hc).1
  have hlt:c≠s.heap.objs.size:=λz=>by
   obtain⟨o,ho,_⟩:∃o,s.heap.get? c=some o/\True:=by
    simp only [T0,dB,or_false] at hc
    rcases hc with rfl | rfl | rfl | rfl | rfl
    ·exact⟨_,st.z,trivial⟩
    ·exact⟨_,st.ti,trivial⟩
    ·exact⟨_,e,trivial⟩
    ·obtain⟨o,q,_⟩:=st.i1.lies; exact⟨o,q,trivial⟩
    ·obtain⟨o,q,_⟩:=st.i2.lies; exact⟨o,q,trivial⟩
   rw [z] at ho;exact d9 _ (ZB ho)
  rw [Aa hlt]; exact hcn
 done:=by
  intro X hP hw hK hc i zG s Z H E I hf st hg;subst hP hw hK;obtain⟨ha,hb,hi⟩:=hg;obtain⟨us,r1,q1⟩:=ha.at I;obtain⟨ws,r2,q2⟩:=hb.at I;obtain⟨p,q,e⟩:=st.to;have l1:=r1.length;have l2:=r2.length;refine Nm (I.ok.hd hc) D st.z st.ti e st.i1 st.i2 q1 q2 (hi.imp (λhi=>by simp; omega) λhi=>by simp; omega) λh' kk=>⟨rfl,?_⟩;refine I.turnedL (t':=s.toks) (ch:=[z,TO,i1,i2]) (λc hc=>hf c ?_) λc o hc e=>?_
  ·simp only [T0,dB,or_false] at hc ⊢
   rcases hc with rfl | rfl | rfl | rfl <;> simp
  ·simp only [T0,dB,or_false,not_or] at hc
   exact kk c o hc.1 hc.2.1 hc.2.2.1 hc.2.2.2 e
 self:=λA i s Q E st h=>wpAny_pyIter_zip st.z h
section
variable {X:Cx}
theorem X1(n a b:Nat)(h1:a<n)(h2:b<n):Zk (n+4) (n+2) (n+3) n (n+1) a b:=by
 constructor <;> (show (_:Nat)≠(_:Nat); omega)
theorem X0(n:Nat):(n+2)∉[n+4,n+3,n,n+1]:=by
 simp only [T0,dB,or_false,not_or];omega
theorem X2(n c:Nat)(h:c∈[n+4,n+2,n+3,n,n+1]):n<=c:=by
 simp only [T0,dB,or_false] at h;omega
def bq(K:Frag)(ta:TA):TI:=λZ H R=>ta Z H λvs H1=>∃zX zW a b xs ys,vs=[.ref a,.ref b]/\SqK zX K H1 a xs/\SqK zW K H1 b ys/\R (Zl K zX zW a b xs ys) H1
theorem Um{e1 e2:dO}{es:List dO}{j:Nat}{tpos:Pos}{ta:TA}{p pos:Pos}(hg:Gl X "zip")(hm:X.mg "zip"=none)(ha:PA X [e1,e2] ta)(hs:starEach [e1,e2] X.env=[(false,eval e1 X.env),(false,eval e2 X.env)]:=by rfl)(hs2:starEach [e2] X.env=[(false,eval e2 X.env)]:=by rfl) :
  PI X (.Tuple es j tpos) (.Call (.Name "zip" p) [e1,e2] [] pos) (bq X.K ta):=by
 intro zG s Z H R I h;refine Call_ (EV I hg hm boot_zip (eg (thn (ha pos zG s Z H _ I h) λus s1 ⟨vs,H1,I1,r1,q1⟩=>?_) (by rw [hs,hs2]) (by rw [hs2]; rfl)));obtain⟨zX,zW,a,b,xs,ys,e,h1,h2,q⟩:=q1;subst e;obtain⟨u,v,rfl,ru,rv⟩:=vals2 r1;cases ru;cases rv;obtain⟨us,r1',q1⟩:=h1.at I1;obtain⟨ws,r2',q2⟩:=h2.at I1;have la:a<s1.heap.objs.size:=by obtain⟨o,e⟩:=q1.lies; exact ZB e
 have lb:b<s1.heap.objs.size:=by obtain⟨o,e⟩:=q2.lies; exact ZB e
 refine OC q1 q2 λh' hz hTI hTO hi1 hi2 hk=>?_;refine wpAny_pyIter_zip hz ?_;have D:=X1 s1.heap.objs.size a b la lb;refine⟨s1.heap.objs.size+4,[s1.heap.objs.size+4,s1.heap.objs.size+2,s1.heap.objs.size+3,s1.heap.objs.size,s1.heap.objs.size+1],_,Zl X.K zX zW a b xs ys,H1,rfl,I1.kept (t':=s1.toks) hk,UD zX zW _ _ _ _ _ a b xs ys D (X0 s1.heap.objs.size),⟨hz,hTI,⟨_,_,hTO⟩,hi1,hi2⟩,λc hc=>?_,q⟩;have hge:s1.heap.objs.size<=c:=X2 s1.heap.objs.size c hc;exact I1.fpOk hge (I1.hok.fresh hge)
end
end L2
namespace Dp
open L2
def Ea(ds es:List D):List D:=f7 (λd e=>.tup [d,e]) ds es
section
variable {K:Frag}
theorem NH{U V' M:Ch->Prop}{H:Hp}{d:D}{v:V}{ds:List D}(h:AtT K V' M H d v)(e:IU d=some ds)(uV:∀a,U a->V' a)(vM:∀a,V' a->M a):∃κ a vs,v=.ref a/\Ats K M H ds vs/\∀M' H',Pres M H M' H'->Ext U H H'->SqK κ K H' a vs:=by
 cases d with
 | lst xs =>
  cases e;obtain⟨a,vs,e1,n1,hq,hs⟩:=h;refine⟨true,a,vs,e1,hs,λM' H' _ ex=>?_⟩
  rcases hq with hq | ⟨o,hq⟩
  ·exact .inl (.inl (ex.keep hq λz=>n1 (uV a z)))
  ·exact .inl (.inr ⟨o,ex.keep hq λz=>n1 (uV a z)⟩)
 | tup xs =>
  cases e;obtain⟨a,vs,e1,hq,hs⟩:=h;exact⟨false,a,vs,e1,hs,λM' H' pr _=>(hq.pres pr).sq⟩
 | _=>cases e
theorem QB{M:Ch->Prop}{H:Hp}{d:D}{v:V}{ds:List D}(h:At K M H d v)(e:IU d=some ds):∃κ a vs,v=.ref a/\Ats K M H ds vs/\∀M' H',Pres M H M' H'->SqK κ K H' a vs:=by
 cases d with
 | lst xs =>
  cases e;obtain⟨a,vs,e1,hq,hs⟩:=h;exact⟨true,a,vs,e1,hs,λM' H' pr=>(hq.pres pr).sq⟩
 | tup xs =>
  cases e;obtain⟨a,vs,e1,hq,hs⟩:=h;exact⟨false,a,vs,e1,hs,λM' H' pr=>(hq.pres pr).sq⟩
 | _=>cases e
theorem KH{M:Ch->Prop}{H:Hp}{zX zW:Bool}{a b:Ch}{vs us:List V}{ds es:List D}(hs:Ats K M H ds vs)(ht:Ats K M H es us){i:Nat}{M':Ch->Prop}{H':Hp}(pr:Pres M H M' H')(h1:SqK zX K H' a vs)(h2:SqK zW K H' b us)(dom:∀a,M' a->∃o,H' a=some o) :
  (∀d,(Ea ds es)[i]?=some d->(Zl K zX zW a b vs us).go i H'/\∀x H2,(Zl K zX zW a b vs us).yld i H' x H2->Grow H' H2/\At K M' H2 d x)/\((Ea ds es).length<=i->(Zl K zX zW a b vs us).stop i H'):=by
 have l1:=hs.length;have l2:=ht.length;refine⟨λd hd=>?_,λhl=>⟨h1,h2,?_⟩⟩
 ·unfold Ea at hd
  rw [gh] at hd;cases q1:ds[i]? with
  | none=>rw [q1] at hd; simp at hd
  | some d1 =>
   cases q2:es[i]? with
   | none=>rw [q1,q2] at hd; simp at hd
   | some d2 =>
    rw [q1,q2] at hd;have hd':D.tup [d1,d2]=d:=c_ hd;have i1:i<ds.length:=(c8.mp q1).1;have i2:i<es.length:=(c8.mp q2).1;refine⟨⟨h1,h2,by omega,by omega⟩,λx H2 y=>?_⟩;obtain⟨T,p,q,rfl,hT,rfl,e1,e2⟩:=y;obtain⟨v1,f1,a1⟩:=(hs.pres pr).get q1;obtain⟨v2,f2,a2⟩:=(ht.pres pr).get q2;rw [e1] at f1;rw [e2] at f2;cases f1;cases f2;subst hd';exact⟨BH hT,Du dom hT ⟨p,[q],rfl,a1,q,[],rfl,a2,rfl⟩⟩
 ·unfold Ea at hl
  rw [gu] at hl;omega
end
section
variable {X:Cx}{e1 e2:Expr}{es:List Expr}{j:Nat}{tpos p pos:Pos}{ws:Ex}
def V7(ws:Ex):Ex:=λn ρ P=>ws n ρ λds n1=>∃d e xs ys,ds=[d,e]/\IU d=some xs/\IU e=some ys/\P (Ea xs ys) n1
theorem W4(hg:Gl X "zip")(hm:X.mg "zip"=none)(ha:V3 X [e1,e2] ws)(hs:starEach [e1,e2] X.env=[(false,eval e1 X.env),(false,eval e2 X.env)]:=by rfl)(hs2:starEach [e2] X.env=[(false,eval e2 X.env)]:=by rfl) :
  Zg X (.Tuple es j tpos) (.Call (.Name "zip" p) [e1,e2] [] pos) (V7 ws):=by
 obtain⟨t,a1,a2⟩:=ha;refine⟨_,Um hg hm a1 hs hs2,λC M H n ρ Z P Rr R w q=>?_⟩;refine a2 C M H n ρ Z _ _ R w λvs H1 ds n1 ee f1 r1 p=>?_;obtain⟨d,e,xs,ys,rfl,hd,he,p⟩:=p;cases r1 with
 | cons r rr =>
  cases rr with
  | cons r' rr =>
   cases rr;have R1:=R.step ee f1;obtain⟨zX,a,us,rfl,h1,s1⟩:=NH (U:=C.U) r hd R.uV R1.vM;obtain⟨zW,b,us',rfl,h2,s2⟩:=NH (U:=C.U) r' he R.uV R1.vM;refine⟨zX,zW,a,b,us,us',rfl,s1 M H1 (Pres.refl _ _) (Ext.refl _ _),s2 M H1 (Pres.refl _ _) (Ext.refl _ _),q _ H1 _ n1 ee f1 (λi M' H' pr ex dom=>KH h1 h2 pr (s1 M' H' pr ex) (s2 M' H' pr ex) dom) p⟩
theorem ZG(hg:Gl X "zip")(hm:X.mg "zip"=none)(ha:Xx X [e1,e2] ws)(hs:starEach [e1,e2] X.env=[(false,eval e1 X.env),(false,eval e2 X.env)]:=by rfl)(hs2:starEach [e2] X.env=[(false,eval e2 X.env)]:=by rfl) :
  DI X (.Tuple es j tpos) (.Call (.Name "zip" p) [e1,e2] [] pos) (V7 ws):=by
 obtain⟨t,a1,a2⟩:=ha;refine⟨_,Um hg hm a1 hs hs2,λC M H n ρ Z P Rr R w q=>?_⟩;refine a2 C M H n ρ Z _ _ R w λvs H1 ds n1 ee f1 r1 p=>?_;obtain⟨d,e,xs,ys,rfl,hd,he,p⟩:=p;obtain⟨v,r,rfl,r1,v',r',rfl,r2,rr⟩:=r1;cases (show r'=[] from rr);obtain⟨zX,a,us,rfl,h1,s1⟩:=QB r1 hd;obtain⟨zW,b,us',rfl,h2,s2⟩:=QB r2 he;exact⟨zX,zW,a,b,us,us',rfl,s1 M H1 (Pres.refl _ _),s2 M H1 (Pres.refl _ _),q _ H1 _ n1 ee f1 (λi M' H' pr dom=>KH h1 h2 pr (s1 M' H' pr) (s2 M' H' pr) dom) p⟩
def bo:D->Option Key
 | .int i=>some (.inl i)
 | .str x=>some (.inr x)
 | _=>none
def HZ:List D->Option (List Key)
 | []=>some []
 | d::ds=>match bo d,HZ ds with
  | some k,some ks=>some (k::ks)
  | _,_=>none
theorem HY{K:Frag}{M:Ch->Prop}{H:Hp}:∀{ds:List D} {vs:List V} {ks:List Key},HZ ds=some ks->Ats K M H ds vs->vs=ks.map kOf
 | [],vs,ks,e,h=>by cases e; exact h
 | d::ds,vs,ks,e,h=>by
  obtain⟨v,r,e1,h1,h2⟩:=h;unfold HZ at e
  split at e
  ·rename_i k ks' hk hks
   cases e;rw [e1,HY hks h2,dA]
   congr 1
   cases d with
   | int i=>cases hk; exact h1
   | str x=>cases hk; exact h1.1
   | _=>cases hk
  ·cases e
def Dw(d e:D)(P:D->Prop):Prop:=match d,e with
 | .int i,.int j=>P (.bl (decide (i<j)))
 | .str i,.str j=>P (.bl (decide (i.cps.toList<j.cps.toList)))
 | .tup xs,.tup ys=>∃ks ls,HZ xs=some ks/\HZ ys=some ls/\CT ks ls=true/\P (.bl (Eg ks ls))
 | _,_=>False
def aA(K:Frag):R2:=λx y H Q=>YM x y H Q\/Z_ K x y H Q
theorem DD{k:Nat}(hr:Room k X.A):OpR X (compareOp .Lt) (aA X.K):=op_ltU.or (Yf hr.units0)
theorem FL:FH X.K .sh (aA X.K) Dw:=λU M H d e x y P Q dom vM hx hy w q=>by
 unfold Dw at w
 split at w
 ·exact .inl (Xr (X:=X) U M H (.int _) (.int _) x y P Q dom vM hx hy w q)
 ·exact .inl (Xr (X:=X) U M H (.str _) (.str _) x y P Q dom vM hx hy w q)
 ·obtain⟨ks,ls,h1,h2,h3,w⟩:=w
  obtain⟨a,vs,rfl,ha,hs⟩:=hx.tup;obtain⟨b,us,rfl,hb,ht⟩:=hy.tup;have e1:=HY h1 hs;have e2:=HY h2 ht;subst e1 e2;exact .inr ⟨a,b,ks,ls,rfl,rfl,ha.sq,hb.sq,h3,q _ H (.bl _) .refl rfl w⟩
 ·exact w.elim
end
end Dp
namespace L2
section
variable {prog:Program}{w:World}{A:Around}{E:Value->Shared->Prop}{s:Shared}
theorem OX{t sl:Ch}{items:Array Ev}{vl vu:Ev}{lo hi:Option Int}{Q:Ev->Op->Prop}(ht:IsTup s.heap t items)(hs:s.heap.IsSliceOf sl vl vu .none)(pl:iW vl lo)(pu:iW vu hi)
  (hw:HT.sIx items.size 0 lo=0/\HT.sIx items.size items.size hi=items.size) (h:Q (.ref t) s):wpAny (model prog w) A (getItem (.ref t) (.ref sl)) Q E s:=by
 obtain⟨os,hos,hcs,hds⟩:=id hs;have hTs:s.TypeIs (.ref sl) "slice":=⟨os,hos,hcs⟩;unfold getItem
 (try with_reducible refine e_ ?_); (first | refine Db (TW ?_) | skip)
 refine Db (wpAny_sequenceKey ht.typeIs (by decide) (Db (fS (name:=eE "__getitem__") ht.typeIs eT (gL eT ht.typeIs entry_tuple_getitem ?_ (args_tuple_getitem _ _)))));show wpAny (model prog w) _ (jE (.ref t) >>= _) _ _ s;refine Db (tupleItemsOf_ ht (Db (gM hTs ?_))); rw [if_pos (by decide)]
 refine Db (HT.sliceApplied_gen hs pl pu ?_);have hyes:(((HT.sIx items.size 0 lo:Nat):Int)==0&&(1:Int)==1&&(HT.sIx items.size items.size hi - HT.sIx items.size 0 lo)==items.size)=true:=by rw [hw.1,hw.2]; simp
 show wpAny (model prog w) _ (if (((HT.sIx items.size 0 lo:Nat):Int)==0&&(1:Int)==1&&(HT.sIx items.size items.size hi - HT.sIx items.size 0 lo)==items.size)=true then _ else _) _ _ s;rw [if_pos hyes];refine Db (m:=jH _) ?_;unfold jH;refine Db (gM ht.typeIs (TW ?_));show wpAny (model prog w) _ (if ((hZ "tuple"==hZ "tuple")=true) then _ else _) _ _ s;rw [if_pos (by decide)]
 first
  | exact Db (gR (Db (TW (TW ⟨_,rfl,TW h⟩))))
  | exact Db (gR (TW ⟨_,rfl,TW h⟩))
  | exact Db (Db (gR (TW (TW ⟨_,rfl,TW h⟩))))
end
section
variable {X:Cx}
def XO(K:Frag):V->Option Int->Option Int->Hp->VK->Prop:=λx lo hi H Q=>∃a xs,x=.ref a/\SqT K H a xs/\(HT.sIx xs.length 0 lo=0/\HT.sIx xs.length xs.length hi=xs.length)/\Q (.ref a) H
theorem WF:SlR X (XO X.K):=by
 intro zG s Z H x v vl vu lo hi sl Q I rx hs pl pu h;obtain⟨a,xs,rfl,hx,hw,q⟩:=h;cases rx;obtain⟨its,r,ht,hz⟩:=I.tuple hx;have hlen:its.toArray.size=xs.length:=by rw [Tk]; exact r.length.symm
 exact⟨"tuple",_,eT.lookup,ht.typeIs,OX ht hs pl pu (by rw [hlen]; exact hw) ⟨.ref a,H,I,rfl,q⟩⟩
end
section
variable {X:Cx}
def UZ(K:Frag):R2:=λx y H Q=>∃a b ys,x=.ref a/\y=.ref b/\SqT K H a []/\SqT K H b ys/\Q (.ref b) H
theorem U2:OpR X (binaryOp .Add) (UZ X.K):=by
 intro zG s Z H x y v u Q I rx ry h;obtain⟨a,b,ys,rfl,rfl,ha,hb,q⟩:=h;cases rx;cases ry;obtain⟨its,r1,p1,_⟩:=I.tuple ha;obtain⟨its2,r2,p2,_⟩:=I.tuple hb;cases r1;obtain⟨⟨cls,dd,data,sl⟩,ho,hc,n,hd⟩:=id p1;obtain⟨⟨cls2,dd2,data2,sl2⟩,ho2,hc2,n2,hd2⟩:=id p2;simp only at hc hd hc2 hd2;subst hc hd hc2 hd2;exact concat_meets ⟨_,ho,rfl⟩ ⟨_,ho2,rfl⟩ jY seq_tuple_add PySem.F.slot_tuple_add PySem.F.entry_tuple_add (PySem.F.args_tuple_add_2 _ _) (tuple_addW0 a b _ its2.toArray n n2 dd dd2 sl sl2 (by simp)) ⟨ho,ho2,⟨.ref b,H,I,rfl,q⟩⟩
def bI(b:Bool):Int:=if b=true then 1 else 0
def bG(g:Int->Int->Int):R2:=λx y H Q=>∃k j,x=.bl k/\y=.int j/\Q (.int (g (bI k) j)) H
def cM(g:Int->Int->Int):R2:=λx y H Q=>∃i k,x=.int i/\y=.bl k/\Q (.int (g i (bI k))) H
theorem op_add_bi:OpR X (binaryOp .Add) (bG λi j=>i+j):=by
 intro zG s Z H x y v u Q I rx ry h;obtain⟨k,j,rfl,rfl,q⟩:=h;cases rx;obtain⟨t,rfl⟩:=ry;exact PySem.IntBool.add_bool_int ⟨.int _,H,I.tok _,⟨_,rfl⟩,q⟩
theorem op_sub_bi:OpR X (binaryOp .Sub) (bG λi j=>i - j):=by
 intro zG s Z H x y v u Q I rx ry h;obtain⟨k,j,rfl,rfl,q⟩:=h;cases rx;obtain⟨t,rfl⟩:=ry;exact PySem.IntBool.sub_bool_int ⟨.int _,H,I.tok _,⟨_,rfl⟩,q⟩
theorem Sv:OpR X (binaryOp .Sub) (cM λi j=>i - j):=by
 intro zG s Z H x y v u Q I rx ry h;obtain⟨i,k,rfl,rfl,q⟩:=h;obtain⟨t,rfl⟩:=rx;cases ry;exact PySem.IntBool.sub_int_bool ⟨.int _,H,I.tok _,⟨_,rfl⟩,q⟩
def YO(neg:Bool):R2:=λx y H Q=>∃a b,x=.bl a/\y=.bl b/\Q (.bl (if neg then !(a==b) else a==b)) H
theorem Yg:OpR X (compareOp .Is) (YO false):=by
 intro zG s Z H x y v u Q I rx ry h;obtain⟨a,b,rfl,rfl,q⟩:=h;cases rx;cases ry;exact is_bool ⟨.bl _,H,I,rfl,q⟩
theorem Sz:OpR X (compareOp .IsNot) (YO true):=by
 intro zG s Z H x y v u Q I rx ry h;obtain⟨a,b,rfl,rfl,q⟩:=h;cases rx;cases ry;exact isnot_bool ⟨.bl _,H,I,rfl,q⟩
end
end L2
namespace Dp
open L2
section
variable {K:Frag}{X:Cx}
def A7(d e:D)(P:D->Prop):Prop:=match d,e with
 | .int i,.int j=>P (.int (i+j))
 | .bl k,.int j=>P (.int (bI k+j))
 | .str i,.str j=>i.length+j.length<=sizeLine/\P (.str (i++j))
 | .tup i,.tup j=>i.length+j.length<=sizeLine/\P (.tup (i++j))
 | .lst i,.lst j=>i.length+j.length<=sizeLine/\P (.lst (i++j))
 | _,_=>False
def Xb(K:Frag):R2:=λx y H Q=>Ub K x y H Q\/(bG λi j=>i+j) x y H Q\/UZ K x y H Q
theorem A9:OpR X (binaryOp .Add) (Xb X.K):=op_addU.or (op_add_bi.or U2)
theorem BR:FH X.K .sh (Xb X.K) A7:=λU M H d e x y P Q dom vM hx hy w q=>by
 unfold A7 at w
 split at w
 ·exact .inl (OK (X:=X) U M H (.int _) (.int _) x y P Q dom vM hx hy w q)
 ·rename_i k j
  exact .inr (.inl ⟨k,j,hx,hy,q _ H (.int _) .refl rfl w⟩)
 ·exact .inl (OK (X:=X) U M H (.str _) (.str _) x y P Q dom vM hx hy w q)
 ·rename_i i j
  cases i with
  | nil =>
   obtain⟨a,vs,rfl,ha,hs⟩:=hx.tup;obtain⟨b,us,rfl,hb,ht⟩:=hy.tup;cases (show vs=[] from hs);exact .inr (.inr ⟨a,b,us,rfl,rfl,ha.sq,hb.sq,q _ H (.tup j) .refl ⟨b,us,rfl,hb,ht⟩ (by have:=w.2; rw [dE] at this; exact this)⟩)
  | cons i0 i=>exact .inl (OK (X:=X) U M H (.tup (i0::i)) (.tup j) x y P Q dom vM hx hy ⟨(by intro z; cases z),w⟩ q)
 ·exact .inl (OK (X:=X) U M H (.lst _) (.lst _) x y P Q dom vM hx hy w q)
 ·exact w.elim
def Hf(d e:D)(P:D->Prop):Prop:=match d,e with
 | .int i,.int j=>P (.int (i - j))
 | .bl k,.int j=>P (.int (bI k - j))
 | .int i,.bl k=>P (.int (i - bI k))
 | _,_=>False
def XN:R2:=λx y H Q=>(I0 λi j=>.int (i - j)) x y H Q\/(bG λi j=>i - j) x y H Q\/(cM λi j=>i - j) x y H Q
theorem E9:OpR X (binaryOp .Sub) XN:=op_sub.or (op_sub_bi.or Sv)
theorem G8:FH K .sh XN Hf:=λU M H d e x y P Q dom vM hx hy w q=>by
 unfold Hf at w
 split at w
 ·exact .inl (Vs (K:=K) (g:=λi j=>i - j) U M H (.int _) (.int _) x y P Q dom vM hx hy w q)
 ·rename_i k j
  exact .inr (.inl ⟨k,j,hx,hy,q _ H (.int _) .refl rfl w⟩)
 ·rename_i i k
  exact .inr (.inr ⟨i,k,hx,hy,q _ H (.int _) .refl rfl w⟩)
 ·exact w.elim
def Wp(neg:Bool)(d e:D)(P:D->Prop):Prop:=match d,e with
 | .bl a,.bl b=>P (.bl (if neg then !(a==b) else a==b))
 | _,_=>False
theorem Xs{neg:Bool}:FH K .sh (YO neg) (Wp neg):=λU M H d e x y P Q dom vM hx hy w q=>by
 unfold Wp at w
 split at w
 ·rename_i a b
  exact⟨a,b,hx,hy,q _ H (.bl _) .refl rfl w⟩
 ·exact w.elim
def Fj(d:D)(lo hi:Option Int)(P:D->Prop):Prop:=match d with
 | .str z=>P (.str (Txt.slice z lo hi))
 | .lst xs=>P (.lst (cutD xs lo hi))
 | .tup xs=>P (.tup (cutD xs lo hi))
 | _=>False
def Z9(K:Frag):V->Option Int->Option Int->Hp->VK->Prop:=λx lo hi H Q=>Z6 x lo hi H Q\/Z8 K x lo hi H Q\/Z7 K x lo hi H Q\/XO K x lo hi H Q
theorem Lu:SlR X (Z9 X.K):=sl_U.or (sl_list.or (sl_tup.or WF))
theorem Rw{M:Ch->Prop}{H:Hp}{ds:List D}{vs:List V}(lo hi:Option Int)(h:Ats K M H ds vs):Ats K M H (cutD ds lo hi) (MF vs lo hi):=by
 unfold cutD MF;rw [h.length];exact(h.drop _).take _
theorem Gd:cQ K .sh (Z9 K) Fj:=by
 intro U M H d x lo hi P Q dom vM hx w q;unfold Fj at w
 split at w
 ·rename_i z
  exact .inl ⟨z,hx.str.1,hx.str.2,q _ H (.str (Txt.slice z lo hi)) .refl ⟨rfl,de (Txt.slice_le z lo hi) hx.str.2⟩ w⟩
 ·rename_i xs
  obtain⟨a,vs,rfl,_,ha,hs⟩:=hx;exact .inr (.inl ⟨a,vs,rfl,.inl ha,λp hp=>q _ _ (.lst _) (BH hp) ((Fh (U:=U) hp (Rw lo hi hs)).shOf dom (by intro z; cases z)) w⟩)
 ·rename_i xs
  obtain⟨a,vs,rfl,ha,hs⟩:=hx.tup
  by_cases hw:HT.sIx vs.length 0 lo=0/\HT.sIx vs.length vs.length hi=vs.length
  ·refine .inr (.inr (.inr ⟨a,vs,rfl,ha.sq,hw,?_⟩))
   have e:cutD xs lo hi=xs:=by
    unfold cutD;rw [← hs.length,hw.1,hw.2,jz,jc,hs.length,jf]
   rw [e] at w;exact q _ H (.tup xs) .refl ⟨a,vs,rfl,ha,hs⟩ w
  ·exact .inr (.inr (.inl ⟨a,vs,rfl,ha.sq,hw,λp hp=>q _ _ (.tup _) (BH hp) (Du dom hp (Rw lo hi hs)) w⟩))
 ·exact w.elim
end
end Dp
namespace Nt
open L2 Dp
def Bl:W2:=λss n P=>∃m:Int,ss=[.fd,.sh (.int m)]/\1<=m/\m<1073741824/\1<=n/\∀r:Int,0<=r->r<m->P (.int r) (n - 1)
def XG:W2:=λss n P=>∃s:Int,ss=[.fd,.sh (.int s)]/\1<=n/\∀r:Int,1<=r->r<=1000000->P (.int r) (n - 1)
def Gc:Ai:=(Ac (BA (AU (AS (G6 false) (AB 1) (wC (D.int 0)))) (Aq (AS A7 (wC (D.int 1)) (AY Bl (AD (BS 0) (AD (AL (wC (D.int 3))) AZ))))) Ar)
 (Ac (BA (AU (AS (G6 false) (AB 1) (wC (D.int 1)))) (Aq (AS A7 (wC (D.int 1)) (AY Bl (AD (BS 0) (AD (AL (wC (D.int 12))) AZ))))) Ar)
 (Aq (V1 (AU (AS (G6 false) (AB 1) (wC (D.int 2)))) (AS Hf (AS (OO Jm λi j=>D.int (i ^ j.toNat)) (wC (D.int 10)) (wC (D.int 6))) (AY Bl (AD (BS 0) (AD (AL (wC (D.int 5))) AZ)))) (AS A7 (wC (D.int 1)) (AY Bl (AD (BS 0) (AD (AL (AS (OO Jm λi j=>D.int (i ^ j.toNat)) (wC (D.int 10)) (wC (D.int 6)))) AZ))))))))
def Gb:Ai:=(Ac (A0 2 (AY Bl (AD (BS 0) (AD (AL (wC (D.int 3))) AZ))))
 (Ac (A0 3 (FO (AG (wC (D.str "a")) (AG (wC (D.str "aa")) (AG (wC (D.str "ab")) (AG (wC (D.str "b")) (AG (wC (D.str "far")) (AG (wC (D.str "in")) (AG (wC (D.str "near")) (AG (wC (D.str "out")) (AG (wC (D.str "place")) (AG (wC (D.str "tie")) (AG (wC (D.str "ties")) (AG (wC (D.str "way")) AW))))))))))))))
 (Ac (BA (KO (AU (AS (G6 false) (AB 2) (wC (D.int 0)))) (AU (AS Dw (AB 1) (wC (D.int 13))))) (Ac (A0 4 (AY Bl (AD (BS 0) (AD (AL (wC (D.int 12))) AZ))))
 (Aq (CF LH (AG (BU [some 3,some 4,none] (Eb (AG (AB 1) AW)) (Ad 2) Bm (AS Ax (AB 0) (AS (OO (λ_ j=>0<j) λi j=>D.int (i % j)) (AS A7 (AB 1) (AB 2)) (wC (D.int 12))))) AW)))) Ar)
 (Ac (A0 5 (wC (D.str "abcdefghijklmnopqrstuvwxyz")))
 (Ac (A0 6 (bR "str" VS (wC (D.str "")) (AG (BU [some 5,some 0,none] (Eb (AG (wC (D.int 8)) AW)) (Ad 2) Bm (AS Ax (AB 0) (AY Bl (AD (BS 1) (AD (AL (wC (D.int 26))) AZ))))) AW)))
 (Ac (BA (KO (AU (AS (G6 false) (AB 2) (wC (D.int 1)))) (AU (AS Dw (AB 1) (wC (D.int 9))))) (Aq (BU [some 6,none] (Eb (AG (AB 1) AW)) (Ad 1) Bm (Py Fj (AB 0) CL (CY (AS A7 (wC (D.int 1)) (AB 1)))))) Ar)
 (Ac (A0 7 (AY Bl (AD (BS 0) (AD (AL (wC (D.int 7))) AZ))))
 (Ac (A0 4 (AY Bl (AD (BS 0) (AD (AL (wC (D.int 26))) AZ))))
 (Ac (DY 8 (FO AW))
 (Ac (Ez (Eb (AG (AB 1) AW)) (Ad 9) (Ac (A0 10 (AS Ax (AB 5) (AS (OO (λ_ j=>0<j) λi j=>D.int (i % j)) (AS A7 (AB 4) (AB 9)) (wC (D.int 26)))))
 (Lr 8 "list" Ei (AG (AS A7 (AS A7 (AS A7 (Py Fj (AB 6) CL (CY (AB 7))) (AB 10)) (Py Fj (AB 6) (CY (AS A7 (AB 7) (wC (D.int 1)))) (CY (wC (D.int 7))))) (AS B7 (wC (D.str "z")) (AS (OO (λ_ j=>0<j) λi j=>D.int (i % j)) (AB 9) (wC (D.int 2))))) AW))))
 (Aq (CF LH (AG (A4 8) AW)))))))))))))
def cs(x:Str):List Nat:=x.cps.toList
theorem Dx(x:Str):(cs x).length=x.length:=eP
theorem LQ{x y:Str}(h:cs x=cs y):x=y:=by
 obtain⟨a⟩:=x;obtain⟨b⟩:=y;unfold cs at h;exact congrArg Str.mk (Array.ext' h)
theorem C3(x y:Str):cs (x++y)=cs x++cs y:=PySem.W.KT.app_list x y
theorem Xo{x:Str}{j:Int}(h0:0<=j)(h1:j<=(x.length:Int)):cs (Txt.slice x none (some j))=(cs x).take j.toNat:=by
 have e:(x.cps.toList.length:Int)=(x.length:Int):=by rw [show x.cps.toList.length=x.length from Dx x]
 have h:=eq_of_beq (slice_closes_to (x:=x) (j:=j) ⟨h0,by omega⟩);rw [h];show ((x.cps.toList.drop (0:Int).toNat).take (j - 0).toNat)=(x.cps.toList).take j.toNat
 rw [Int.sub_zero];rfl
theorem ZN{x:Str}{i j:Int}(h0:0<=i)(h1:i<=j)(h2:j<=(x.length:Int)):cs (Txt.slice x (some i) (some j))=((cs x).drop i.toNat).take (j - i).toNat:=by
 have e:(x.cps.toList.length:Int)=(x.length:Int):=by rw [show x.cps.toList.length=x.length from Dx x]
 have h:=eq_of_beq (slice_closes (x:=x) (i:=i) (j:=j) ⟨h0,h1,by omega⟩);rw [h];rfl
def EA(x:Str):Prop:=1<=x.length/\x.length<=8/\∀c∈cs x,97<=c/\c<=122
def rising(xs:List Str):Prop:=xs.Pairwise λx y=>cs x<cs y
theorem U_(a b:List Nat):ltCps a b=decide (a<b):=ltCps_eq a b
theorem I_:∀(l:List Str) (p:Str),risingS p l=true->(p::l).Pairwise λa b=>¬cs b<cs a
 | [],p,_=>iC _ _
 | x::r,p,h=>by
  have h':(!ltCps x.cps.toList p.cps.toList&&risingS x r)=true:=h;rw [UF,gc,U_,decide_eq_false_iff_not] at h';have ih:=I_ r x h'.2;refine eA.mpr ⟨λy hy=>?_,ih⟩
  rcases T0.mp hy with rfl | hy
  ·exact h'.1
  ·have h2:=(eA.mp ih).1 y hy
   exact List.le_trans (l₁:=cs p) (l₂:=cs x) (l₃:=cs y) h'.1 h2
theorem GU{l:List Str}(h:sortedS l=true)(nd:l.Nodup):rising l:=by
 have hp:l.Pairwise λa b=>¬cs b<cs a:=by
  cases l with
  | nil=>exact jN
  | cons x r=>exact I_ r x h
 refine(hp.and nd).imp λ{a b} ⟨h1,h2⟩=>?_;exact jU λh3=>h2 (LQ (List.le_antisymm (as:=cs a) (bs:=cs b) h1 h3))
theorem Q7:∀(l:List Nat) (i j:Nat),i<j->i<l.length->l.take i<l.take j
 | [],_,_,_,h=>absurd h (Nat.not_lt_zero _)
 | c::r,0,j+1,_,_=>List.nil_lt_cons _ _
 | c::r,i+1,j+1,h1,h2=>by
  rw [List.take_succ_cons,List.take_succ_cons];exact List.cons_lt_cons_iff.mpr (.inr ⟨rfl,Q7 r i j (by omega) (by simpa using h2)⟩)
theorem MT{b:BW}{te:DW}{P:List D->Nat->Prop}(I:Nat->Nat->List D->List Slot->Prop)(hend:∀n acc ρ,I 0 n acc ρ->P acc n)
  (hstep:∀(k:Nat) (d:D) (n:Nat) (acc:List D) (ρ:List Slot) (nx:List D->Nat->List Slot->Prop),I (k+1) n acc ρ->(∀acc' n' zY,I k n' acc' zY->nx acc' n' zY)->b d ρ λzU=>te n zU λy n2=>nx (acc++[y]) n2 zU) :
  ∀(ds acc:List D) (n:Nat) (ρ:List Slot),I ds.length n acc ρ->Cr b Bm te P ds acc n ρ
 | [],acc,n,ρ,h=>hend n acc ρ h
 | d::ds,acc,n,ρ,h=>hstep ds.length d n acc ρ (λacc n ρ=>Cr b Bm te P ds acc n ρ) h λacc' n' zY h'=>MT I hend hstep ds acc' n' zY h'
theorem Br(lo:Int)(n:Nat):(Cd lo n).length=n:=by unfold Cd; rw [Go,fG]
theorem HK{lo:Int}{n:Nat}{d:D}(h:d∈Cd lo n):∃k:Nat,k<n/\d=.int (lo+k):=by
 unfold Cd at h;obtain⟨k,hk,rfl⟩:=Re.mp h;exact⟨k,eM.mp hk,rfl⟩
theorem Sk{ss:List Slot}{n:Nat}{Pd:D->Nat->Prop}(h:XG ss n Pd):Gc { nx:=λn _=>Kd.sh=.sh/\Pd .non n,rt:=Pd } n (ss++XV 0 .no):=by
 obtain⟨s,rfl,hn,p⟩:=h;unfold Gc;refine D6 (λ_=>⟨3,rfl,by decide,by decide,by omega,λr h0 h1=>p _ (by omega) (by omega)⟩) λ_=>?_;refine D6 (λ_=>⟨12,rfl,by decide,by decide,by omega,λr h0 h1=>p _ (by omega) (by omega)⟩) λ_=>?_;refine D6 (λ_=>⟨⟨by decide,by decide,by decide⟩,5,rfl,by decide,by decide,by omega,λr h0 h1=>?_⟩) λ_=>⟨⟨by decide,by decide,by decide⟩,_,rfl,by decide,by decide,by omega,λr h0 h1=>?_⟩
 ·have e:((10:Int) ^ (6:Int).toNat)=1000000:=by decide
  exact p _ (by rw [e]; omega) (by rw [e]; omega)
 ·have e:((10:Int) ^ (6:Int).toNat)=1000000:=by decide
  rw [e] at h1;exact p _ (by omega) (by omega)
end Nt
namespace K11
open L2 Dp Nt
def top(i:Nat):df:=PySem.Challenge.pw_thinnet_k11_greedy_papers_told.main.body.getD i (.Pass ⟨0,0,0,0⟩)
abbrev Gr:df:=top 1
abbrev EN:df:=top 2
abbrev FY:df:=top 3
abbrev IX:df:=top 4
abbrev Gp:df:=top 5
abbrev Gn:df:=top 6
abbrev QF:df:=top 7
abbrev FX:df:=top 8
abbrev IY:df:=top 9
abbrev Gs:df:=top 10
abbrev FV:df:=top 12
abbrev Ct:df:=top 13
abbrev E3:df:=top 14
abbrev E4:df:=top 15
abbrev Ki:df:=top 16
abbrev E5:df:=top 18
abbrev FU:df:=top 19
abbrev IZ:df:=top 20
abbrev EL:df:=top 21
abbrev FW:df:=top 23
abbrev De:df:=top 24
abbrev Gq:df:=top 25
abbrev IW:df:=top 26
abbrev Df:df:=top 27
abbrev FT:df:=top 32
abbrev Dd:df:=top 33
abbrev Dg:df:=top 34
abbrev Ce:df:=top 35
abbrev EM:df:=top 36
abbrev Fa:df:=top 38
abbrev D9:df:=top 39
abbrev E6:df:=top 40
abbrev EQ:df:=top 41
abbrev ER:df:=top 42
abbrev Gu:df:=top 43
abbrev E7:df:=top 44
abbrev DC:df:=top 45
abbrev E8:df:=top 46
abbrev Dh:df:=top 47
abbrev Do:df:=top 48
abbrev ES:df:=top 49
abbrev FZ:df:=top 50
abbrev ET:df:=top 51
abbrev Dn:df:=top 52
abbrev EO:df:=top 53
abbrev Dq:df:=top 54
abbrev Di:df:=top 55
abbrev Cf:df:=top 56
abbrev Dl:df:=top 57
abbrev Dk:df:=top 58
abbrev Kj:df:=top 59
structure Txt (K:Frag) (mg:Str->Option Ev):Prop where
 Gai:mg "abs"=none
 Gah:mg "all"=none
 Gan:mg "bool"=none
 Gap:mg "dict"=none
 Gag:mg "enumerate"=none
 Gaj:mg "int"=none
 Gaa:mg "isinstance"=none
 Gac:mg "len"=none
 Gaq:mg "list"=none
 Gak:mg "min"=none
 Gad:mg "range"=none
 Gaf:mg "repr"=none
 Gal:mg "reversed"=none
 Gae:mg "sorted"=none
 Gam:mg "str"=none
 Gab:mg "tuple"=none
 Gao:mg "zip"=none
section
variable {P:Program}{w:World}{K:Frag}{mg:Str->Option Value}{base:Heap}
theorem kR:Ae ["_law_feed_here","_law_many","_law_digit","_law_at","_law_cell","_law_first"] ["_law_feed_here","_law_many"] (AQ D9):=⟨rfl,rfl,rfl,by decide +kernel,rfl,by decide +kernel,by decide +kernel⟩
theorem WX{f:Ch}{fd:eI}(F:Fun K "_law_next" "_law_next" D9 f fd)(ml:mg "len"=none):A8 P w K mg base B9 1 f fd ["_law_feed_here","_law_many"] (Cq K .sh Bl 2):=by
 refine F.ok kR (λvs H Q E h=>h.1) (λcdv A outer s H vs Q E hr h=>?_);obtain⟨hl,F0,U,V',M,n,ss,Pd,ra,⟨m,rfl,hm1,hm2,hn,hP⟩,q⟩:=h;obtain⟨dom,fU,uV,vM,fd0,pa⟩:=ra;cases pa with
 | cons r1 pa =>
 cases pa with
 | cons r2 pa =>
 cases pa;obtain⟨⟨f0,c⟩,e0,hF⟩:=r1.1;cases e0;obtain⟨v2,e2,h2⟩:=r2.1;cases e2;cases (show _=V.int m from h2);obtain⟨a,r,cells,hf,hcf,hc,hcl,ha0,han⟩:=fd0 (f0,c) hF
 have fin:∀(a' r' z:Int) (H':Hp),(∀b o,H b=some o->b≠f0->H' b=some o)->H' f0=some (.lst [.ref c,.int a',.int r'])->0<=a'->a'<=a+1->0<=z->z<m->Q (.int z) H':=by
  intro a' r' z H' hk hf' h0 h1 hz0 hz1;refine q (.int z) H' (.int z) (n - 1) (λb o e=>?_) (λg hg=>?_) rfl (hP z hz0 hz1)
  ·by_cases hb:b=f0
   ·subst hb
    exact⟨_,hf',λnu=>absurd (fU (b,c) hF) nu,λvs z=>by rw [z,hf] at e; cases e⟩
   ·exact⟨o,hk b o e hb,λ_=>rfl,λ_ _=>rfl⟩
  ·have:g=(f0,c):=c_ (hg.symm.trans hF)
   subst this;exact⟨a',r',cells,hf',hcf,⟨hc.1,hk c _ hc.2 hcf⟩,hcl,h0,by omega⟩
 have hu:(A.deeper (envOfC "_law_next" (AQ D9) s.heap.objs.size f cdv)).units<cLine:=hr.units0;have hsq:∀{H':Hp} {xs:List V},H' f0=some (.lst xs)->SqL K H' f0 xs:=λh=>SqL.of h;have ed:∀z:Int,0<=z % m/\z % m<m:=λz=>⟨Int.emod_nonneg _ (by omega),Int.emod_lt_of_pos _ (by omega)⟩
 refine⟨_,Bb (Ui (HM Xg (FI ix_list (pv 0) BC (λ_ _=>rfl)) BC (Ak _))
   (Bb (Fb (i:=2) kR.nd rfl (Uf rfl) (B4 EU (FI ix_list (pv 0) BC (λ_ _=>rfl)) (pv 1)))
   (Bb (NZ (B4 HR (FI ix_list (pv 0) BC (λ_ _=>rfl)) (pv 1)) (QQ (pv 0) BC set_list))
   (D_ (Gv (pv 2))))) NX)
  (Bb (Fb (i:=3) kR.nd rfl (Uf rfl) (FI ix_list (pv 0) BC (λ_ _=>rfl)))
  (Bb (NZ (B4 op_add (pv 3) BC) (QQ (pv 0) BC set_list))
  (Bb (Fb (i:=4) kR.nd rfl (Uf rfl) (O1 (HM (Sw hu) (FI ix_list (pv 0) BC (λ_ _=>rfl)) (QR Ds) (Ak _))
   (FI ix_list (FI ix_list (pv 0) BC (λ_ _=>rfl)) (B4 EU (pv 3) (HQ A3 rfl ml PySem.boot_len (CA (FI ix_list (pv 0) BC (λ_ _=>rfl)) Ds))) (λ_ _=>rfl)) BC))
  (Bb (Ui (PW.pt (Uc (HM Xh (pv 4) (B4 E_ BC BC) (Ak _)) (RD (HM op_lt (pv 3) (HQ A3 rfl ml PySem.boot_len (CA (FI ix_list (pv 0) BC (λ_ _=>rfl)) Ds)) (Ak _)))))
   (Bb (NZ (B4 HR (pv 4) (pv 1)) (QQ (pv 0) BC set_list))
   (D_ (Gv (B4 EU (pv 4) (pv 1))))) NX)
  (Bb (Fb (i:=5) kR.nd rfl (Uf rfl) (B4 EU (B4 op_mul (B4 op_add (B4 op_add (B4 op_add (B4 EU (pv 4) BC) (B4 op_mul (B4 op_mul BC (pv 3)) (pv 3))) (B4 op_mul BC (pv 3))) BC) BC) BC))
  (D_ (Gv (B4 EU (B4 HR (B4 EU (B4 op_mul (B4 op_add (pv 5) (B4 op_mul BC (pv 3))) BC) BC) BC) (pv 1))))))))),?_⟩
 refine⟨_,rfl,f0,_,2,_,rfl,rfl,hsq hf,rfl,_,_,rfl,rfl,_,rfl,?_⟩;refine D6 (λc1=>?_) (λc1=>?_)
 ·refine⟨_,rfl,f0,_,2,_,rfl,rfl,hsq hf,rfl,_,rfl,_,_,rfl,rfl,(by show (0:Int)<m; omega),?_⟩
  refine⟨_,rfl,f0,_,2,_,rfl,rfl,hsq hf,rfl,_,rfl,_,_,rfl,rfl,⟨(by show (0:Int)<m; omega),hm2⟩,_,rfl,f0,_,2,2,rfl,rfl,hf,rfl,?_⟩;refine⟨_,rfl,?_⟩;exact fin a _ _ _ (λb o e hb=>by rw [Aa hb]; exact e) Ap ha0 (by omega) (ed _).1 (ed _).2
 ·-- at=feed[1]; feed[1]=at+1
  refine⟨_,rfl,f0,_,1,_,rfl,rfl,hsq hf,rfl,?_⟩;refine⟨_,rfl,_,_,rfl,rfl,_,rfl,f0,_,1,1,rfl,rfl,hf,rfl,?_⟩;generalize hH1:BK H f0 (.lst ([V.ref c,V.int a,V.int r].set 1 (V.int (a+1))))=H1;have f1:H1 f0=some (.lst [.ref c,.int (a+1),.int r]):=by rw [← hH1]; exact Ap
  have k1:∀b o,H b=some o->b≠f0->H1 b=some o:=λb o e hb=>by rw [← hH1,Aa hb]; exact e
  have c1':H1 c=some (.lst (cells.map V.int)):=k1 c _ hc.2 hcf
  have rest:∀(z:Int) (H2:Hp),(∀b o,H1 b=some o->H2 b=some o) ->
    (SQ (Zx (Z2 (Q8 (EZ (I0 λi j=>V.bl (decide (j<=i))) (CG 4) (EZ (rI Jm λi j=>V.int (i ^ j.toNat)) (tC (V.int 10)) (tC (V.int 18))))) (Q8 (EZ (I0 λi j=>V.bl (decide (i<j))) (CG 3) (bF (λxs H Q=>∃x n,xs=[x]/\Zd K x H n/\Q (V.int n) H) (Q9 (EZ (YN K) (CG 0) (tC (V.int 0))) WD))))) (SQ (Ob (EZ (rI Tt λi j=>V.int (i / j)) (CG 4) (CG 1)) (aV (CG 0) (tC (V.int 2)) XQ)) (WB (EZ (rI (λ_ j=>0<j) λi j=>V.int (i % j)) (CG 4) (CG 1)))) XJ) (SQ (Ob (EZ (rI (λ_ j=>0<j) λi j=>V.int (i % j)) (EZ (rI CMul λi j=>V.int (i*j)) (EZ (I0 λi j=>V.int (i+j)) (EZ (I0 λi j=>V.int (i+j)) (EZ (I0 λi j=>V.int (i+j)) (EZ (rI (λ_ j=>0<j) λi j=>V.int (i % j)) (CG 4) (tC (V.int 1000003))) (EZ (rI CMul λi j=>V.int (i*j)) (EZ (rI CMul λi j=>V.int (i*j)) (tC (V.int 41)) (CG 3)) (CG 3))) (EZ (rI CMul λi j=>V.int (i*j)) (tC (V.int 17)) (CG 3))) (tC (V.int 3))) (tC (V.int 51749))) (tC (V.int 999917))) (JB 5)) (WB (EZ (rI (λ_ j=>0<j) λi j=>V.int (i % j)) (EZ (rI Tt λi j=>V.int (i / j)) (EZ (rI (λ_ j=>0<j) λi j=>V.int (i % j)) (EZ (rI CMul λi j=>V.int (i*j)) (EZ (I0 λi j=>V.int (i+j)) (CG 5) (EZ (rI CMul λi j=>V.int (i*j)) (tC (V.int 8111)) (CG 3))) (tC (V.int 39373))) (tC (V.int 2097143))) (tC (V.int 3))) (CG 1)))))
     { nx:=λ_ H'=>Q .non H',rt:=Q } [some (.ref f0),some (.int m),none,some (.int a),some (.int z),none] H2:=by
   intro z H2 k2;have f2:=k2 _ _ f1;have c2:=k2 _ _ c1'
   have lastWay:∀H3:Hp,H3=H2->(SQ (Ob (EZ (rI (λ_ j=>0<j) λi j=>V.int (i % j)) (EZ (rI CMul λi j=>V.int (i*j)) (EZ (I0 λi j=>V.int (i+j)) (EZ (I0 λi j=>V.int (i+j)) (EZ (I0 λi j=>V.int (i+j)) (EZ (rI (λ_ j=>0<j) λi j=>V.int (i % j)) (CG 4) (tC (V.int 1000003))) (EZ (rI CMul λi j=>V.int (i*j)) (EZ (rI CMul λi j=>V.int (i*j)) (tC (V.int 41)) (CG 3)) (CG 3))) (EZ (rI CMul λi j=>V.int (i*j)) (tC (V.int 17)) (CG 3))) (tC (V.int 3))) (tC (V.int 51749))) (tC (V.int 999917))) (JB 5)) (WB (EZ (rI (λ_ j=>0<j) λi j=>V.int (i % j)) (EZ (rI Tt λi j=>V.int (i / j)) (EZ (rI (λ_ j=>0<j) λi j=>V.int (i % j)) (EZ (rI CMul λi j=>V.int (i*j)) (EZ (I0 λi j=>V.int (i+j)) (CG 5) (EZ (rI CMul λi j=>V.int (i*j)) (tC (V.int 8111)) (CG 3))) (tC (V.int 39373))) (tC (V.int 2097143))) (tC (V.int 3))) (CG 1))))
     { nx:=λ_ H'=>Q .non H',rt:=Q } [some (.ref f0),some (.int m),none,some (.int a),some (.int z),none] H3:=by
    intro H3 e3;subst e3;have hb:CMul (41*a) a:=.inr ⟨by omega,by omega⟩;refine⟨_,rfl,_,_,rfl,rfl,(by show (0:Int)<1000003; decide),_,rfl,_,_,rfl,rfl,.inl ⟨by decide,by decide⟩,_,rfl,_,_,rfl,rfl,hb,_,_,rfl,rfl,_,rfl,_,_,rfl,rfl,.inl ⟨by decide,by decide⟩,_,_,rfl,rfl,_,_,rfl,rfl,_,_,rfl,rfl,.inr ⟨by decide,by decide⟩,_,_,rfl,rfl,(by show (0:Int)<999917; decide),?_⟩;refine⟨_,rfl,_,rfl,_,_,rfl,rfl,.inl ⟨by decide,by decide⟩,_,_,rfl,rfl,_,_,rfl,rfl,.inr ⟨by decide,by decide⟩,_,_,rfl,rfl,(by show (0:Int)<2097143; decide),_,_,rfl,rfl,⟨by decide,by decide⟩,_,rfl,_,_,rfl,rfl,(by show (0:Int)<m; omega),?_⟩;exact fin (a+1) r _ _ (λb o e hb=>k2 b o (k1 b o e hb)) f2 (by omega) (by omega) (ed _).1 (ed _).2
   refine⟨_,rfl,_,_,rfl,rfl,⟨by decide,by decide,by decide⟩,_,_,rfl,rfl,_,rfl,?_⟩;refine D6 (λc3=>?_) (λc3=>?_)
   ·refine⟨_,rfl,_,rfl,f0,_,0,_,rfl,rfl,hsq f2,rfl,_,_,rfl,.inl ⟨_,SqL.of c2,rfl⟩,_,_,rfl,rfl,_,rfl,?_⟩
    refine D6 (λc4=>?_) (λc4=>lastWay H2 rfl);refine⟨_,rfl,_,rfl,_,_,rfl,rfl,⟨(by show (0:Int)<m; omega),hm2⟩,_,rfl,f0,_,2,2,rfl,rfl,f2,rfl,?_⟩;refine⟨_,rfl,_,rfl,_,_,rfl,rfl,(by show (0:Int)<m; omega),?_⟩;exact fin (a+1) _ _ _ (λb o e hb=>by rw [Aa hb]; exact k2 b o (k1 b o e hb)) Ap (by omega) (by omega) (ed _).1 (ed _).2
   ·refine D6 (λc4=>absurd c4 (by simp)) (λ_=>lastWay H2 rfl)
  refine⟨_,rfl,f0,_,0,_,rfl,rfl,hsq f1,rfl,(by show 0<=sizeLine; decide),λp hp=>?_⟩;have kp:∀b o,H1 b=some o->BK H1 p (.lst []) b=some o:=λb o e=>by rw [Aa (Au e hp)]; exact e
  refine⟨c,p,_,rfl,rfl,SqL.of (kp _ _ c1'),SqL.of Ap,_,rfl,?_⟩;cases cells with
  | nil=>exact BV (rest 0 _ kp)
  | cons z0 cs =>
   refine B3 ?_;have hlen:(((z0::cs).map V.int).length:Int)=(cs.length:Int)+1:=by simp
   have hpos:(0:Int)<(((z0::cs).map V.int).length:Int):=by omega
   obtain⟨z,hz⟩:∃z,atI ((z0::cs).map V.int) (a % (((z0::cs).map V.int).length:Int))=some (.int z):=by
    have h1:=Int.emod_nonneg a (show (((z0::cs).map V.int).length:Int)≠0 by omega);have h2:=Int.emod_lt_of_pos a hpos;generalize a % (((z0::cs).map V.int).length:Int)=j at h1 h2;obtain⟨k,rfl⟩:∃k:Nat,j=(k:Int):=⟨j.toNat,by omega⟩;have hk:k<(z0::cs).length:=by rw [Go] at h2; omega
    refine⟨(z0::cs)[k],AH ?_⟩;rw [dC,FM hk];rfl
   refine⟨_,rfl,f0,_,0,_,rfl,rfl,hsq (kp _ _ f1),rfl,_,rfl,_,rfl,f0,_,0,_,rfl,rfl,hsq (kp _ _ f1),rfl,_,_,rfl,.inl ⟨_,SqL.of (kp _ _ c1'),rfl⟩,_,_,rfl,rfl,hpos,c,_,_,_,rfl,rfl,SqL.of (kp _ _ c1'),hz,?_⟩;exact rest z _ kp
end
end K11
namespace Nt
open L2 Dp
def KA:W2:=λss n P=>∃m:Nat,ss=[.fd,.sh (.int m)]/\1<=m/\m<=26/\11<=n/\∀(xs:List Str) (n':Nat),xs.length=m->(∀x∈xs,EA x)->rising xs->n - 11<=n'->P (.lst (xs.map .str)) n'
def words:List Str:=["a","aa","ab","b","far","in","near","out","place","tie","ties","way"]
def wordAt(i:Nat):Str:=words.getD i "a"
theorem P0:∀i,i<12->EA (wordAt i):=by
 have h:∀i∈dW 12,1<=(wordAt i).length/\(wordAt i).length<=8/\∀c∈cs (wordAt i),97<=c/\c<=122:=by decide +kernel
 exact λi hi=>h i (eM.mpr hi)
theorem SG:∀i j,i<12->j<12->wordAt i=wordAt j->i=j:=by
 have h:∀i∈dW 12,∀j∈dW 12,cs (wordAt i)=cs (wordAt j)->i=j:=by decide +kernel
 exact λi j hi hj e=>h i (eM.mpr hi) j (eM.mpr hj) (congrArg cs e)
def letters:Str := "abcdefghijklmnopqrstuvwxyz"
theorem K6(i:Nat)(h:i<26):(cs letters)[i]?=some (97+i):=by
 have h2:∀i∈dW 26,(cs letters)[i]?=some (97+i):=by decide +kernel
 exact h2 i (eM.mpr h)
theorem Ij{α β:Type}{f:α->β}:∀{l:List α},l.Nodup->(∀a∈l,∀b∈l,f a=f b->a=b)->(l.map f).Nodup
 | [],_,_=>d8
 | a::l,h,hf=>by
  rw [dP] at h;rw [dA,dP];refine⟨λhm=>?_,Ij h.2 λx hx y hy=>hf x (Rs _ hx) y (Rs _ hy)⟩;obtain⟨b,hb,e⟩:=Re.mp hm;exact h.1 (hf a On b (Rs _ hb) e.symm▸hb)
theorem RO{f m j k:Nat}{M:Nat}(hM:m<=M)(hj:j<m)(hk:k<m)(e:(f+j) % M=(f+k) % M):j=k:=by
 have h:∀a b:Nat,a<=b->b<m->(f+a) % M=(f+b) % M->a=b:=λa b h1 h2 e=>by
  have:(f+b - (f+a)) % M=0:=Nat.sub_mod_eq_zero_of_mod_eq e.symm
  have e2:f+b - (f+a)=b - a:=by omega
  rw [e2,Nat.mod_eq_of_lt (by omega)] at this;omega
 rcases Nat.le_total j k with h1 | h1
 ·exact h j k h1 hk e
 ·exact(h k j h1 hj e.symm).symm
theorem H_(ss:List Str):C9 (ss.map .str)=some ss:=by
 induction ss with
 | nil=>rfl
 | cons y r ih =>
  rw [dA];unfold C9;rw [ih];rfl
theorem Wg:∀(zs:List Str),cs (Txt.join (eE "") zs)=zs.flatMap cs:=by
 intro zs;show cs (Builtin.Str.glued (eE "") zs)=_;rw [StrLaws.glued_eq_join]
 induction zs with
 | nil=>rfl
 | cons x r ih =>
  cases r with
  | nil=>rw [gF,List.flatMap_nil,dX]; rfl
  | cons y r =>
   show cs (x++eE ""++Str.join (eE "") (y::r))=_;rw [C3,C3,ih];show cs x++[]++_=_;rw [dX];simp only [gF]
theorem U3{zs:List Str}(h:∀z∈zs,z.length=1):(zs.flatMap cs).length=zs.length:=by
 induction zs with
 | nil=>rfl
 | cons x r ih =>
  rw [gF,c9,ih λz hz=>h z (Rs _ hz),Dx,h x On,c6];omega
theorem Oc:∀(ys:List Str),(∀y∈ys,y.length=1)->(ys.map (·.length)).sum=ys.length
 | [],_=>rfl
 | y::r,h=>by
  rw [dA,iL,Oc r λz hz=>h z (Rs _ hz),h y On,c6];omega
theorem drawn{P:List D->Nat->Prop}{m n:Nat}{s:Slot}(hn:m<=n)(h:∀zs:List Str,zs.length=m->(∀z∈zs,z.length=1/\∀c∈cs z,97<=c/\c<=122)->P (zs.map .str) (n - m)) :
  Cr (Ad 2) Bm (AS Ax (AB 0) (AY Bl (AD (BS 1) (AD (AL (wC (D.int 26))) AZ)))) P (Cd 0 m) [] n [.sh (.str letters),.fd,s]:=by
 refine MT (λk n' acc ρ=>k<=m/\n'=n - (m - k)/\(∃zs:List Str,acc=zs.map .str/\zs.length=m - k/\∀z∈zs,z.length=1/\∀c∈cs z,97<=c/\c<=122)/\∃s,ρ=[.sh (.str letters),.fd,s]) ?_ ?_ _ _ _ _ ?_
 ·rintro n' acc ρ ⟨_,rfl,⟨zs,rfl,hl,hz⟩,_⟩
  exact h zs hl hz
 ·rintro k d n' acc ρ nx ⟨hk,rfl,⟨zs,rfl,hl,hz⟩,s,rfl⟩ hnx
  refine⟨26,rfl,by decide,by decide,by omega,λr h0 h1=>?_⟩;obtain⟨q,rfl⟩:∃q:Nat,r=(q:Int):=⟨r.toNat,by omega⟩;have hq:q<26:=by omega
  refine⟨97+q,AH (K6 q hq),hnx _ _ _ ⟨by omega,by omega,⟨zs++[⟨#[97+q]⟩],by rw [dq]; rfl,by rw [c9,dR]; omega,λz hz'=>?_⟩,_,rfl⟩⟩
  rcases dN.mp hz' with hz' | hz'
  ·exact hz z hz'
  ·rw [TM.mp hz']
   refine⟨rfl,λc hc=>?_⟩
   have:c=97+q:=by simpa [cs] using hc
   omega
 ·rw [Br]
  exact⟨Sc _,by omega,⟨[],rfl,by simp,λz hz=>by cases hz⟩,_,rfl⟩
theorem T3(i:Nat)(h:i<12):words[i]?=some (wordAt i):=by
 have hl:i<words.length:=h;unfold wordAt;rw [dI,FM hl];rfl
theorem DX{b:BW}{body:Ai}{D2:E2}{all:List D}(I:List D->Nat->List Slot->Prop)(hend:∀n ρ,I all n ρ->D2.nx n ρ)
  (hstep:∀(pre:List D) (d:D) (post:List D) (n:Nat) (ρ:List Slot) (nx:Nat->List Slot->Prop),all=pre++d::post->I pre n ρ->(∀n' zY,I (pre++[d]) n' zY->nx n' zY)->b d ρ λzU=>body { D2 with nx:=nx,ct:=nx,bk:=D2.nx } n zU) :
  ∀(ds pre:List D) (n:Nat) (ρ:List Slot),all=pre++ds->I pre n ρ->Be b body D2 ds n ρ
 | [],pre,n,ρ,e,h=>by
  rw [dX] at e;subst e;exact hend n ρ h
 | d::ds,pre,n,ρ,e,h=>hstep pre d ds n ρ (Be b body D2 ds) e h λn' zY h'=>DX I hend hstep ds (pre++[d]) n' zY (by rw [e,dg]; rfl) h'
theorem Jq{lo:Int}{n:Nat}{pre post:List D}{d:D}(h:Cd lo n=pre++d::post):d=.int (lo+(pre.length:Int))/\pre.length<n:=by
 have hl:=congrArg fN h;rw [Br,c9,c6] at hl;have e:(Cd lo n)[pre.length]?=some d:=by rw [h,eQ (Sc _),ic]; rfl
 unfold Cd at e;rw [dC,ir (by omega)] at e;exact⟨(c_ e).symm,by omega⟩
theorem aR{r:Int}(h:r=0\/r=1):MulOk "z" r/\(Txt.mul "z" r).length<=1/\∀c∈cs (Txt.mul "z" r),97<=c/\c<=122:=by
 rcases h with rfl | rfl
 ·exact⟨⟨rfl,⟨λh=>absurd (by decide) h,λh=>absurd (by decide) h⟩⟩,by decide,by decide⟩
 ·exact⟨⟨rfl,⟨λ_ h=>absurd h (by decide),λ_ h=>absurd h (by decide)⟩⟩,by decide,by decide⟩
def nameAt(x:Str)(a f k:Nat):Str:=Txt.slice x none (some (a:Int))++⟨#[97+(f+k) % 26]⟩++Txt.slice x (some ((a:Int)+1)) (some 7)++Txt.mul "z" ((k:Int) % 2)
theorem Ik{x:Str}{a f k:Nat}(hx:x.length=8)(ha:a<7):cs (nameAt x a f k)=(cs x).take a++(97+(f+k) % 26)::(((cs x).drop (a+1)).take (6 - a)++cs (Txt.mul "z" ((k:Int) % 2))):=by
 unfold nameAt;rw [C3,C3,C3,Xo (by omega) (by omega),ZN (by omega) (by omega) (by omega)];have e1:((a:Int)).toNat=a:=by omega
 have e2:((a:Int)+1).toNat=a+1:=by omega
 have e3:(7 - ((a:Int)+1)).toNat=6 - a:=by omega
 rw [e1,e2,e3,dg,dg];rfl
theorem PD{x:Str}{a f k:Nat}(hx:x.length=8)(hc:∀c∈cs x,97<=c/\c<=122)(ha:a<7):EA (nameAt x a f k):=by
 have e:=Ik (f:=f) (k:=k) hx ha;obtain⟨_,hz1,hz2⟩:=aR (r:=(k:Int) % 2) (by omega)
 have hl:(nameAt x a f k).length=7+(Txt.mul "z" ((k:Int) % 2)).length:=by
  rw [← Dx,e,c9,c6,c9,fC,fC,fm,Dx,Dx,hx];omega
 refine⟨by omega,by omega,λc h=>?_⟩;rw [e] at h
 rcases dN.mp h with h | h
 ·exact hc c (gm h)
 ·rcases T0.mp h with rfl | h
  ·have:=ie (f+k) (show 0<26 by decide)
   omega
  ·rcases dN.mp h with h | h
   ·exact hc c (gn (gm h))
   ·exact hz2 c h
theorem QZ{x:Str}{a f m j k:Nat}(hx:x.length=8)(ha:a<7)(hm:m<=26)(hj:j<m)(hk:k<m)(e:nameAt x a f j=nameAt x a f k):j=k:=by
 have e1:=congrArg cs e;rw [Ik hx ha,Ik hx ha] at e1;have hl:((cs x).take a).length=a:=by rw [fC,Dx,hx]; omega
 have e2:=congrArg (λl:List Nat=>l[a]?) e1;have e2:((cs x).take a++(97+(f+j) % 26)::(((cs x).drop (a+1)).take (6 - a)++cs (Txt.mul "z" ((j:Int) % 2))))[a]?=((cs x).take a++(97+(f+k) % 26)::(((cs x).drop (a+1)).take (6 - a)++cs (Txt.mul "z" ((k:Int) % 2))))[a]?:=e2;rw [eQ (by omega),eQ (by omega),hl,ic] at e2;have e3:97+(f+j) % 26=97+(f+k) % 26:=c_ e2;exact RO (f:=f) (M:=26) hm hj hk (by omega)
theorem Sf{ss:List Slot}{n:Nat}{Pd:D->Nat->Prop}(h:KA ss n Pd):Gb { nx:=λn _=>Kd.fr=.sh/\Pd .non n,rt:=Pd } n (ss++XV 9 .no):=by
 obtain⟨m,rfl,hm1,hm2,hn,p⟩:=h;unfold Gb;refine⟨3,rfl,by decide,by decide,by omega,λway hw0 hw1=>⟨(by decide:12<=sizeLine),?_⟩⟩;have last:∀(n':Nat),n - 1<=n'->(Ac (A0 5 (wC (D.str "abcdefghijklmnopqrstuvwxyz")))
 (Ac (A0 6 (bR "str" VS (wC (D.str "")) (AG (BU [some 5,some 0,none] (Eb (AG (wC (D.int 8)) AW)) (Ad 2) Bm (AS Ax (AB 0) (AY Bl (AD (BS 1) (AD (AL (wC (D.int 26))) AZ))))) AW)))
 (Ac (BA (KO (AU (AS (G6 false) (AB 2) (wC (D.int 1)))) (AU (AS Dw (AB 1) (wC (D.int 9))))) (Aq (BU [some 6,none] (Eb (AG (AB 1) AW)) (Ad 1) Bm (Py Fj (AB 0) CL (CY (AS A7 (wC (D.int 1)) (AB 1)))))) Ar)
 (Ac (A0 7 (AY Bl (AD (BS 0) (AD (AL (wC (D.int 7))) AZ))))
 (Ac (A0 4 (AY Bl (AD (BS 0) (AD (AL (wC (D.int 26))) AZ))))
 (Ac (DY 8 (FO AW))
 (Ac (Ez (Eb (AG (AB 1) AW)) (Ad 9) (Ac (A0 10 (AS Ax (AB 5) (AS (OO (λ_ j=>0<j) λi j=>D.int (i % j)) (AS A7 (AB 4) (AB 9)) (wC (D.int 26)))))
 (Lr 8 "list" Ei (AG (AS A7 (AS A7 (AS A7 (Py Fj (AB 6) CL (CY (AB 7))) (AB 10)) (Py Fj (AB 6) (CY (AS A7 (AB 7) (wC (D.int 1)))) (CY (wC (D.int 7))))) (AS B7 (wC (D.str "z")) (AS (OO (λ_ j=>0<j) λi j=>D.int (i % j)) (AB 9) (wC (D.int 2))))) AW))))
 (Aq (CF LH (AG (A4 8) AW)))))))))) { nx:=λn _=>Kd.fr=.sh/\Pd .non n,rt:=Pd } n' [.fd,.sh (.int m),.sh (.int way),.sh (.lst (words.map .str)),.no,.no,.no,.no,.no,.no,.no]:=by
  intro n' hn';refine⟨rfl,8,rfl,⟨by decide,by decide⟩,by rw [Br]; decide,?_⟩;refine drawn (m:=8) (by omega) λzs hz1 hz2=>?_;have hone:∀z∈zs,z.length=1:=λz hz=>(hz2 z hz).1;have hj:=Wg zs;have hl8:(Txt.join (eE "") zs).length=8:=by rw [← Dx,hj,U3 hone,hz1]
  have hc:∀c∈cs (Txt.join (eE "") zs),97<=c/\c<=122:=λc hc=>by
   rw [hj] at hc;obtain⟨z,hz,hcz⟩:=fZ.mp hc;exact(hz2 z hz).2 c hcz
  refine⟨_,_,zs,rfl,rfl,H_ zs,by rw [Oc zs hone,show (eE "").length=0 from rfl]; omega,by omega,?_⟩;generalize Txt.join (eE "") zs=x at hl8 hc;have hx8:(cs x).length=8:=by rw [Dx,hl8]
  have tail:∀(n2:Nat),n' - 8<=n2->(Ac (A0 7 (AY Bl (AD (BS 0) (AD (AL (wC (D.int 7))) AZ))))
 (Ac (A0 4 (AY Bl (AD (BS 0) (AD (AL (wC (D.int 26))) AZ))))
 (Ac (DY 8 (FO AW))
 (Ac (Ez (Eb (AG (AB 1) AW)) (Ad 9) (Ac (A0 10 (AS Ax (AB 5) (AS (OO (λ_ j=>0<j) λi j=>D.int (i % j)) (AS A7 (AB 4) (AB 9)) (wC (D.int 26)))))
 (Lr 8 "list" Ei (AG (AS A7 (AS A7 (AS A7 (Py Fj (AB 6) CL (CY (AB 7))) (AB 10)) (Py Fj (AB 6) (CY (AS A7 (AB 7) (wC (D.int 1)))) (CY (wC (D.int 7))))) (AS B7 (wC (D.str "z")) (AS (OO (λ_ j=>0<j) λi j=>D.int (i % j)) (AB 9) (wC (D.int 2))))) AW))))
 (Aq (CF LH (AG (A4 8) AW))))))) { nx:=λn _=>Kd.fr=.sh/\Pd .non n,rt:=Pd } n2 [.fd,.sh (.int m),.sh (.int way),.sh (.lst (words.map .str)),.no,.sh (.str letters),.sh (.str x),.no,.no,.no,.no]:=by
   intro n2 hn2;refine⟨7,rfl,by decide,by decide,by omega,λa ha0 ha1=>⟨26,rfl,by decide,by decide,by omega,λfirst hf0 hf1=>⟨(by decide:0<=sizeLine),(m:Int),rfl,⟨by omega,by omega⟩,?_⟩⟩⟩;obtain⟨a,rfl⟩:∃q:Nat,a=(q:Int):=⟨a.toNat,by omega⟩;obtain⟨f,rfl⟩:∃q:Nat,first=(q:Int):=⟨first.toNat,by omega⟩
   have ha7:a<7:=by omega
   refine DX (all:=Cd 0 ((m:Int)).toNat) (λpre n3 ρ=>n3=n2 - 1 - 1/\∃s9 s10,ρ=[.fd,.sh (.int m),.sh (.int way),.sh (.lst (words.map .str)),.sh (.int f),.sh (.str letters),.sh (.str x),.sh (.int a),.ow (.lst (((dW pre.length).map λk=>nameAt x a f k).map .str)),s9,s10]) ?_ ?_ _ [] _ _ rfl ⟨rfl,_,_,rfl⟩
   ·rintro n3 ρ ⟨rfl,s9,s10,rfl⟩
    have el:(Cd 0 ((m:Int)).toNat).length=m:=by rw [Br]; omega
    refine⟨_,_,rfl,H_ _,by rw [Go,fG,el]; omega,λss' hp hs=>p ss' _ ?_ ?_ ?_ (by omega)⟩
    ·rw [hp.length_eq,Go,fG,el]
    ·intro y hy
     obtain⟨k,_,rfl⟩:=Re.mp (hp.mem_iff.mp hy);exact PD hl8 hc ha7
    ·refine GU hs (hp.nodup_iff.mpr (Ij List.nodup_range λj hj k hk e=>?_))
     rw [el] at hj hk;exact QZ hl8 ha7 hm2 (eM.mp hj) (eM.mp hk) e
   ·rintro pre d post n3 ρ nx hall ⟨rfl,s9,s10,rfl⟩ hnx
    obtain⟨rfl,hk⟩:=Jq hall;have epre:(pre++[D.int (0+(pre.length:Int))]).length=pre.length+1:=by rw [c9,dR]
    rw [epre] at hnx;generalize pre.length=k at hk hnx ⊢;have hlt:(f+k) % 26<26:=ie _ (by decide);have ei:((f:Int)+(0+(k:Int))) % 26=(((f+k) % 26:Nat):Int):=by omega
    have ek:(0+(k:Int)) % 2=(k:Int) % 2:=by omega
    obtain⟨hz0,hz1,_⟩:=aR (r:=(0+(k:Int)) % 2) (by omega);have l1:=Txt.slice_le x none (some (a:Int));have l2:=Txt.slice_le x (some ((a:Int)+1)) (some 7);have la:=jQ (Txt.slice x none (some (a:Int))) ⟨#[97+(f+k) % 26]⟩;have lb:=jQ (Txt.slice x none (some (a:Int))++⟨#[97+(f+k) % 26]⟩) (Txt.slice x (some ((a:Int)+1)) (some 7));have ls:(⟨#[97+(f+k) % 26]⟩:Str).length=1:=rfl;have hsz:=PySem.sizeLine_eq;refine⟨by show (0:Int)<26; decide,97+(f+k) % 26,by rw [ei]; exact AH (K6 _ hlt),?_⟩;refine⟨_,rfl,rfl,by omega,by omega,by show (0:Int)<2; decide,hz0,by omega,by omega,?_⟩;refine⟨_,_,rfl,rfl,by rw [Go,Go,fG]; omega,hnx _ _ ⟨rfl,.sh (.int (0+(k:Int))),.sh (.str ⟨#[97+(f+k) % 26]⟩),?_⟩⟩;rw [ek,List.range_succ,dq,dq];rfl
  refine D6 (λc1=>D6 (λc2=>?_) λc2=>tail _ (Sc _)) λc1=>D6 (λc2=>absurd c2 (by decide)) λ_=>tail _ (Sc _)
  have hm9:m<9:=by
   have:(m:Int)<9:=of_decide_eq_true c2
   omega
  refine⟨(m:Int),rfl,⟨by omega,by omega⟩,by rw [Br]; omega,?_⟩;refine G0 (g:=λd=>match d with | .int k=>.str (Txt.slice x none (some (1+k))) | _=>.non) (λρ=>∃s,ρ=[.sh (.str x),s]) ?_ _ _ _ _ ?_ ⟨_,rfl⟩ ?_
  ·rintro d ρ ⟨s,rfl⟩
   exact⟨_,rfl⟩
  ·rintro d hd ρ n' P' ⟨s,rfl⟩ hp
   obtain⟨k,hk,rfl⟩:=HK hd;exact hp
  ·have e:[]++(Cd 0 ((m:Int)).toNat).map (λd=>match d with | .int k=>D.str (Txt.slice x none (some (1+k))) | _=>.non)=((dW m).map λk:Nat=>Txt.slice x none (some (1+(k:Int)))).map .str:=by
    unfold Cd;rw [dE,eF,eF,gE];refine gv λk _=>?_
    have:(0+(k:Int))=k:=by omega
    simp only [Function.comp,this]
   have ct:∀k:Nat,k<m->cs (Txt.slice x none (some (1+(k:Int))))=(cs x).take (1+k):=λk hk=>by
    rw [Xo (by omega) (by omega),show (1+(k:Int)).toNat=1+k by omega]
   rw [e];refine p _ _ (by rw [Go,fG]) ?_ ?_ (by omega)
   ·intro y hy
    obtain⟨k,hk,rfl⟩:=Re.mp hy;have hk:=eM.mp hk
    have hl:(Txt.slice x none (some (1+(k:Int)))).length=1+k:=by
     rw [← Dx,ct k hk,fC,hx8]; omega
    exact⟨by omega,by omega,λc h=>hc c (gm (by rw [← ct k hk]; exact h))⟩
   ·unfold rising
    rw [fW];refine jg ?_ List.pairwise_lt_range;intro i j hi hj hij;rw [ct i (eM.mp hi),ct j (eM.mp hj)];exact Q7 _ _ _ (by omega) (by rw [hx8]; have:=eM.mp hj; omega)
 refine D6 (λc1=>D6 (λc2=>?_) λc2=>last _ (Sc _)) λc1=>D6 (λc2=>absurd c2 (by decide)) λ_=>last _ (Sc _)
 have hm13:m<13:=by
  have:(m:Int)<13:=of_decide_eq_true c2
  omega
 refine⟨12,rfl,by decide,by decide,by omega,λfirst h0 h1=>?_⟩;obtain⟨f,rfl⟩:∃f:Nat,first=(f:Int):=⟨first.toNat,by omega⟩
 refine⟨(m:Int),rfl,⟨by omega,by omega⟩,by rw [Br]; omega,?_⟩;refine G0 (g:=λd=>match d with | .int k=>.str (wordAt ((f+k.toNat) % 12)) | _=>.non) (λρ=>∃s,ρ=[.sh (.lst (words.map .str)),.sh (.int f),s]) ?_ _ _ _ _ ?_ ⟨_,rfl⟩ ?_
 ·rintro d ρ ⟨s,rfl⟩
  exact⟨_,rfl⟩
 ·rintro d hd ρ n' P' ⟨s,rfl⟩ hp
  obtain⟨k,hk,rfl⟩:=HK hd;refine⟨by show (0:Int)<12; decide,D.str (wordAt ((f+k) % 12)),?_,?_⟩
  ·have hlt:(f+k) % 12<12:=ie _ (by decide)
   have ei:((f:Int)+(0+(k:Int))) % 12=(((f+k) % 12:Nat):Int):=by omega
   rw [ei];exact AH (by rw [dC,T3 _ hlt]; rfl)
  ·have e:(0+(k:Int)).toNat=k:=by omega
   simp only [e] at hp;exact hp
 ·have e:[]++(Cd 0 ((m:Int)).toNat).map (λd=>match d with | .int k=>D.str (wordAt ((f+k.toNat) % 12)) | _=>.non)=((dW m).map λk=>wordAt ((f+k) % 12)).map .str:=by
   unfold Cd;rw [dE,eF,eF,gE];refine gv λk _=>?_
   have:(0+(k:Int)).toNat=k:=by omega
   simp only [Function.comp,this]
  refine⟨_,(dW m).map λk=>wordAt ((f+k) % 12),rfl,by rw [e]; exact H_ _,by rw [Go,fG]; omega,λss' hp hs=>p ss' _ ?_ ?_ ?_ (by omega)⟩
  ·rw [hp.length_eq,Go,fG]
  ·intro x hx
   obtain⟨k,_,rfl⟩:=Re.mp (hp.mem_iff.mp hx);exact P0 _ (ie _ (by decide))
  ·refine GU hs (hp.nodup_iff.mpr (Ij List.nodup_range λj hj k hk e=>?_))
   exact RO (M:=12) (by omega) (eM.mp hj) (eM.mp hk) (SG _ _ (ie _ (by decide)) (ie _ (by decide)) e)
structure A2 where
 a:Str
 b:Str
 len:Int
structure Net where
 ps:List Str
 ts:List A2
def Aj(t:A2):D:=.tup [.str t.a,.str t.b,.int t.len]
def enc(N:Net):D:=.tup [.tup (N.ps.map .str),.tup (N.ts.map Aj)]
def Bp(s t:A2):Prop:=cs s.a<cs t.a\/(s.a=t.a/\cs s.b<cs t.b)
structure Net.Ok (N:Net):Prop where
 names:∀x∈N.ps,EA x
 rise:rising N.ps
 tin:∀t∈N.ts,t.a∈N.ps/\t.b∈N.ps/\cs t.a<cs t.b/\1<=t.len/\t.len<=1000000
 trise:N.ts.Pairwise Bp
def Vv:W2:=λss n P=>∃most ties:Nat,ss=[.fd,.sh (.int most),.sh (.int ties)]/\1<=most/\most<=26/\1500<=n/\∀(N:Net) (n':Nat),N.Ok->1<=N.ps.length->N.ps.length<=most->N.ts.length<=ties->n - 1500<=n'->P (enc N) n'
def Lb:Ai:=(Ac (A0 3 (AY KA (AD (BS 0) (AD (AL (AS A7 (wC (D.int 1)) (AY Bl (AD (BS 0) (AD (AL (AB 1)) AZ))))) AZ))))
 (Ac (A0 4 (AS A7 (wC (D.int 1)) (AY Bl (AD (BS 0) (AD (AL (wC (D.int 3))) AZ)))))
 (Ac (A0 5 (AY Bl (AD (BS 0) (AD (AL (wC (D.int 4))) AZ))))
 (Ac (DY 6 (FO AW))
 (Ac (Ez (Eb (AG (CF D7 (AG (AB 3) AW)) AW)) (Ad 7) (Ez (T8 (AG (AS A7 (AB 7) (wC (D.int 1))) (AG (CF D7 (AG (AB 3) AW)) AW))) (Ad 8) (BA (KO (AU (AS N0 (AY Bl (AD (BS 0) (AD (AL (wC (D.int 4))) AZ))) (AB 4))) (AU (AS Dw (CF D7 (AG (A4 6) AW)) (AB 2)))) (Lr 6 "list" Ei (AG (Bg (AG (AS Ax (AB 3) (AB 7)) (AG (AS Ax (AB 3) (AB 8)) (AG (AY XG (AD (BS 0) (AD (AL (AB 5)) AZ))) AW)))) AW)) Ar)))
 (Aq (Bg (AG (CF CB (AG (AB 3) AW)) (AG (CF CB (AG (A4 6) AW)) AW)))))))))
structure Ix where
 i:Nat
 j:Nat
 len:Int
def Ix.tie(xs:List Str)(t:Ix):A2:=⟨xs.getD t.i "",xs.getD t.j "",t.len⟩
def Yz(s t:Ix):Prop:=s.i<t.i\/(s.i=t.i/\s.j<t.j)
theorem getD_at{xs:List Str}{i:Nat}(h:i<xs.length):xs[i]?=some (xs.getD i ""):=by
 rw [dI,FM h];rfl
theorem getD_mem{xs:List Str}{i:Nat}(h:i<xs.length):xs.getD i ""∈xs:=eo (getD_at h)
theorem NP{xs:List Str}(h:rising xs){i j:Nat}(hij:i<j)(hj:j<xs.length):cs (xs.getD i "")<cs (xs.getD j ""):=by
 have h2:=jV.mp h i j (by omega) hj hij;have e1:xs.getD i ""=xs[i]:=by rw [dI,FM (by omega)]; rfl
 have e2:xs.getD j ""=xs[j]:=by rw [dI,FM hj]; rfl
 rw [e1,e2];exact h2
theorem Yk{xs:List Str}{ts:List Ix}(hn:∀x∈xs,EA x)(hr:rising xs)(ht:∀t∈ts,t.i<t.j/\t.j<xs.length/\1<=t.len/\t.len<=1000000)(hp:ts.Pairwise Yz):Net.Ok ⟨xs,ts.map (Ix.tie xs)⟩:=by
 refine⟨hn,hr,λt h=>?_,?_⟩
 ·obtain⟨u,hu,rfl⟩:=Re.mp h
  obtain⟨h1,h2,h3,h4⟩:=ht u hu;exact⟨getD_mem (show u.i<xs.length by omega),getD_mem h2,NP hr h1 h2,h3,h4⟩
 ·show (ts.map (Ix.tie xs)).Pairwise Bp
  rw [fW];refine jg (λ{s t} hs ht' h=>?_) hp;obtain⟨h1,h2,_⟩:=ht s hs;obtain⟨g1,g2,_⟩:=ht t ht'
  rcases h with h | ⟨h,h'⟩
  ·exact .inl (NP hr h (by omega))
  ·refine .inr ⟨?_,NP hr h' g2⟩
   show xs.getD s.i ""=xs.getD t.i "";rw [h]
theorem YL{ss:List Slot}{n:Nat}{Pd:D->Nat->Prop}(h:Vv ss n Pd):Lb { nx:=λn _=>Kd.sh=.sh/\Pd .non n,rt:=Pd } n (ss++XV 6 .no):=by
 obtain⟨most,ties,rfl,hm1,hm2,hn,p⟩:=h;unfold Lb;refine⟨_,rfl,by omega,by omega,by omega,λr h0 h1=>?_⟩;refine⟨(1+r).toNat,by rw [show (((1+r).toNat:Nat):Int)=1+r by omega],by omega,by omega,by omega,λxs n1 hl hx hr hn1=>?_⟩;refine⟨3,rfl,by decide,by decide,by omega,λfew f0 f1=>⟨4,rfl,by decide,by decide,by omega,λscale s0 s1=>⟨(by decide:0<=sizeLine),?_⟩⟩⟩;have hxl:(xs.map D.str).length=xs.length:=Go ..;refine⟨_,_,rfl,rfl,_,rfl,⟨by omega,by omega⟩,?_⟩
 refine DX (all:=Cd 0 (((xs.map D.str).length:Int)).toNat) (λpre m ρ=>n1 - 1 - 1 - 52*pre.length<=m/\∃(ts:List Ix) (s7 s8:Slot),(∀t∈ts,t.i<t.j/\t.j<xs.length/\1<=t.len/\t.len<=1000000)/\ts.Pairwise Yz/\ts.length<=ties/\(∀t∈ts,t.i<pre.length)/\ts.length<=26*pre.length /\
  ρ=[.fd,.sh (.int most),.sh (.int ties),.sh (.lst (xs.map .str)),.sh (.int (1+few)),.sh (.int scale),.ow (.lst ((ts.map (Ix.tie xs)).map Aj)),s7,s8]) ?_ ?_ _ [] _ _ rfl ⟨by simp,[],_,_,(λ_ h=>by cases h),jN,dD _,(λ_ h=>by cases h),dD _,rfl⟩
 ·rintro m ρ ⟨hm,ts,s7,s8,h1,h2,h3,h4,h5,rfl⟩
  have el:(Cd 0 (((xs.map D.str).length:Int)).toNat).length=xs.length:=by rw [Br]; omega
  rw [el] at hm;refine⟨(by decide:2<=sizeLine),p ⟨xs,ts.map (Ix.tie xs)⟩ m (Yk hx hr h1 h2) (by show 1<=xs.length; omega) (by show xs.length<=most; omega) (by show (ts.map (Ix.tie xs)).length<=ties; rw [Go]; exact h3) (by omega)⟩
 ·rintro pre d post m ρ nx hall ⟨hm,ts,s7,s8,h1,h2,h3,h4,h5,rfl⟩ hnx
  obtain⟨rfl,hk⟩:=Jq hall;have epre:(pre++[D.int (0+(pre.length:Int))]).length=pre.length+1:=by rw [c9,dR]
  rw [epre] at hnx;generalize pre.length=one at hk hnx hm h4 h5 ⊢;rw [hxl] at hk;refine⟨_,_,rfl,rfl,_,_,rfl,⟨by omega,by omega,by omega,by omega⟩,?_⟩
  refine DX (all:=Cd (0+(one:Int)+1) ((((xs.map D.str).length:Int)) - (0+(one:Int)+1)).toNat) (λpre m ρ=>n1 - 1 - 1 - 52*one - 2*pre.length<=m/\∃(ts:List Ix) (s8:Slot),(∀t∈ts,t.i<t.j/\t.j<xs.length/\1<=t.len/\t.len<=1000000)/\ts.Pairwise Yz/\ts.length<=ties/\(∀t∈ts,t.i<one\/(t.i=one/\t.j<one+1+pre.length))/\ts.length<=26*one+pre.length /\
   ρ=[.fd,.sh (.int most),.sh (.int ties),.sh (.lst (xs.map .str)),.sh (.int (1+few)),.sh (.int scale),.ow (.lst ((ts.map (Ix.tie xs)).map Aj)),.sh (.int (0+(one:Int))),s8]) ?_ ?_ _ [] _ _ rfl ⟨by simpa using hm,ts,_,h1,h2,h3,λt ht=>.inl (h4 t ht),by simpa using h5,rfl⟩
  ·rintro m ρ ⟨hm,ts,s8,h1,h2,h3,h4,h5,rfl⟩
   rw [Br] at hm h5;refine hnx _ _ ⟨by omega,ts,_,_,h1,h2,h3,λt ht=>?_,by omega,rfl⟩
   rcases h4 t ht with h | h <;> omega
  ·rintro pre2 d2 post2 m ρ nx2 hall2 ⟨hm,ts,s8,h1,h2,h3,h4,h5,rfl⟩ hnx2
   obtain⟨rfl,hk2⟩:=Jq hall2;rw [c9,dR] at hnx2;generalize pre2.length=q at hk2 hnx2 hm h4 h5 ⊢;have hq:one+1+q<xs.length:=by omega
   have skip:nx2 (m - 1) [.fd,.sh (.int most),.sh (.int ties),.sh (.lst (xs.map .str)),.sh (.int (1+few)),.sh (.int scale),.ow (.lst ((ts.map (Ix.tie xs)).map Aj)),.sh (.int (0+(one:Int))),.sh (.int (0+(one:Int)+1+(q:Int)))]:=by
    refine hnx2 _ _ ⟨by omega,ts,_,h1,h2,h3,λt ht=>?_,by omega,rfl⟩
    rcases h4 t ht with h | h
    ·exact .inl h
    ·exact .inr (by omega)
   refine⟨4,rfl,by decide,by decide,by omega,λdr d0 d1=>?_⟩;refine D6 (λc1=>⟨_,_,rfl,rfl,D6 (λc2=>?_) λc2=>skip⟩) λc1=>D6 (λc2=>absurd c2 (by decide)) λ_=>skip
   have hlt:ts.length<ties:=by
    have:(((ts.map (Ix.tie xs)).map Aj).length:Int)<(ties:Int):=of_decide_eq_true c2
    rw [Go,Go] at this;omega
   refine⟨_,rfl,rfl,D.str (xs.getD one ""),?_,D.str (xs.getD (one+1+q) ""),?_,scale,rfl,by omega,λlen l1 l2=>⟨(by decide:3<=sizeLine),_,_,rfl,rfl,?_,?_⟩⟩
   ·rw [show (0+(one:Int))=((one:Nat):Int) by omega]
    exact AH (by rw [dC,getD_at hk]; rfl)
   ·rw [show (0+(one:Int)+1+(q:Int))=((one+1+q:Nat):Int) by omega]
    exact AH (by rw [dC,getD_at hq]; rfl)
   ·rw [Go,Go,PySem.sizeLine_eq]; omega
   ·refine hnx2 _ _ ⟨by omega,ts++[⟨one,one+1+q,len⟩],.sh (.int (0+(one:Int)+1+(q:Int))),λt ht=>?_,?_,by rw [c9,dR]; omega,λt ht=>?_,by rw [c9,dR]; omega,?_⟩
    ·rcases dN.mp ht with ht | ht
     ·exact h1 t ht
     ·rw [TM.mp ht]
      exact⟨by show one<one+1+q; omega,hq,l1,l2⟩
    ·rw [ig]
     refine⟨h2,iC _ _,λs hs t ht=>?_⟩;rw [TM.mp ht]
     rcases h4 s hs with h | h
     ·exact .inl h
     ·exact .inr h
    ·rcases dN.mp ht with ht | ht
     ·rcases h4 t ht with h | h
      ·exact .inl h
      ·exact .inr (by omega)
     ·rw [TM.mp ht]
      exact .inr ⟨rfl,by show one+1+q<one+1+(q+1); omega⟩
    ·rw [dq,dq]
     rfl
abbrev EE(Pd:D->Nat->Prop):E2:={ nx:=λn _=>Kd.sh=.sh/\Pd .non n,rt:=Pd }
theorem Av{b:BW}{te:DW}{P:List D->Nat->Prop}(g:D->D)(I:List Slot->Prop):∀(ds acc:List D) (n:Nat) (ρ:List Slot),
  (∀d∈ds,∀(ρ:List Slot) (n:Nat) (nx:D->Nat->List Slot->Prop),I ρ->(∀zY,I zY->nx (g d) n zY)->b d ρ λzU=>te n zU λy n2=>nx y n2 zU)->I ρ->P (acc++ds.map g) n->Cr b Bm te P ds acc n ρ
 | [],acc,n,ρ,_,_,h=>by rw [gf,dX] at h; exact h
 | d::ds,acc,n,ρ,ht,hρ,h=>ht d On ρ n (λy n2 zU=>Cr b Bm te P ds (acc++[y]) n2 zU) hρ λzY hρ' =>
  Av g I ds (acc++[g d]) n zY (λd hd=>ht d (Rs _ hd)) hρ' (by rw [dg]; exact h)
theorem Hg{α:Type}{l:List α}{p:α->Bool}{P:D->Prop}(h:P (.bl (l.all p))):LI [.lst (l.map λa=>.bl (p a))] P :=
 ⟨_,_,rfl,Fq p l,by rw [g_]; exact h⟩
theorem Iq{b1 b2:Bool}{P:D->Nat->Prop}{n:Nat}{k:(D->Nat->Prop)->Prop}(hk:b1=true->P (.bl b2) n->k P)(h:P (.bl (b1&&b2)) n):(match (.bl b1:D) with | .bl true=>k P | .bl false=>P (.bl false) n | _=>False):=Vn hk h
abbrev Wb(g:D->Bool):W2:=Xc 1 λds=>.bl (g (ds.getD 0 .non))
theorem Wb.out{g:D->Bool}{ss:List Slot}{n:Nat}{P:D->Nat->Prop}(h:Wb g ss n P):∃d,ss=[.sh d]/\P (.bl (g d)) n:=by
 obtain⟨ds,hl,rfl,h⟩:=h
 match ds,hl with
 | [d],_=>exact⟨d,rfl,h⟩
def T4:D->Bool
 | .int _=>true
 | _=>false
def HU:D->Bool
 | .int i=>decide (1<=i)&&decide (i<=1000000)
 | _=>false
def tupleOfB(k:Int):D->Bool
 | .tup xs=>((xs.length:Int)==k)
 | _=>false
def B5:D->Bool
 | .str x=>(decide (1<=x.length)&&decide (x.length<=8))&&(cs x).all λc=>decide (97<=c)&&decide (c<=122)
 | _=>false
def IJ(d e:D):Option Bool:=match d,e with
 | .int i,.int j=>some (decide (i<j))
 | .str i,.str j=>some (decide (cs i<cs j))
 | .tup xs,.tup ys=>match HZ xs,HZ ys with
  | some ks,some ls=>if CT ks ls then some (Eg ks ls) else none
  | _,_=>none
 | _,_=>none
theorem Rk{d e:D}{b:Bool}{P:D->Prop}(h:IJ d e=some b)(p:P (.bl b)):Dw d e P:=by
 unfold IJ at h
 split at h
 ·cases h; exact p
 ·cases h; exact p
 ·rename_i xs ys
  split at h
  ·rename_i ks ls h1 h2
   split at h
   ·rename_i hs
    cases h;exact⟨ks,ls,h1,h2,hs,p⟩
   ·cases h
  ·cases h
 ·cases h
def Lf:List D->Bool
 | x::y::r=>(IJ x y==some true)&&Lf (y::r)
 | _=>true
abbrev Ll:W2:=Wb T4
abbrev Mz:W2:=Wb B5
abbrev D4:W2:=λss n P=>∃k d,ss=[.sh (.int k),.sh d]/\P (.bl (tupleOfB k d)) n
abbrev DU:W2:=λss n P=>∃d xs,ss=[.sh d]/\IU d=some xs/\xs.length<=1000/\(∀x∈xs,∀y∈xs,∃b,IJ x y=some b)/\P (.bl (Lf xs)) n
def Qs:Ai:=(Aq (HF (Ey "int" (AB 0)) (X4 (Ey "bool" (AB 0)))))
def MH:Ai:=(Aq (HF (Ey "tuple" (AB 1)) (AS (G6 false) (CF D7 (AG (AB 1) AW)) (AB 0))))
def Pu:Ai:=(Aq (CF LI (AG (BU [none,none] (V7 (AG (AB 0) (AG (Py Fj (AB 0) (CY (wC (D.int 1))) CL) AW))) (DJ 2 (Ao (Ad 0) (Ao (Ad 1) Bu))) Bm (AS Dw (AB 0) (AB 1))) AW)))
section
variable {ss:List Slot}{n:Nat}{Pd:D->Nat->Prop}
theorem Oq(h:Ll ss n Pd):Qs (EE Pd) n (ss++XV 0 .no):=by
 obtain⟨d,rfl,q⟩:=h.out;cases d <;> exact q
theorem Ko(h:D4 ss n Pd):MH (EE Pd) n (ss++XV 0 .no):=by
 obtain⟨k,d,rfl,h⟩:=h;cases d with
 | tup xs=>exact⟨_,_,rfl,rfl,h⟩
 | _=>exact h
theorem SU(x:Str):(Dp.signs x).length=x.length:=by unfold Dp.signs; rw [Go]; exact Dx x
theorem ZM{α:Type}(xs:List α):Dp.cutD xs (some 1) none=xs.drop 1:=by
 unfold Dp.cutD;rw [HT.sIx_none,show (1:Int)=((1:Nat):Int) from rfl,HT.sIx_nat]
 by_cases h:1<=xs.length
 ·rw [ii h]
  exact iG (by rw [fm]; exact Sc _)
 ·have:xs=[]:=fk.mp (by omega)
  subst this;rfl
theorem R0:∀xs:List D,((Ea xs (xs.drop 1)).all λd=>match d with | .tup [a,b]=>IJ a b==some true | _=>false)=Lf xs
 | []=>rfl
 | [x]=>rfl
 | x::y::r=>by
  have ih:=R0 (y::r);show ((Ea (x::y::r) (y::r)).all _)=_;unfold Ea Lf;rw [List.zipWith_cons_cons,fY]
  congr 1
theorem V5{xs ys:List D}{d:D}(h:d∈Ea xs ys):∃a∈xs,∃b∈ys,d=.tup [a,b]:=by
 unfold Ea at h;obtain⟨i,hi⟩:=List.getElem?_of_mem h;rw [gh] at hi;cases q1:xs[i]? with
 | none=>rw [q1] at hi; simp at hi
 | some a =>
  cases q2:ys[i]? with
  | none=>rw [q1,q2] at hi; simp at hi
  | some b =>
   rw [q1,q2] at hi;exact⟨a,eo q1,b,eo q2,(c_ hi).symm⟩
theorem NW(h:DU ss n Pd):Pu (EE Pd) n (ss++XV 0 .no):=by
 obtain⟨d,xs,rfl,hd,hl,hlt,h⟩:=h
 have go:(Ea xs (xs.drop 1)).length<=10000000/\Cr (DJ 2 (Ao (Ad 0) (Ao (Ad 1) Bu))) Bm (AS Dw (AB 0) (AB 1)) (λacc n2=>LI [.lst acc] λz=>Pd z n2) (Ea xs (xs.drop 1)) [] n [.no,.no]:=by
  refine⟨by unfold Ea; rw [gu]; omega,?_⟩;refine Av (λd=>.bl (match d with | .tup [a,b]=>IJ a b==some true | _=>false)) (λρ=>∃s t,ρ=[s,t]) _ _ _ _ ?_ ⟨_,_,rfl⟩ ?_
  ·rintro z hz ρ m nx ⟨s,t,rfl⟩ hnx
   obtain⟨a,ha,b,hb,rfl⟩:=V5 hz;obtain⟨r,hr⟩:=hlt a ha b (gn hb);refine⟨rfl,rfl,?_⟩;show Dw a b λy=>nx y m [.sh a,.sh b];refine Rk hr ?_;have this:nx (.bl (IJ a b==some true)) m [.sh a,.sh b]:=hnx [.sh a,.sh b] ⟨_,_,rfl⟩;rw [hr] at this;cases r <;> exact this
  ·rw [dE]
   refine Hg (p:=fun(d:D)=>match d with | .tup [a,b]=>IJ a b==some true | _=>false) ?_;rw [R0];exact h
 cases d with
 | lst ys =>
  cases hd;exact⟨_,_,xs,xs.drop 1,rfl,rfl,by rw [ZM]; rfl,go⟩
 | tup ys =>
  cases hd;exact⟨_,_,xs,xs.drop 1,rfl,rfl,by rw [ZM]; rfl,go⟩
 | _=>cases hd
end
def IQ:D->Bool
 | .tup [a,b,c]=>(B5 a&&B5 b)&&((IJ a b==some true)&&HU c)
 | _=>false
def Jt:D->Bool
 | .tup xs=>decide (xs.length<=24)&&(xs.all B5&&Lf xs)
 | _=>false
def EW(ps:List Str):D->Bool
 | .tup [.str a,.str b,_]=>ps.any (·==a)&&ps.any (·==b)
 | _=>false
def Fk:D->D
 | .tup (a::b::_)=>.tup [a,b]
 | d=>d
def XI(ps:List Str):D->Bool
 | .tup ts=>decide (ts.length<=60)&&(ts.all IQ&&(ts.all (EW ps)&&Lf (ts.map Fk)))
 | _=>false
def strsOf(xs:List D):List Str:=(C9 xs).getD []
def P5(p t:D):Bool:=match p with
 | .tup xs=>XI (strsOf xs) t
 | _=>false
def QY:D->Bool
 | .tup [p,t]=>Jt p&&P5 p t
 | _=>false
abbrev R8:W2:=Wb QY
theorem Vq{α:Type}(p:α->Bool)(l:List α):(l.map p).all id=l.all p:=by rw [g_]; rfl
theorem nameB_iff{d:D}:B5 d=true↔∃x,d=.str x/\EA x:=by
 cases d with
 | str x =>
  simp only [B5,EA,UF,decide_eq_true_eq,dU];constructor
  ·intro h; exact⟨x,rfl,h.1.1,h.1.2,h.2⟩
  ·rintro ⟨y,e,h1,h2,h3⟩; cases e; exact⟨⟨h1,h2⟩,h3⟩
 | _=>exact⟨(λh=>by cases h),fun⟨x,e,_⟩=>(by cases e)⟩
theorem Oe{x:Str}(h:∀c∈cs x,c<1114112):PyData.strOk x=true:=by
 unfold PyData.strOk;rw [← Array.all_toList,dU];intro c hc;exact decide_eq_true (h c hc)
theorem Fe{x:Str}(h:EA x):Ci (.str x):=⟨rfl,Oe λc hc=>by have:=h.2.2 c hc; omega,dD _⟩
theorem PR{ps:List Str}(h:∀p∈ps,EA p):Cu (ps.map .str)=true/\fF (A6 (ps.map .str))=true/\eO (A6 (ps.map .str))=0:=by
 induction ps with
 | nil=>exact⟨rfl,rfl,rfl⟩
 | cons p r ih =>
  obtain⟨h1,h2,h3⟩:=ih λq hq=>h q (Rs _ hq);have hp:=Fe (h p On);refine⟨by rw [dA,Cu,h1]; rfl,?_,?_⟩
  ·rw [dA,A6,fF,h2,iM]
   exact hp.2.1
  ·rw [dA,A6,eO,h3]
   rfl
theorem Cz{ps:List Str}(h:∀p∈ps,EA p):Ci (.tup (ps.map .str)):=by
 obtain⟨h1,h2,h3⟩:=PR h;refine⟨h1,h2,?_⟩;show eO (A6 (ps.map .str))+1<=100;rw [h3]; decide
theorem Jx(x y:Str):GF (.str x) (.str y)=(x==y):=rfl
theorem Jw(x y:Str):IJ (.str x) (.str y)=some (decide (cs x<cs y)):=rfl
theorem PC{xs:List D}(h:xs.all B5=true):∃ps:List Str,xs=ps.map .str/\∀p∈ps,EA p:=by
 induction xs with
 | nil=>exact⟨[],rfl,λp hp=>by cases hp⟩
 | cons d r ih =>
  rw [fY,UF] at h;obtain⟨ps,e,hp⟩:=ih h.2;obtain⟨x,rfl,hx⟩:=nameB_iff.mp h.1;refine⟨x::ps,by rw [dA,e],λp hq=>?_⟩
  rcases T0.mp hq with rfl | hq
  ·exact hx
  ·exact hp p hq
theorem DZ(ps:List Str):strsOf (ps.map .str)=ps:=by unfold strsOf; rw [H_]; rfl
section
theorem bT{d:D}(h:tupleOfB 3 d=true):∃a b c,d=.tup [a,b,c]:=by
 cases d with
 | tup xs =>
  have:(xs.length:Int)=3:=eq_of_beq h
  match xs,this with
  | [a,b,c],_=>exact⟨a,b,c,rfl⟩
  | [],h=>cases h
  | [_],h=>cases h
  | [_,_],h=>cases h
  | _::_::_::_::r,h=>simp only [c6] at h; omega
 | _=>cases h
theorem X9{d:D}(h:tupleOfB 2 d=true):∃a b,d=.tup [a,b]:=by
 cases d with
 | tup xs =>
  have:(xs.length:Int)=2:=eq_of_beq h
  match xs,this with
  | [a,b],_=>exact⟨a,b,rfl⟩
  | [],h=>cases h
  | [_],h=>cases h
  | _::_::_::r,h=>simp only [c6] at h; omega
 | _=>cases h
theorem bh{d:D}(h:tupleOfB 3 d=false):IQ d=false:=by
 cases d with
 | tup xs =>
  match xs,h with
  | [a,b,c],h=>cases h
  | [],_=>rfl
  | [_],_=>rfl
  | [_,_],_=>rfl
  | _::_::_::_::r,_=>rfl
 | _=>rfl
theorem aP{d:D}(h:tupleOfB 2 d=false):QY d=false:=by
 cases d with
 | tup xs =>
  match xs,h with
  | [a,b],h=>cases h
  | [],_=>rfl
  | [_],_=>rfl
  | _::_::_::r,_=>rfl
 | _=>rfl
theorem NB{d:D}(h:IQ d=true):∃x y l,d=.tup [.str x,.str y,.int l]/\EA x/\EA y/\cs x<cs y/\1<=l/\l<=1000000:=by
 cases d with
 | tup xs =>
  match xs,h with
  | [a,b,c],h =>
   have h':((B5 a&&B5 b)&&((IJ a b==some true)&&HU c))=true:=h;simp only [UF] at h';obtain⟨x,rfl,hx⟩:=nameB_iff.mp h'.1.1;obtain⟨y,rfl,hy⟩:=nameB_iff.mp h'.1.2;have hlt:some (decide (cs x<cs y))=some true:=eq_of_beq h'.2.1;have hlt:cs x<cs y:=of_decide_eq_true (c_ hlt);cases c with
   | int l =>
    have hn:(decide (1<=l)&&decide (l<=1000000))=true:=h'.2.2;rw [UF,decide_eq_true_eq,decide_eq_true_eq] at hn;exact⟨x,y,l,rfl,hx,hy,hlt,hn.1,hn.2⟩
   | _=>cases h'.2.2
  | [],h=>cases h
  | [_],h=>cases h
  | [_,_],h=>cases h
  | _::_::_::_::r,h=>cases h
 | _=>cases h
end
mutual
def Fi(B:Nat):D->Prop
 | .int i=>i.natAbs<=B
 | .str x=>∀c∈cs x,c<1114112
 | .tup ds=>Hd B ds
 | .lst ds=>Hd B ds
 | .dic _ _=>False
 | .fdi _ _=>False
 | .dit _ _=>False
 | _=>True
def Hd(B:Nat):List D->Prop
 | []=>True
 | d::ds=>Fi B d/\Hd B ds
end
mutual
def P9:D->Nat
 | .int _=>200
 | .str x=>x.length
 | .tup ds=>Lp ds
 | .lst ds=>Lp ds
 | _=>0
def Lp:List D->Nat
 | []=>0
 | d::ds=>P9 d+1+Lp ds
end
mutual
def Qk:D->Nat
 | .tup ds=>Hk ds+1
 | .lst ds=>Hk ds+1
 | _=>0
def Hk:List D->Nat
 | []=>0
 | d::ds=>max (Qk d) (Hk ds)
end
theorem fines_iff{B:Nat}:∀{ds:List D},Hd B ds↔∀d∈ds,Fi B d
 | []=>⟨(λ_ d h=>by cases h),λ_=>trivial⟩
 | d::ds=>by
  have ih:=@fines_iff B ds;constructor
  ·rintro ⟨h1,h2⟩ e he
   rcases T0.mp he with rfl | he
   ·exact h1
   ·exact ih.mp h2 e he
  ·exact λh=>⟨h d On,ih.mpr λe he=>h e (Rs _ he)⟩
theorem dps_le{k:Nat}:∀{ds:List D},Hk ds<=k↔∀d∈ds,Qk d<=k
 | []=>⟨(λ_ d h=>by cases h),λ_=>dD _⟩
 | d::ds=>by
  have ih:=@dps_le k ds;show max (Qk d) (Hk ds)<=k↔_;rw [Nat.max_le,ih];constructor
  ·rintro ⟨h1,h2⟩ e he
   rcases T0.mp he with rfl | he
   ·exact h1
   ·exact h2 e he
  ·exact λh=>⟨h d On,λe he=>h e (Rs _ he)⟩
theorem Q_:∀(xs:List D),xs.length<=Lp xs
 | []=>dD _
 | d::xs=>by
  have:=Q_ xs
  show xs.length+1<=P9 d+1+Lp xs;omega
theorem MZ{B C:Nat}(h:B<=C):∀(n:Nat),(∀d:D,sizeOf d<=n->Fi B d->Fi C d)/\∀ds:List D,sizeOf ds<=n->Hd B ds->Hd C ds:=by
 intro n
 induction n with
 | zero =>
  refine⟨λd hd _=>?_,λds hd _=>?_⟩
  ·cases d <;> simp at hd
  ·cases ds <;> simp at hd
 | succ n ih =>
  refine⟨λd hd hf=>?_,λds hd hf=>?_⟩
  ·cases d with
   | int i=>exact de (show i.natAbs<=B from hf) h
   | str x=>exact hf
   | tup ds=>exact ih.2 ds (by simp at hd; omega) hf
   | lst ds=>exact ih.2 ds (by simp at hd; omega) hf
   | dic ks ds=>exact(show False from hf).elim
   | fdi ks ds=>exact(show False from hf).elim
   | dit ks ds=>exact(show False from hf).elim
   | non=>trivial
   | bl b=>trivial
  ·cases ds with
   | nil=>trivial
   | cons d ds=>exact⟨ih.1 d (by simp at hd; omega) hf.1,ih.2 ds (by simp at hd; omega) hf.2⟩
mutual
theorem Nx{B:Nat}(hB:B<10 ^ 45):∀{d:D},Fi B d->GV d=true/\(toPy d).showable=true/\(toPy d).canLay0=true/\(toPy d).depth=Qk d/\(toPy d).leavesShort 60=true/\(toPy d).weight<=P9 d
 | .non,_=>⟨rfl,rfl,rfl,rfl,rfl,Sc _⟩
 | .bl b,_=>⟨rfl,rfl,rfl,rfl,rfl,Sc _⟩
 | .int i,h=>by
  have h':i.natAbs<=B:=h;have hlt:i.natAbs<10 ^ 45:=Nat.lt_of_le_of_lt h' hB;have h2:i.natAbs<2 ^ 150:=ja hlt (by decide)
  have hl:i.natAbs.log2<150:=by
   by_cases h0:i.natAbs=0
   ·rw [h0]; decide
   ·exact(Nat.log2_lt h0).mpr h2
  refine⟨rfl,?_,rfl,rfl,?_,?_⟩
  ·show decide (i.natAbs.log2<1920)=true
   exact decide_eq_true (by omega)
  ·show decide ((jd (.int i)).length<=60)=true
   refine decide_eq_true ?_
   have:=int_text_length_le10 (a:=i) (k:=45) (by decide) hlt
   show (eE (toString i)).length<=60;rw [PySem.ofString_length];omega
  ·show (if i==0 then 0 else i.natAbs.log2+1)<=200
   split <;> omega
 | .str x,h=>by
  have h':∀c∈cs x,c<1114112:=h;refine⟨rfl,rfl,Oe h',rfl,?_,Sc _⟩;show (x.cps.toList.all λc=>decide (c<16 ^ 8))=true;rw [dU];intro c hc;exact decide_eq_true (ja (h' c hc) (by decide))
 | .tup ds,h=>by
  obtain⟨h1,h2,h3,h4,h5,h6⟩:=LF hB (ds:=ds) h;refine⟨h1,h2,h3,?_,h5,h6⟩;show eO (A6 ds)+1=Hk ds+1;rw [h4]
 | .lst ds,h=>by
  obtain⟨h1,h2,h3,h4,h5,h6⟩:=LF hB (ds:=ds) h;refine⟨h1,h2,h3,?_,h5,h6⟩;show eO (A6 ds)+1=Hk ds+1;rw [h4]
 | .dic ks ds,h=>(show False from h).elim
 | .fdi ks ds,h=>(show False from h).elim
 | .dit ks ds,h=>(show False from h).elim
theorem LF{B:Nat}(hB:B<10 ^ 45):∀{ds:List D},Hd B ds->Cu ds=true/\PyData.showableAll (A6 ds)=true/\fF (A6 ds)=true/\eO (A6 ds)=Hk ds/\j6 60 (A6 ds)=true/\PyData.weightAll (A6 ds)<=Lp ds
 | [],_=>⟨rfl,rfl,rfl,rfl,rfl,Sc _⟩
 | d::ds,h=>by
  obtain⟨h1,h2,h3,h4,h5,h6⟩:=Nx hB (d:=d) h.1;obtain⟨g1,g2,g3,g4,g5,g6⟩:=LF hB (ds:=ds) h.2;refine⟨?_,?_,?_,?_,?_,?_⟩
  ·show (GV d&&Cu ds)=true
   rw [h1,g1]; rfl
  ·show ((toPy d).showable&&PyData.showableAll (A6 ds))=true
   rw [h2,g2]; rfl
  ·show ((toPy d).canLay0&&fF (A6 ds))=true
   rw [h3,g3]; rfl
  ·show max (toPy d).depth (eO (A6 ds))=max (Qk d) (Hk ds)
   rw [h4,g4]
  ·show ((toPy d).leavesShort 60&&j6 60 (A6 ds))=true
   rw [h5,g5]; rfl
  ·show (toPy d).weight+1+PyData.weightAll (A6 ds)<=P9 d+1+Lp ds
   omega
end
theorem HJ{B:Nat}{d:D}(hB:B<10 ^ 45)(h:Fi B d)(hd:Qk d<=100)(hs:P9 d<=200000):Kc d:=by
 obtain⟨h1,h2,h3,h4,h5,h6⟩:=Nx hB h;refine⟨h1,h2,by rw [h4]; exact hd,?_⟩
 have:=PyData.shown_le 60 (by decide) (toPy d) h5
 rw [PySem.sizeLine_eq]
 have:62*(toPy d).weight<=62*200000:=Nat.mul_le_mul_left _ (by omega)
 omega
theorem CU{B:Nat}{d:D}(hB:B<10 ^ 45)(h:Fi B d)(hd:Qk d<=100):Ci d:=by
 obtain⟨h1,h2,h3,h4,h5,h6⟩:=Nx hB h;exact⟨h1,h3,by rw [h4]; exact hd⟩
theorem TX(i:Int):∀c∈cs (eE (toString i)),c<1114112:=by
 intro c hc
 by_cases h:c=45\/(48<=c/\c<=57)
 ·omega
 ·exact absurd hc (int_text_free' c (by omega) i)
theorem ZL(xs:List D)(a:Nat):Dp.cutD xs none (some (a:Int))=xs.take (min a xs.length):=by
 unfold Dp.cutD;rw [HT.sIx_none,HT.sIx_nat,jz,jc]
def Jv(a b:Int):D->Bool
 | .int i=>decide (a<=i)&&decide (i<=b)
 | _=>false
def PK(ps:List Str)(d:D):Bool:=IQ d&&EW ps d
abbrev IF:W2:=λss n P=>∃d a b,ss=[.sh d,.sh (.int a),.sh (.int b)]/\P (.bl (Jv a b d)) n
abbrev R_:W2:=λss n P=>∃(ps:List Str) (d:D),ss=[.sh (.tup (ps.map .str)),.sh d]/\(∀p∈ps,EA p)/\P (.bl (PK ps d)) n
def OE:Ai:=(Aq (HF (Ey "int" (AB 0)) (HF (X4 (Ey "bool" (AB 0))) (KL N0 N0 (AB 1) (AB 0) (AB 2)))))
def Lc:Ai:=(Ac (BA (Cp (Bh (AU (Ey "str" (AB 0)))) (Bh (AU (KL Dw Dw (wC (D.int 0)) (CF D7 (AG (AB 0) AW)) (wC (D.int 9)))))) (Aq (wC (D.bl false))) Ar)
 (Aq (CF LI (AG (BU [none] (BF (AB 0)) (Ad 0) Bm (AS (Zi λi j P=>P (D.bl (!(eR j i 0 j.length 1).isEmpty))) (AB 0) (wC (D.str "abcdefghijklmnopqrstuvwxyz")))) AW))))
def MI:Ai:=(Ac (BA (Cp (Bh (AU (Ey "tuple" (AB 1)))) (Cp (AU (AS (G6 true) (CF D7 (AG (AB 1) AW)) (wC (D.int 3)))) (Bh (AU (AY IF (AD (AL (AS Ax (AB 1) (wC (D.int 2)))) (AD (AL (wC (D.int 1))) (AD (AL (AS (OO Jm λi j=>D.int (i ^ j.toNat)) (wC (D.int 10)) (wC (D.int 6)))) AZ)))))))) (Aq (wC (D.bl false))) Ar)
 (Ac (BA (Cp (Bh (AU (AY Mz (AD (AL (AS Ax (AB 1) (wC (D.int 0)))) AZ)))) (Bh (AU (AY Mz (AD (AL (AS Ax (AB 1) (wC (D.int 1)))) AZ))))) (Aq (wC (D.bl false))) Ar)
 (Aq (HF (AS (DF false) (AS Ax (AB 1) (wC (D.int 0))) (AB 0)) (HF (AS (DF false) (AS Ax (AB 1) (wC (D.int 1))) (AB 0)) (AS Dw (AS Ax (AB 1) (wC (D.int 0))) (AS Ax (AB 1) (wC (D.int 1)))))))))
def Pw:Ai:=(Aq (AS (DF true) (wC (D.bl false)) (BU [some 0,none] (Eb (AG (AS Hf (CF D7 (AG (AB 0) AW)) (wC (D.int 1))) AW)) (Ad 1) Bm (AS Dw (AS Ax (AB 0) (AB 1)) (AS Ax (AB 0) (AS A7 (AB 1) (wC (D.int 1))))))))
def MJ:Ai:=(Ac (BA (Cp (Bh (AU (Ey "tuple" (AB 0)))) (Cp (AU (AS (G6 true) (CF D7 (AG (AB 0) AW)) (wC (D.int 2)))) (Bh (AU (Ey "tuple" (AS Ax (AB 0) (wC (D.int 0)))))))) (Aq (wC (D.bl false))) Ar)
 (Ac (BA (Cp (Bh (AU (Ey "tuple" (AS Ax (AB 0) (wC (D.int 1)))))) (Cp (AU (AS (f2 λi j=>D.bl (decide (j<i))) (CF D7 (AG (AS Ax (AB 0) (wC (D.int 0))) AW)) (wC (D.int 24)))) (AU (AS (f2 λi j=>D.bl (decide (j<i))) (CF D7 (AG (AS Ax (AB 0) (wC (D.int 1))) AW)) (wC (D.int 60)))))) (Aq (wC (D.bl false))) Ar)
 (Ac (BA (Cp (AU (AS (DF false) (wC (D.bl false)) (BU [none] (BF (AS Ax (AB 0) (wC (D.int 0)))) (Ad 0) Bm (AY Mz (AD (AL (AB 0)) AZ))))) (Bh (AU (AY DU (AD (AL (AS Ax (AB 0) (wC (D.int 0)))) AZ))))) (Aq (wC (D.bl false))) Ar)
 (Ac (BA (AU (AS (DF false) (wC (D.bl false)) (BU [some 0,none] (BF (AS Ax (AB 0) (wC (D.int 1)))) (Ad 1) Bm (AY R_ (AD (AL (AS Ax (AB 0) (wC (D.int 0)))) (AD (AL (AB 1)) AZ)))))) (Aq (wC (D.bl false))) Ar)
 (Aq (AY DU (AD (AL (BU [none] (BF (AS Ax (AB 0) (wC (D.int 1)))) (Ad 0) Bm (Py Fj (AB 0) CL (CY (wC (D.int 2)))))) AZ)))))))
theorem TL{α:Type}(p:α->Bool)(l:List α):Cu (l.map λa=>D.bl (p a))=true/\fF (A6 (l.map λa=>D.bl (p a)))=true/\eO (A6 (l.map λa=>D.bl (p a)))=0:=by
 induction l with
 | nil=>exact⟨rfl,rfl,rfl⟩
 | cons a r ih =>
  obtain⟨h1,h2,h3⟩:=ih;refine⟨by rw [dA,Cu,h1]; rfl,by rw [dA,A6,fF,h2,iM]; rfl,?_⟩;rw [dA,A6,eO,h3];rfl
theorem ZA(b:Bool):GF (.bl b) (.bl false)=!b:=by cases b <;> rfl
theorem ZQ{α:Type}(p:α->Bool)(l:List α):((l.map λa=>D.bl (p a)).any λy=>GF y (.bl false))=!(l.all p):=by
 induction l with
 | nil=>rfl
 | cons a r ih=>rw [dA,jF,fY,ih,ZA,Bool.not_and]
theorem C8{α:Type}{p:α->Bool}{l:List α}{neg:Bool}{P:D->Prop}(h:P (.bl (if neg then l.all p else !(l.all p)))):DF neg (.bl false) (.lst (l.map λa=>.bl (p a))) P:=by
 obtain⟨h1,h2,h3⟩:=TL p l;refine⟨⟨rfl,rfl,dD _⟩,⟨h1,h2,?_⟩,_,rfl,?_⟩
 ·show eO (A6 (l.map λa=>D.bl (p a)))+1<=100
  rw [h3]; decide
 ·rw [ZQ,Bool.not_not]
  exact h
theorem PP(c:Nat):(!(eR letters ⟨#[c]⟩ 0 letters.length 1).isEmpty)=(decide (97<=c)&&decide (c<=122)):=by
 rw [PySem.StrLaws.found_one letters c]
 by_cases h:97<=c/\c<=122
 ·obtain⟨h1,h2⟩:=h
  rw [decide_eq_true h1,decide_eq_true h2]
  have:∀c<123,97<=c->letters.cps.toList.contains c=true:=by decide +kernel
  have:=this c (by omega) h1
  first | exact this | simpa using this
 ·rw [show (decide (97<=c)&&decide (c<=122))=false by rw [Bool.and_eq_false_iff,decide_eq_false_iff_not,decide_eq_false_iff_not]; omega]
  have hall:∀x∈letters.cps.toList,97<=x/\x<=122:=by decide +kernel
  have:letters.cps.toList.contains c=false:=by
   rw [fX];intro hc;exact h (hall c (List.contains_iff_mem.mp hc))
  first | exact this | simpa using this
theorem U9(qs:List Str)(ts:List D):ts.all (PK qs)=(ts.all IQ&&ts.all (EW qs)):=by
 unfold PK
 induction ts with
 | nil=>rfl
 | cons t r ih=>rw [fY,fY,fY,ih]; cases IQ t <;> cases EW qs t <;> cases r.all IQ <;> rfl
theorem Mr:∀xs:List D,((dW (xs.length - 1)).all λi=>IJ (xs.getD i .non) (xs.getD (i+1) .non)==some true)=Lf xs
 | []=>rfl
 | [x]=>rfl
 | x::y::r=>by
  have ih:=Mr (y::r);show ((dW (r.length+1)).all _)=((IJ x y==some true)&&Lf (y::r));rw [ju,fY,g_,← ih];rfl
section
variable {ss:List Slot}{n:Nat}{Pd:D->Nat->Prop}
theorem NS(h:IF ss n Pd):OE (EE Pd) n (ss++XV 0 .no):=by
 obtain⟨d,a,b,rfl,q⟩:=h;cases d with
 | int i=>exact Iq (k:=λP=>P (.bl _) n) (λ_ h=>h) q
 | _=>exact q
theorem Km(h0:Mz ss n Pd):Lc (EE Pd) n (ss++XV 0 .no):=by
 obtain⟨d,rfl,h⟩:=h0.out;clear h0;cases d with
 | str x =>
  have h':Pd (.bl ((decide (1<=x.length)&&decide (x.length<=8))&&(cs x).all λc=>decide (97<=c)&&decide (c<=122))) n:=h;refine⟨_,_,rfl,rfl,?_⟩;show (match (.bl (decide ((0:Int)<(x.length:Int))):D) with | .bl true=>_ | .bl false=>_ | _=>False)
  by_cases h1:1<=x.length
  ·have i1:decide ((0:Int)<(x.length:Int))=true:=decide_eq_true (by omega)
   rw [i1];show (if (!decide ((x.length:Int)<9))=true then _ else _)
   by_cases h2:x.length<=8
   ·have i2:decide ((x.length:Int)<9)=true:=decide_eq_true (by omega)
    rw [decide_eq_true h1,decide_eq_true h2,fP,fP] at h';rw [i2];refine BV ⟨by rw [SU]; omega,?_⟩;refine Av (λd=>match d with | .str z=>.bl (!(eR letters z 0 letters.length 1).isEmpty) | _=>.non) (λρ=>∃s,ρ=[s]) _ _ _ _ ?_ ⟨_,rfl⟩ ?_
    ·rintro d hd ρ m nx ⟨s,rfl⟩ hnx
     obtain⟨c,hc,rfl⟩:=Re.mp hd;exact hnx _ ⟨_,rfl⟩
    ·rw [dE]
     unfold Dp.signs;rw [eF];show LI [.lst (x.cps.toList.map λc=>.bl (!(eR letters ⟨#[c]⟩ 0 letters.length 1).isEmpty))] λz=>Pd z n;refine Hg (p:=λc=>!(eR letters ⟨#[c]⟩ 0 letters.length 1).isEmpty) ?_;rw [show (λc=>!(eR letters ⟨#[c]⟩ 0 letters.length 1).isEmpty)=λc=>decide (97<=c)&&decide (c<=122) from funext PP];exact h'
   ·have i2:decide ((x.length:Int)<9)=false:=decide_eq_false (by omega)
    rw [decide_eq_true h1,decide_eq_false h2,iz,gJ] at h';rw [i2];exact B3 h'
  ·have i1:decide ((0:Int)<(x.length:Int))=false:=decide_eq_false (by omega)
   rw [decide_eq_false h1,gJ,gJ] at h';rw [i1];exact B3 h'
 | _=>exact h
theorem Oo(h:DU ss n Pd):Pw (EE Pd) n (ss++XV 0 .no):=by
 obtain⟨d,xs,rfl,hd,hl,hlt,h⟩:=h
 have go:((Cd 0 ((xs.length:Int) - 1).toNat).length<=10000000)/\Cr (Ad 1) Bm (AS Dw (AS Ax (AB 0) (AB 1)) (AS Ax (AB 0) (AS A7 (AB 1) (wC (D.int 1))))) (λacc n2=>DF true (.bl false) (.lst acc) λz=>Pd z n2) (Cd 0 ((xs.length:Int) - 1).toNat) [] n [.sh d,.no]:=by
  refine⟨by rw [Br]; omega,?_⟩;refine Av (λe=>.bl (match e with | .int i=>IJ (xs.getD i.toNat .non) (xs.getD (i.toNat+1) .non)==some true | _=>false)) (λρ=>∃s,ρ=[.sh d,s]) _ _ _ _ ?_ ⟨_,rfl⟩ ?_
  ·rintro z hz ρ m nx ⟨s,rfl⟩ hnx
   obtain⟨k,hk,rfl⟩:=HK hz;have e0:(0+(k:Int))=(k:Int):=by omega
   have k1:k<xs.length:=by omega
   have k2:k+1<xs.length:=by omega
   have hnx':nx (.bl (IJ xs[k] xs[k+1]==some true)) m [.sh d,.sh (.int (0+(k:Int)))]:=by
    have:=hnx [.sh d,.sh (.int (0+(k:Int)))] ⟨_,rfl⟩
    rw [e0] at this ⊢;show nx (.bl _) m _;have t:nx (.bl (IJ (xs.getD k .non) (xs.getD (k+1) .non)==some true)) m [.sh d,.sh (.int (k:Int))]:=this;rw [dI,dI,FM k1,FM k2] at t;exact t
   obtain⟨r,hr⟩:=hlt _ (eZ k1) _ (eZ k2);have a1:atI xs (0+(k:Int))=some xs[k]:=by rw [e0]; exact AH (FM k1)
   have a2:atI xs (0+(k:Int)+1)=some xs[k+1]:=by rw [e0,show ((k:Int)+1)=((k+1:Nat):Int) by omega]; exact AH (FM k2)
   have fin:Dw xs[k] xs[k+1] λy=>nx y m [.sh d,.sh (.int (0+(k:Int)))]:=by
    refine Rk hr ?_;rw [hr] at hnx';cases r <;> exact hnx'
   cases d with
   | lst ys=>cases hd; exact⟨_,a1,_,a2,fin⟩
   | tup ys=>cases hd; exact⟨_,a1,_,a2,fin⟩
   | _=>cases hd
  ·rw [dE]
   refine C8 (p:=fun(e:D)=>match e with | .int i=>IJ (xs.getD i.toNat .non) (xs.getD (i.toNat+1) .non)==some true | _=>false) ?_;show Pd (.bl ((Cd 0 ((xs.length:Int) - 1).toNat).all _)) n;unfold Cd;rw [g_,show ((xs.length:Int) - 1).toNat=xs.length - 1 by omega]
   have e:((fun(e:D)=>match e with | .int i=>IJ (xs.getD i.toNat .non) (xs.getD (i.toNat+1) .non)==some true | _=>false)∘fun(i:Nat)=>D.int (0+(i:Int)))=λi=>IJ (xs.getD i .non) (xs.getD (i+1) .non)==some true:=by
    funext i
    show (IJ (xs.getD (0+(i:Int)).toNat .non) (xs.getD ((0+(i:Int)).toNat+1) .non)==some true)=_;rw [show (0+(i:Int)).toNat=i by omega]
   rw [e,Mr];exact h
 cases d with
 | lst ys=>cases hd; exact⟨_,_,rfl,rfl,_,rfl,⟨by omega,by omega⟩,go⟩
 | tup ys=>cases hd; exact⟨_,_,rfl,rfl,_,rfl,⟨by omega,by omega⟩,go⟩
 | _=>cases hd
theorem L3(h0:R_ ss n Pd):MI (EE Pd) n (ss++XV 0 .no):=by
 obtain⟨ps,d,rfl,hps,h⟩:=h0;cases d with
 | tup xs =>
  refine⟨_,_,rfl,rfl,?_⟩;show if (!((xs.length:Int)==3))=true then _ else _
  cases h3:((xs.length:Int)==3) with
  | false =>
   have h':Pd (.bl (IQ (.tup xs)&&EW ps (.tup xs))) n:=h;rw [bh (d:=.tup xs) h3] at h';exact B3 h'
  | true =>
   obtain⟨a,b,c,e⟩:=bT (d:=.tup xs) h3;cases e;have h':Pd (.bl (((B5 a&&B5 b)&&((IJ a b==some true)&&HU c))&&EW ps (.tup [a,b,c]))) n:=h;refine BV ⟨_,rfl,(⟨by decide,by decide,by decide⟩:Jm 10 6),c,1,_,rfl,?_⟩;show if (!Jv 1 ((10:Int) ^ (6:Int).toNat) c)=true then _ else _
   have ec:Jv 1 ((10:Int) ^ (6:Int).toNat) c=HU c:=by cases c <;> rfl
   rw [ec];cases hc:HU c with
   | false =>
    rw [hc] at h';simp only [iz,gJ] at h';exact B3 h'
   | true =>
    rw [hc] at h';refine BV ⟨_,rfl,[a],rfl,rfl,?_⟩;show if (!B5 a)=true then _ else _
    cases ha:B5 a with
    | false=>rw [ha] at h'; exact B3 h'
    | true =>
     refine BV ⟨_,rfl,[b],rfl,rfl,?_⟩;show if (!B5 b)=true then _ else _
     cases hb:B5 b with
     | false=>rw [ha,hb] at h'; exact B3 h'
     | true =>
      rw [ha,hb] at h';obtain⟨x,rfl,hx⟩:=nameB_iff.mp ha;obtain⟨y,rfl,hy⟩:=nameB_iff.mp hb;rw [Jw] at h'
      have h2:Pd (.bl (decide (cs x<cs y)&&(ps.any (·==x)&&ps.any (·==y)))) n:=by
       cases hd:decide (cs x<cs y) with
       | false=>rw [hd] at h'; exact h'
       | true=>rw [hd] at h'; exact h'
      rw [Bool.and_comm,Bool.and_assoc] at h2;have e1:∀x:Str,((ps.map D.str).any λz=>GF z (.str x))=ps.any (·==x):=λx=>by rw [kN]; rfl
      rw [← e1,← e1] at h2;refine BV ⟨_,rfl,Fe hx,Cz hps,_,rfl,?_⟩;refine Iq (b1:=(ps.map D.str).any λz=>GF z (.str x)) (b2:=((ps.map D.str).any λz=>GF z (.str y))&&decide (cs x<cs y)) (P:=Pd) (n:=n) (k:=λP=>_) (λ_ hp=>⟨_,rfl,Fe hy,Cz hps,_,rfl,?_⟩) h2;exact Iq (b1:=(ps.map D.str).any λz=>GF z (.str y)) (b2:=decide (cs x<cs y)) (P:=Pd) (n:=n) (k:=λP=>_) (λ_ hp=>⟨_,rfl,_,rfl,hp⟩) hp
 | _=>exact h
theorem L4(h0:R8 ss n Pd):MJ (EE Pd) n (ss++XV 0 .no):=by
 obtain⟨d,rfl,h⟩:=h0.out;clear h0;cases d with
 | tup xs =>
  refine⟨_,_,rfl,rfl,?_⟩;show if (!((xs.length:Int)==2))=true then _ else _
  cases h2:((xs.length:Int)==2) with
  | false =>
   rw [aP (d:=.tup xs) h2] at h;exact B3 h
  | true =>
   obtain⟨p,t,e⟩:=X9 (d:=.tup xs) h2;cases e;have h':Pd (.bl (Jt p&&P5 p t)) n:=h;refine BV ⟨_,rfl,?_⟩;cases p with
   | tup ps =>
    refine⟨_,rfl,?_⟩;cases t with
    | tup ts =>
     have h':Pd (.bl ((decide (ps.length<=24)&&(ps.all B5&&Lf ps))&&(decide (ts.length<=60)&&(ts.all IQ&&(ts.all (EW (strsOf ps))&&Lf (ts.map Fk)))))) n:=h;refine⟨_,rfl,_,_,rfl,rfl,?_⟩;show if decide ((24:Int)<(ps.length:Int))=true then _ else _
     by_cases hl:ps.length<=24
     ·rw [decide_eq_true hl,fP] at h'
      rw [decide_eq_false (show ¬(24:Int)<(ps.length:Int) by omega)];refine BV ⟨_,rfl,_,_,rfl,rfl,?_⟩;show if decide ((60:Int)<(ts.length:Int))=true then _ else _
      by_cases hk:ts.length<=60
      ·rw [decide_eq_true hk,fP] at h'
       rw [decide_eq_false (show ¬(60:Int)<(ts.length:Int) by omega)];refine BV ⟨_,rfl,by show ps.length<=10000000; omega,?_⟩;refine Av (λd=>.bl (B5 d)) (λρ=>∃s,ρ=[s]) _ _ _ _ ?_ ⟨_,rfl⟩ ?_
       ·rintro d hd ρ m nx ⟨s,rfl⟩ hnx
        exact⟨[d],rfl,rfl,hnx _ ⟨_,rfl⟩⟩
       rw [dE];refine C8 ?_;show if (!ps.all B5)=true then _ else _
       cases hn:ps.all B5 with
       | false=>rw [hn] at h'; exact B3 h'
       | true =>
        rw [hn,fP] at h';obtain⟨qs,rfl,hqs⟩:=PC hn;rw [DZ] at h';refine BV ⟨_,rfl,_,_,rfl,rfl,by omega,λx hx y hy=>?_,?_⟩
        ·obtain⟨p,_,rfl⟩:=Re.mp hx
         obtain⟨q,_,rfl⟩:=Re.mp hy;exact⟨_,Jw p q⟩
        show if (!Lf (qs.map .str))=true then _ else _
        cases ha:Lf (qs.map .str) with
        | false=>rw [ha] at h'; exact B3 h'
        | true =>
         rw [ha,fP] at h';refine BV ⟨_,rfl,by show ts.length<=10000000; omega,?_⟩;refine Av (λd=>.bl (PK qs d)) (λρ=>∃s,ρ=[.sh (.tup [.tup (qs.map .str),.tup ts]),s]) _ _ _ _ ?_ ⟨_,rfl⟩ ?_
         ·rintro d hd ρ m nx ⟨s,rfl⟩ hnx
          exact⟨_,rfl,qs,d,rfl,hqs,hnx _ ⟨_,rfl⟩⟩
         rw [dE];refine C8 ?_;show if (!ts.all (PK qs))=true then _ else _
         rw [U9];rw [← Bool.and_assoc] at h';cases he:(ts.all IQ&&ts.all (EW qs)) with
         | false=>rw [he] at h'; exact B3 h'
         | true =>
          rw [he,fP] at h';rw [UF] at he;have hties:∀t∈ts,IQ t=true:=dU.mp he.1;refine BV ⟨_,rfl,by show ts.length<=10000000; omega,?_⟩;refine Av Fk (λρ=>∃s,ρ=[s]) _ _ _ _ ?_ ⟨_,rfl⟩ ?_
          ·rintro d hd ρ m nx ⟨s,rfl⟩ hnx
           obtain⟨x,y,l,rfl,hx,hy,_⟩:=NB (hties d hd);exact hnx _ ⟨_,rfl⟩
          rw [dE];refine⟨_,_,rfl,rfl,by rw [Go]; omega,λx hx y hy=>?_,h'⟩;obtain⟨t,htm,rfl⟩:=Re.mp hx;obtain⟨u,hum,rfl⟩:=Re.mp hy;obtain⟨x1,y1,l1,rfl,_⟩:=NB (hties t htm);obtain⟨x2,y2,l2,rfl,_⟩:=NB (hties u hum);exact⟨_,rfl⟩
      ·rw [decide_eq_false hk,gJ,iz] at h'
       rw [decide_eq_true (show (60:Int)<(ts.length:Int) by omega)];exact B3 h'
     ·rw [decide_eq_false hl,gJ] at h'
      rw [decide_eq_true (show (24:Int)<(ps.length:Int) by omega)];exact B3 h'
    | _=>have h2:Pd (.bl (Jt (.tup ps)&&false)) n:=h'; rw [iz] at h2; exact h2
   | _=>exact h'
 | _=>exact h
end
def item(d:D):Prop:=Fi 1000001 d/\P9 d<=450/\Qk d<=1
theorem NC{k:Nat}:∀{ds:List D},(∀d∈ds,P9 d+1<=k)->Lp ds<=k*ds.length
 | [],_=>dD _
 | d::ds,h=>by
  have h1:=h d On;have h2:=NC (ds:=ds) λe he=>h e (Rs _ he);show P9 d+1+Lp ds<=k*(ds.length+1);rw [Nat.mul_succ]; omega
theorem He{B:Nat}{xs:List D}(h:∀d∈xs,Fi B d):Fi B (.tup xs):=fines_iff.mpr h
theorem item_str{x:Str}(h1:x.length<=8)(h2:∀c∈cs x,c<1114112):item (.str x):=⟨h2,by show x.length<=450; omega,dD _⟩
theorem Cb{x:Str}(h:EA x):item (.str x):=item_str h.2.1 λc hc=>by have:=h.2.2 c hc; omega
theorem PV{a b:Str}{l:Int}(ha:item (.str a))(hb:item (.str b))(la:a.length<=8)(lb:b.length<=8)(hl:l.natAbs<=1000001):item (.tup [.str a,.str b,.int l]):=by
 refine⟨He λd hd=>?_,?_,?_⟩
 ·simp only [T0,dB,or_false] at hd
  rcases hd with rfl | rfl | rfl
  ·exact ha.1
  ·exact hb.1
  ·exact hl
 ·show a.length+1+(b.length+1+(200+1+0))<=450
  omega
 ·show max 0 (max 0 (max 0 0))+1<=1
  decide
theorem K8{N:Net}(ok:N.Ok):∀d∈N.ts.map Aj,item d:=λd hd=>by
 obtain⟨t,ht,rfl⟩:=Re.mp hd;obtain⟨h1,h2,_,h3,h4⟩:=ok.tin t ht;have n1:=ok.names _ h1;have n2:=ok.names _ h2;exact PV (Cb n1) (Cb n2) n1.2.1 n2.2.1 (by omega)
theorem Wh{N:Net}(ok:N.Ok):∀d∈N.ps.map D.str,item d:=λd hd=>by
 obtain⟨x,hx,rfl⟩:=Re.mp hd;exact Cb (ok.names x hx)
theorem X8{xs ys:List D}(hx:∀d∈xs,item d)(hy:∀d∈ys,item d)(lx:xs.length<=26)(ly:ys.length<=80):Fi 1000001 (.tup [.tup xs,.tup ys])/\P9 (.tup [.tup xs,.tup ys])<=48000/\Qk (.tup [.tup xs,.tup ys])<=3:=by
 have s1:=NC (k:=451) λd hd=>iN (hx d hd).2.1;have s2:=NC (k:=451) λd hd=>iN (hy d hd).2.1;have d1:Hk xs<=1:=dps_le.mpr λd hd=>(hx d hd).2.2;have d2:Hk ys<=1:=dps_le.mpr λd hd=>(hy d hd).2.2;refine⟨He λd hd=>?_,?_,?_⟩
 ·simp only [T0,dB,or_false] at hd
  rcases hd with rfl | rfl
  ·exact He λd hd=>(hx d hd).1
  ·exact He λd hd=>(hy d hd).1
 ·show Lp xs+1+(Lp ys+1+0)<=48000
  omega
 ·show max (Hk xs+1) (max (Hk ys+1) 0)+1<=3
  omega
theorem Vo{p:D->Prop}{xs:List D}(h:∀d∈xs,p d){o:Int}(h0:0<=o)(h1:o<(xs.length:Int)):∃z,atI xs o=some z/\p z:=by
 obtain⟨k,rfl⟩:∃k:Nat,o=(k:Int):=⟨o.toNat,by omega⟩;have hk:k<xs.length:=by omega
 exact⟨xs[k],AH (FM hk),h _ (eZ hk)⟩
theorem Le:∀{xs:List D},xs.Pairwise (λa b=>IJ a b=some true)->Lf xs=true
 | [],_=>rfl
 | [x],_=>rfl
 | x::y::r,h=>by
  rw [eA] at h;show ((IJ x y==some true)&&Lf (y::r))=true;rw [h.1 y On,Le h.2];rfl
theorem Ba(x:Str):¬cs x<cs x:=fE _
theorem U6{N:Net}(ok:N.Ok)(l1:N.ps.length<=24)(l2:N.ts.length<=60):QY (enc N)=true:=by
 show ((decide ((N.ps.map D.str).length<=24)&&((N.ps.map D.str).all B5&&Lf (N.ps.map D.str)))&&(decide ((N.ts.map Aj).length<=60)&&((N.ts.map Aj).all IQ&&((N.ts.map Aj).all (EW (strsOf (N.ps.map D.str)))&&Lf ((N.ts.map Aj).map Fk)))))=true;rw [DZ,Go,Go,decide_eq_true l1,decide_eq_true l2];simp only [fP,UF,dU];refine⟨⟨λd hd=>?_,Le ?_⟩,λd hd=>?_,λd hd=>?_,Le ?_⟩
 ·obtain⟨x,hx,rfl⟩:=Re.mp hd
  exact nameB_iff.mpr ⟨x,rfl,ok.names x hx⟩
 ·rw [fW]
  refine ok.rise.imp λ{a b} h=>?_;rw [Jw,decide_eq_true h]
 ·obtain⟨t,ht,rfl⟩:=Re.mp hd
  obtain⟨h1,h2,h3,h4,h5⟩:=ok.tin t ht;show ((B5 (.str t.a)&&B5 (.str t.b))&&((IJ (.str t.a) (.str t.b)==some true)&&(decide (1<=t.len)&&decide (t.len<=1000000))))=true;rw [nameB_iff.mpr ⟨_,rfl,ok.names _ h1⟩,nameB_iff.mpr ⟨_,rfl,ok.names _ h2⟩,Jw,decide_eq_true h3,decide_eq_true h4,decide_eq_true h5];rfl
 ·obtain⟨t,ht,rfl⟩:=Re.mp hd
  obtain⟨h1,h2,_⟩:=ok.tin t ht;show (N.ps.any (·==t.a)&&N.ps.any (·==t.b))=true;rw [UF,ef,ef];exact⟨⟨_,h1,beq_self_eq_true _⟩,⟨_,h2,beq_self_eq_true _⟩⟩
 ·rw [eF,fW]
  refine ok.trise.imp λ{s t} h=>?_;show (if (true&&(true&&true))=true then some (Eg [.inr s.a,.inr s.b] [.inr t.a,.inr t.b]) else none)=some true;rw [if_pos (show (true&&(true&&true))=true from rfl)]
  congr 1
  show (if (eh s.a:Key)=.inr t.a then (if (eh s.b:Key)=.inr t.b then false else decide (cs s.b<cs t.b)) else decide (cs s.a<cs t.a))=true
  rcases h with h | ⟨h,h'⟩
  ·rw [if_neg (λe=>Ba s.a (by rw [eK e] at h ⊢; exact h)),decide_eq_true h]
  ·rw [if_pos (by rw [h]),if_neg (λe=>Ba s.b (by rw [eK e] at h' ⊢; exact h')),decide_eq_true h']
theorem z2:2<=sizeLine:=by decide
theorem z3:3<=sizeLine:=by decide
theorem z0:0<=sizeLine:=dD _
theorem cA:Jm 10 6:=⟨by decide,by decide,by decide⟩
end Nt
namespace L2
section
variable {X:Cx}{tg elt iter:Expr}{ifs:List Expr}{sc:Scope}{pos spos pos':Pos}{N':List Str}{js:List (Option Nat)}{wi:TI}{i:Nat}{x:Str}
theorem WJ(hc:X.calm=true)(N':List Str)(js:List (Option Nat))(hi:PI X tg iter wi)
  (hB:JI sc X.env.scope X.N N' js=true) (hN:X.N.Nodup) (hix:X.N[i]?=some x) (hx:Loc X.env.scope x)
  (hsw:swapsWith (.ListComp elt [⟨tg,iter,ifs,0⟩] sc pos) (some (.Name x pos')) spos.line X.env=pure true)
  (hs:∀x,foldedSetIterable iter X.env x=pure x:=by intro _; rfl)
  (hf:X.fn x=true\/X.env.scope.names.lookup x=some .local:=by first | exact .inl rfl | exact .inr rfl | assumption) :
  PS X (.Assign [.Name x pos'] (.ListComp elt [⟨tg,iter,ifs,0⟩] sc pos) spos) (Ob (UJ X sc N' js tg elt ifs wi) (JB i)):=by
 intro zG s Z H D I h;have O:CompOk X sc N' js:=CompOk.of hB;obtain⟨cl,hclos,hcl,hcl2⟩:=LS (scope:=sc) (env:=X.env) λx hx=>I.ok.has x (O.free x hx);rw [exec_Assign_Name_used _ _ _ _ hsw];refine Db (jC (Db ?_));show wpAny _ _ (do let _ ← comprehension (.ListComp elt [⟨tg,iter,ifs,0⟩] sc pos) sc X.env _ (newList []) false (eval iter X.env) (some (assign (.Name x pos') X.env))) _ _ s
 refine Db (eU (wpAny_comprehension_free (Q:=λ_ s'=>SP X zG D .next s') (use:=some (assign (.Name x pos') X.env)) rfl hs hclos O.kind O.names (thn (hi zG s Z H _ I h) λv s1 h1=>thn h1 λitv s2 h2=>?_))
  (λ_ s' hq=>TW (TW hq)) λ_ _ e=>e)
 obtain⟨it,fp,tn,J,H2,e,I2,T,st2,f2,hq⟩:=h2;subst e
 have kfree:X.K.lookup s2.heap.objs.size=none:=by
  cases q:X.K.lookup s2.heap.objs.size with
  | none=>rfl
  | some o=>exact absurd (ZB (I2.kIn _ _ q)) (d9 _)
 obtain⟨g,tt,te,W,hg,ht,he,⟨m0,w0⟩,hW⟩:=hq s2.heap.objs.size (I2.hok.fresh (Sc _)) kfree cl (s2.heap.objs.size+1) s2 H2 fp;refine eS (wpAny_newFunctionEnv O.cell (by intro y hy; simp at hy) (λh₁ hns₁ hsb₁=>?_) O.kind)
 dsimp only at hns₁ hsb₁ ⊢
 generalize hH2:s2.heap.push { cls:=.type "list",dict:=none,data:=.seq ([]:List Ev).toArray }=Hh at hns₁ hsb₁ ⊢;have hCe:Hh.objs.size=s2.heap.objs.size+1:=by rw [← hH2,fh]
 have hlt:∀b∈fp,b<s2.heap.objs.size:=λb hb=>by
  obtain⟨o,e,_⟩:=T.obj _ _ st2 b hb;exact ZB e
 have old:∀b o,s2.heap.get? b=some o->h₁.get? b=some o:=λb o e=>hsb₁.extBut b o (by rw [hCe]; exact dJ (fV (ZB e))) (No _ (hH2▸No _ e));have hD:∃n,h₁.get? s2.heap.objs.size=some { cls:=.type "list",data:=.seq #[] n }:=⟨_,hsb₁.extBut _ _ (by rw [hCe]; exact dJ (jb _)) (No _ (hH2▸c7 _ rfl))⟩
 have I3:∀tk,Inv (BD X sc N' cl (s2.heap.objs.size+1) s2 H2 fp) [] (Cv js Z) (BK H2 s2.heap.objs.size (.lst [])) { s2 with heap:=h₁,toks:=tk }:=λtk =>
  PZ I2 hc O hcl hcl2 f2 (λb hb=>let ⟨o,e,_⟩:=T.obj _ _ st2 b hb; ⟨o,e⟩) (by rw [← hCe]; exact hns₁) old hD
 have st3:tn 0 h₁:=T.keep _ _ _ st2 λb hb o e=>old b o e
 have fr3:∀b∈fp,BK H2 s2.heap.objs.size (.lst []) b=none:=λb hb=>by
  rw [Aa (dJ (hlt b hb))];exact(f2 b hb).1
 have loop:∀tk,codeAny (model X.prog X.w) X.A (.compLoop (.ListComp elt [⟨tg,iter,ifs,0⟩] sc pos) 0 (.ref it) (.ref s2.heap.objs.size) (compEnvC sc cl (s2.heap.objs.size+1) X.env))
   (compPost (model X.prog X.w) X.A X.xe (some (assign (.Name x pos') X.env)) (λ_ s'=>SP X zG D .next s') (.ref s2.heap.objs.size) (s2.heap.objs.size+1)) { s2 with heap:=h₁,toks:=tk }:=λtk=>by
  refine Me (W:=W) (m0:=m0) (Q:=λv H1=>JB i v Z H1 λzN H2=>D.nx zN H2) I2 f2 hlt (fO _) T hg ht he hW (λzZ H' s' J' q'=>?_) (I3 tk) st3 fr3 w0;obtain⟨m,hn,_⟩:=J'.loc;have hCn:H' (s2.heap.objs.size+1)=none:=J'.free;have I4:Inv X zG Z H' s':=LA (h':=s'.heap) I2 f2 (fO _) J' λb _=>rfl;obtain⟨g1,g2,g3,g4,g5,g6⟩:=I2.fpOk (b:=s2.heap.objs.size+1) (fO _) hCn;show wpAny (model X.prog X.w) X.A (assign (.Name x pos') X.env (.ref s2.heap.objs.size)) (λ_ s''=>∃m,s''.heap.Ns (s2.heap.objs.size+1) m/\∀h',g8 (s2.heap.objs.size+1) s''.heap h'->SP X zG D .next { s'' with heap:=h' }) X.xe s';refine wpAny_assign_Name (MO (v:=.ref s2.heap.objs.size) I4 hN hix hx rfl (λs5 I5 ⟨a,hsame,ha⟩=>?_) hf)
  have na:s2.heap.objs.size+1≠a:=by
   rcases ha with rfl | ha
   ·exact g2
   ·exact λz=>g5 _ _ ha z.symm
  refine⟨m,hn.sameBut hsame na,λh' hs'=>?_⟩;exact⟨_,H',I5.turned (t':=s5.toks) (it:=s2.heap.objs.size+1) (λb o hb e=>hs'.extBut b o hb e) hCn g2 g4 g5 g6,q'⟩
 rw [show (newEnv sc Hh.objs.size X.env.globals cl X.env.qual none .none (some X.env) builtinsNs).locals=s2.heap.objs.size+1 from hCe];show codeAny (model X.prog X.w) X.A (.compStart (.ListComp elt [⟨tg,iter,ifs,0⟩] sc pos) 0 (.ref it) (.ref s2.heap.objs.size) (compEnvC sc cl (s2.heap.objs.size+1) X.env)) _ _;exact codeAny_compStart_list (loop _) (T.self _ 0 _ _ _ st3 (loop _))
end
end L2
namespace Dp
open L2
section
variable {X:Cx}{zP:Kd}{tg elt iter:Expr}{ifs:List Expr}{sc:Scope}{pos:Pos}{src:Ex}{b:BW}{tt:JR}{te:DW}
theorem Vl(hc:X.calm=true)(N':List Str)(js:List (Option Nat))(hi:Zg X tg iter src)(hg:∀cl C s H fp,DG (BD X sc N' cl C s H fp) tg b)(ht:∀cl C s H fp,Zn (BD X sc N' cl C s H fp) ifs tt)(he:∀cl C s H fp,DE (BD X sc N' cl C s H fp) elt zP te)
  (hB:JI sc X.env.scope X.N N' js=true) (hk:zP≠.tp:=by intro z; cases z)
  (hs:∀x,foldedSetIterable iter X.env x=pure x:=by intro _; rfl):∃wi,PI X tg iter wi/\∀(C:Fm) (M:Ch->Prop) (H:Hp) (n:Nat) (ρ:List Slot) (Z:L2.St) (P:D->Nat->Prop) (Q:VK),Rel X.K C M H n ρ Z->BU js src b tt te n ρ P ->
   (∀v H' d n',Ext C.U H H'->FeedC X.K C.F M H' n'->VR X.K C.V M H H' .fr v d->P d n'->Q v H')->UJ X sc N' js tg elt ifs wi Z H Q:=by
 obtain⟨wi,a1,a2⟩:=hi;refine⟨wi,a1,λC M H n ρ Z P Q R w q=>?_⟩;refine a2 C M H n ρ Z _ _ R w λJ H1 ds n1 e1 f1 y w1=>?_;obtain⟨hlen,w1⟩:=w1;have R1:=R.step e1 f1;intro l hl hkl cl Ca s0 H0 fp;obtain⟨g,g1,g2⟩:=hg cl Ca s0 H0 fp;obtain⟨tc,c1,c2⟩:=ht cl Ca s0 H0 fp;obtain⟨tx,x1,x2⟩:=he cl Ca s0 H0 fp
 have noU:¬C.U l:=λz=>by
  obtain⟨o,z⟩:=R1.udom l z;rw [hl] at z; cases z
 generalize hM':(λb=>M b\/b=l)=M';have M'l:M' l:=by rw [← hM']; exact .inr rfl
 have M'of:∀b,M b->M' b:=λb z=>by rw [← hM']; exact .inl z
 have ofM':∀b,M' b->M b\/b=l:=λb z=>by rw [← hM'] at z; exact z
 have inV:∀b,C.V b\/b=l->M' b:=λb z=>z.elim (λz=>M'of b (R1.vM b z)) λz=>by rw [z]; exact M'l
 have lenj:js.length=N'.length:=Fl (CompOk.of hB).cap
 refine⟨g,tc,tx,λi m zZ H'=>m=ds.length - i/\i<=ds.length/\∃n' zY acc vs,Rel X.K ⟨M',C.F,C.U,λb=>C.V b\/b=l,H1,[],[]⟩ M' H' n' zY zZ/\H' l=some (.lst vs)/\Ats X.K M' H' acc vs/\acc.length<=i/\Pres M H1 M' H' /\
   Cr b tt te (λacc n2=>P (.lst acc) n2) (ds.drop i) acc n' zY,g1,c1,x1,⟨ds.length,by simp,dD _,n1,HW js ρ,[],[],?_⟩,?_⟩
 ·have gr:Grow H1 (BK H1 l (.lst [])):=BH hl
  have pr:Pres M H1 M' (BK H1 l (.lst [])):=⟨λb o e _=>gr.all b o e,λb z=>(ofM' b z).elim .inl λz=>.inr (by rw [z]; exact hl),λb vs e=>gr.all b _ e⟩;refine⟨⟨?_,λa z=>z,λa z=>?_,gr.ext,R1.fU,λa z=>.inl (R1.uV a z),inV,f1.pres pr λf o _ e=>gr.all f.1 o e,?_,λp hp=>absurd hp (by simp),λi d a q z=>RQ R1.sl q z,λi s a q o _=>absurd o (by rw [FC q]; decide),λi j s t a q o _ _ _ _=>absurd o (by rw [FC q]; decide),λp hp=>absurd hp (by simp)⟩,Ap,rfl,dD _,pr,w1⟩
  ·unfold HW Cv
   rw [Go,Go]
  ·rcases ofM' a z with z | z
   ·obtain⟨o,z⟩:=R1.dom a z
    exact⟨o,gr.all a o z⟩
   ·subst z
    exact⟨_,Ap⟩
  ·refine PN R1.sl pr λd v h=>h.same pr (λa o _ e=>gr.all a o e) λa e n1 z=>z.elim n1 λz=>?_
   subst e;obtain⟨o,w⟩:=h.lies;rw [z,hl] at w;cases w
 ·rintro i m zZ H' ⟨rfl,hi,n',zY,acc,vs,R',hlv,hac,hal,pr,w'⟩
  by_cases hlt:i<ds.length
  ·have ed:ds.drop i=ds[i]::ds.drop (i+1):=e7 hlt
   rw [ed] at w';obtain⟨go,yl⟩:=(y i M' H' pr R'.ext R'.dom).1 ds[i] (FM hlt);refine .inr ⟨go,λx H2 hy=>?_⟩;obtain⟨gr,hx⟩:=yl x H2 hy;have R2':=R'.step gr.ext (R'.feed.grow gr);refine g2 _ M' H2 n' zY zZ ds[i] x _ _ R2' hx w' λzQ zV R3 w3=>?_;refine c2 _ M' H2 n' zQ zV _ _ R3 w3 λc H4 n4 e4 f4 w4=>?_;have R4:=R3.step e4 f4;have p4:Pres M' H' M' H4:=gr.pres.trans (R3.pres e4);have l4:H4 l=some (.lst vs):=e4.keep (gr.all _ _ hlv) noU;cases c with
   | false=>exact⟨ds.length - (i+1),by omega,rfl,hlt,n4,zQ,acc,vs,R4,l4,hac.pres p4,by omega,pr.trans p4,w4⟩
   | true =>
    refine x2 _ M' H4 n4 zQ zV _ _ R4 w4 λyv H5 d5 n5 e5 f5 r5 w5=>?_;have R5:=R4.step e5 f5;have p5:Pres M' H4 M' H5:=R4.pres e5;have l5:H5 l=some (.lst vs):=e5.keep l4 noU;have hy5:=r5.shOf R4.dom hk;have a5:=(hac.pres p4).pres p5;have pu:Pres M' H5 M' (BK H5 l (.lst (vs++[yv]))):=GB M'l l5;have hvl:vs.length=acc.length:=hac.length;refine⟨vs,l5,by rw [d7]; omega,ds.length - (i+1),by omega,rfl,hlt,n5,zQ,acc++[d5],vs++[yv],?_,Ap,(a5.append (Ats.one hy5)).pres pu,by rw [c9,dR]; omega,(pr.trans p4).trans (p5.trans pu),w5⟩;refine⟨R5.len,R5.sub,λa z=>?_,λb o e=>?_,R5.fU,R5.uV,R5.vM,?_,λj s hs=>?_,λp hp=>absurd hp (by simp),R5.br0,R5.new,R5.two,λp hp=>absurd hp (by simp)⟩
    ·by_cases ha:a=l
     ·subst ha; exact⟨_,Ap⟩
     ·rw [Aa ha]; exact R5.dom a z
    ·obtain⟨o',q1,q2⟩:=R5.ext b o e
     by_cases hb:b=l
     ·subst hb
      have e':H1 b=some o:=e;rw [hl] at e'; cases e'
     ·exact⟨o',by rw [Aa hb]; exact q1,q2⟩
    ·refine f5.pres pu λf o hf e=>?_
     rw [Aa (λz=>noU (by rw [← z]; exact R1.fU f hf))];exact e
    ·have hs5:=R5.sl j s hs
     cases s with
     | no=>trivial
     | sh d=>obtain⟨v,e1,h2⟩:=hs5; exact⟨v,e1,h2.pres pu⟩
     | ex a nm ks ds=>obtain⟨e1,h2⟩:=hs5; exact⟨e1,h2.pres pu⟩
     | br d =>
      obtain⟨v,e1,h2⟩:=hs5;refine⟨v,e1,h2.same pu (λa o z e=>?_) λ_ _ z=>z⟩;subst z;obtain⟨o3,w⟩:=R5.br0 j d a hs e1
      have hal:a≠l:=λz=>by
       have w':H1 a=some o3:=w;rw [z,hl] at w'; cases w'
      rw [Aa hal]; exact e
     | ow d =>
      obtain⟨a,e1,h2,_⟩:=hs5;exact absurd h2 (R5.new j _ a hs rfl e1).1
     | lt a d =>
      obtain⟨e1,h2,_⟩:=hs5;exact absurd h2 (R5.new j _ a hs rfl e1).1
     | fd=>exact hs5
  ·have e:i=ds.length:=by omega
   subst e;rw [gl] at w';refine .inl ⟨(y _ M' H' pr R'.ext R'.dom).2 (Sc _),?_⟩;have eb:Ext C.U H1 H':=R'.ext;have less:Pres M' H' M H':=Pres.less M'of;refine q _ H' (.lst acc) n' (e1.trans eb) (R'.feed.pres less λ_ _ _ z=>z) (VR.back e1 ?_) w';exact⟨l,rfl,hl,vs,hlv,by rw [hM']; exact hac⟩
theorem Wu{κ:Kd}{i:Nat}{x:Str}{pos' spos:Pos}(hN:X.N.Nodup)(hix:X.N[i]?=some x)(hx:Loc X.env.scope x)(hc:X.calm=true)(N':List Str)(js:List (Option Nat))(hi:Zg X tg iter src)(hg:∀cl C s H fp,DG (BD X sc N' cl C s H fp) tg b)(ht:∀cl C s H fp,Zn (BD X sc N' cl C s H fp) ifs tt)(he:∀cl C s H fp,DE (BD X sc N' cl C s H fp) elt zP te)
  (hB:JI sc X.env.scope X.N N' js=true) (hsw:swapsWith (.ListComp elt [⟨tg,iter,ifs,0⟩] sc pos) (some (.Name x pos')) spos.line X.env=pure true:=by rfl) (hk:zP≠.tp:=by intro z; cases z)
  (hs:∀x,foldedSetIterable iter X.env x=pure x:=by intro _; rfl)
  (hf:X.fn x=true\/X.env.scope.names.lookup x=some .local:=by first | exact .inl rfl | exact .inr rfl | assumption):DS X κ (.Assign [.Name x pos'] (.ListComp elt [⟨tg,iter,ifs,0⟩] sc pos) spos) (A0 i (BU js src b tt te)):=by
 obtain⟨wi,a1,a2⟩:=Vl hc N' js hi hg ht he hB hk hs;refine⟨_,WJ hc N' js a1 hB hN hix hx hsw hs hf,λC M H n ρ Z D2 E R L w=>?_⟩;refine a2 C M H n ρ Z _ _ R w λv H' d n' e1 f1 r1 p=>?_;exact L.nx M H' n' _ _ ((R.step e1 f1).set (r1.shOf R.dom (by intro z; cases z))) p
end
end Dp
namespace L2
def aI:R2:=λy x H Q=>∃a o,x=.ref a/\DGet H a y o/\Q (.bl o.isSome) H
def XX:R2:=λy x H Q=>∃a o,x=.ref a/\DGet H a y o/\Q (.bl (!o.isSome)) H
def XY:R2:=λx y H Q=>∃a v,x=.ref a/\DGet H a y (some v)/\Q v H
theorem U1{X:Cx}{k:Nat}(hr:Room k X.A):OpR X (compareOp .In) aI:=by
 intro zG s Z H y x iv u Q I ry rx ⟨a,ov,ex,g,q⟩;subst ex;obtain rfl:u=dn a:=rx;exact b_ (LB hr) I g ry λs3 I3=>⟨.bl ov.isSome,H,I3,rfl,q⟩
theorem GA{X:Cx}{k:Nat}(hr:Room k X.A):OpR X (compareOp .NotIn) XX:=by
 intro zG s Z H y x iv u Q I ry rx ⟨a,ov,ex,g,q⟩;subst ex;obtain rfl:u=dn a:=rx;exact W9 (LB hr) I g ry λs3 I3=>⟨.bl (!ov.isSome),H,I3,rfl,q⟩
end L2
namespace Dp
open L2
def BN:List Key->List D->Key->Option D
 | k0::ks,d::ds,k=>if k0=k then some d else BN ks ds k
 | _,_,_=>none
section
variable {K:Frag}{X:Cx}
theorem HH{M:Ch->Prop}{H:Hp}{k:Key}:∀{ks:List Key} {ds:List D} {vs:List V},Ats K M H ds vs ->
  match BN ks ds k with
  | some z=>∃v,DQ (ks.zip vs) k=some v/\At K M H z v
  | none=>DQ (ks.zip vs) k=none
 | [],ds,vs,h=>by unfold BN; exact rfl
 | k0::ks,[],vs,h=>by cases h; exact rfl
 | k0::ks,d::ds,vs,h=>by
  obtain⟨v,r,rfl,h1,h2⟩:=h;have ih:=HH (k:=k) (ks:=ks) h2;unfold BN
  by_cases e:k0=k
  ·rw [if_pos e]
   refine⟨v,?_,h1⟩;show DQ ((k0,v)::ks.zip r) k=some v;rw [FP e]
  ·rw [if_neg e]
   have:DQ ((k0,v)::ks.zip r) k=DQ (ks.zip r) k:=FQ e
   rw [show (k0::ks).zip (v::r)=(k0,v)::ks.zip r from rfl,this];exact ih
def keyOf:D->Option Key
 | .int i=>some (.inl i)
 | .str x=>some (.inr x)
 | _=>none
theorem C7{U M:Ch->Prop}{H:Hp}{d:D}{v:V}{k:Key}(e:keyOf d=some k)(h:AtT K U M H d v):v=kV k:=by
 cases d with
 | int i=>cases e; exact h
 | str x=>cases e; exact h.str.1
 | _=>cases e
def LN:D->Option (List Key×List D)
 | .dic ks ds=>some (ks,ds)
 | .fdi ks ds=>some (ks,ds)
 | _=>none
theorem LM{U M:Ch->Prop}{H:Hp}{d:D}{x:V}{ks:List Key}{ds:List D}(e:LN d=some (ks,ds))(h:AtT K U M H d x):∃a vs,x=.ref a/\Rd H a (.dK (ks.zip vs))/\Ats K M H ds vs:=by
 cases d with
 | dic k2 d2=>cases e; obtain⟨a,vs,rfl,_,ha,_,hs⟩:=h; exact⟨a,vs,rfl,.inl ha,hs⟩
 | fdi k2 d2=>cases e; obtain⟨a,vs,rfl,⟨o,_,ha⟩,_,hs⟩:=h; exact⟨a,vs,rfl,.inr ⟨o,ha⟩,hs⟩
 | _=>cases e
theorem J1{H:Hp}{a:Ch}{kvs:List (Key×V)}{k:Key}(e:Rd H a (.dK kvs)):DGet H a (kV k) (DQ kvs k):=.inl ⟨kvs,k,e,rfl,rfl⟩
def Jk(neg:Bool)(e d:D)(P:D->Prop):Prop:=∃ks ds k,LN d=some (ks,ds)/\keyOf e=some k/\P (.bl (if neg then !(BN ks ds k).isSome else (BN ks ds k).isSome))
def CH(d e:D)(P:D->Prop):Prop:=∃ks ds k z,LN d=some (ks,ds)/\keyOf e=some k/\BN ks ds k=some z/\P z
theorem Xu:FH K .sh aI (Jk false):=λU M H e d y x P Q dom vM hy hx w q=>by
 obtain⟨ks,ds,k,hd,he,w⟩:=w;obtain⟨a,vs,rfl,ha,hs⟩:=LM hd hx;refine⟨a,DQ (ks.zip vs) k,rfl,by rw [C7 he hy]; exact J1 ha,q _ H (.bl _) .refl rfl ?_⟩;have h:=HH (k:=k) (ks:=ks) hs;cases c:BN ks ds k with
 | none=>rw [c] at h w; rw [show DQ (ks.zip vs) k=none from h]; exact w
 | some z=>rw [c] at h w; obtain⟨v,h1,_⟩:=h; rw [h1]; exact w
theorem IA:FH K .sh XX (Jk true):=λU M H e d y x P Q dom vM hy hx w q=>by
 obtain⟨ks,ds,k,hd,he,w⟩:=w;obtain⟨a,vs,rfl,ha,hs⟩:=LM hd hx;refine⟨a,DQ (ks.zip vs) k,rfl,by rw [C7 he hy]; exact J1 ha,q _ H (.bl _) .refl rfl ?_⟩;have h:=HH (k:=k) (ks:=ks) hs;cases c:BN ks ds k with
 | none=>rw [c] at h w; rw [show DQ (ks.zip vs) k=none from h]; exact w
 | some z=>rw [c] at h w; obtain⟨v,h1,_⟩:=h; rw [h1]; exact w
theorem ZU:FH K .sh XY CH:=λU M H d e x y P Q dom vM hx hy w q=>by
 obtain⟨ks,ds,k,z,hd,he,hz,w⟩:=w;obtain⟨a,vs,rfl,ha,hs⟩:=LM hd hx;have h:=HH (k:=k) (ks:=ks) hs;rw [hz] at h;obtain⟨v,h1,h2⟩:=h;exact⟨a,v,rfl,by rw [C7 he hy,← h1]; exact J1 ha,q v H z .refl h2 w⟩
variable {a b:Expr}{zT zO:Kd}{wa wb:DW}{pos:Pos}
theorem CQ{k:Nat}(hr:Room k X.A)(ha:DE X a zT wa)(hb:DE X b zO wb)(hs:Za b:=by intro _ _; rfl):DE X (.Subscript a b pos) .sh (AS CH wa wb):=by
 obtain⟨ta,ha1,ha2⟩:=ha;obtain⟨tb,hb1,hb2⟩:=hb;exact⟨EZ XY ta tb,Nc (LB hr) ha1 hb1 hs,λC M H n ρ Z P Q R w q=>Fn ZU ha2 hb2 C M H n ρ Z P Q R w q⟩
end
def T_(i:Nat)(w:DW):Ai:=λD2 n ρ=>∃a:Int,ρ[i]?=some (.sh (.int a))/\w n ρ λd n1=>∃b:Int,d=.int b/\D2.nx n1 (ρ.set i (.sh (.int (a+b))))
theorem Ww{X:Cx}{κ zP:Kd}{e:dO}{wa:DW}{pos:Pos}{i:Nat}{x:Str}{pos':Pos}(hN:X.N.Nodup)(hi:X.N[i]?=some x)(hx:Loc X.env.scope x)(he:DE X e zP wa)
  (hf:X.fn x=true\/X.env.scope.names.lookup x=some .local:=by first | exact .inl rfl | exact .inr rfl | assumption):DS X κ (.AugAssign (.Name x pos') .Add e pos) (T_ i wa):=by
 obtain⟨t,a1,a2⟩:=he;refine⟨_,YV hN hi hx a1 Y2 hf,λC M H n ρ Z D2 E R L w=>?_⟩;obtain⟨a,ha,w⟩:=w;obtain⟨v,e1,h1⟩:=R.sl i _ ha;cases (show v=.int a from h1);refine⟨_,getD_some e1,a2 C M H n ρ Z _ _ R w λv H' d n' e1 f1 r1 p=>?_⟩;obtain⟨b,rfl,p⟩:=p;exact⟨a,b,rfl,Qh r1,L.nx M H' n' _ _ ((R.step e1 f1).set (d:=.int (a+b)) rfl) p⟩
end Dp
namespace So
open PySem.W
section
variable {O:KeyOrd}{key:Nat->O.α}{N:Nat}{cmp:Nat->Nat->(Bool->Shared->Prop)->Shared->Prop}{s:Shared}{p p0:Array Nat}
def KN(O:KeyOrd)(key:Nat->O.α)(p:Array Nat)(i:Nat):O.α:=key (p.getD i 0)
def Srt(O:KeyOrd)(key:Nat->O.α)(p:Array Nat)(k:Nat):Prop:=∀i j,i<=j->j<k->O.kle (KN O key p i) (KN O key p j)
def a_(O:KeyOrd)(key:Nat->O.α)(p:Array Nat)(k:Nat):Prop:=∀i j,i<=j->j<k->O.kle (KN O key p j) (KN O key p i)
def Xz(O:KeyOrd)(key:Nat->O.α)(N:Nat)(cmp:Nat->Nat->(Bool->Op->Prop)->Op->Prop)(s:Op):Prop:=∀(i j:Nat) (C:Bool->Op->Prop),i<N->j<N->C (O.blt (key i) (key j)) s->cmp i j C s
def Bd(N:Nat)(p:Array Nat):Prop:=0<N/\∀x∈p,x<N
theorem Nw(p:Array Nat)(i:Nat):p.getD i 0=(p[i]?).getD 0:=by
 simp
theorem Bd.get(h:Bd N p)(i:Nat):p.getD i 0<N:=by
 rw [Nw];cases e:p[i]? with
 | none=>exact h.1
 | some x=>exact h.2 x (Array.mem_of_getElem? e)
theorem Bd.perm{p':Array Nat}(h:Bd N p)(hp:p'.Perm p):Bd N p':=⟨h.1,λx hx=>h.2 x (hp.mem_iff.mp hx)⟩
theorem F9{p q:Array Nat}{i j:Nat}(h:p[i]?=q[j]?):KN O key p i=KN O key q j:=by
 unfold KN;rw [Nw,Nw,h]
theorem M6{src d:Nat}(hs:src<p.size)(hd:d<=src)(k:Nat) :
  KN O key (bubble p src d) k=if k=src - d then KN O key p src else if src - d<k/\k<=src then KN O key p (k - 1) else KN O key p k:=by
 have e:=getElem?_bubble hs d hd k
 by_cases h1:k=src - d
 ·rw [if_pos h1] at e ⊢; exact F9 e
 ·rw [if_neg h1] at e ⊢
  by_cases h2:src - d<k/\k<=src
  ·rw [if_pos h2] at e ⊢; exact F9 e
  ·rw [if_neg h2] at e ⊢; exact F9 e
theorem Iy{i j:Nat}(hj:j<=p.size)(k:Nat):KN O key (kas_rev p i j) k=if i<=k/\k<j then KN O key p (i+j - 1 - k) else KN O key p k:=by
 have e:=getElem?_mirror_all (i:=i) hj k;unfold kas_rev
 by_cases h1:i<=k/\k<j
 ·rw [if_pos h1] at e ⊢; exact F9 e
 ·rw [if_neg h1] at e ⊢; exact F9 e
theorem Bv{i j:Nat}(hj:j<=p.size)(heq:∀k,i<=k->k<j->KN O key p k=KN O key p (j - 1))(k:Nat):KN O key (kas_rev p i j) k=KN O key p k:=by
 rw [Iy hj]
 split
 ·rw [heq _ (by omega) (by omega),heq k (by omega) (by omega)]
 ·rfl
theorem Cg(p:Array Nat)(i j:Nat):(kas_rev p i j).Perm p:=mirror_perm _ _ _ _
theorem yes{α:Type}{T₁ T₂:KasT α}{Q:α->Op->Prop}(h:T₁.kasWp cmp Q s):(if true=true then T₁ else T₂).kasWp cmp Q s:=by rw [if_pos rfl]; exact h
theorem no{α:Type}{T₁ T₂:KasT α}{Q:α->Op->Prop}(h:T₂.kasWp cmp Q s):(if false=true then T₁ else T₂).kasWp cmp Q s:=by rw [if_neg (by simp)]; exact h
theorem Qu(hC:Xz O key N cmp s)(hb:Bd N p){nrem:Nat}{G:Nat->Op->Prop}:∀(f n:Nat),1<=n->n+f=nrem->Srt O key p n ->
  (∀m,n<=m->m<=nrem->Srt O key p m->(m=nrem\/O.klt (KN O key p m) (KN O key p (m - 1)))->G m s)->(kas_asc p f n).kasWp cmp G s
 | 0,n,_,e,hs,h=>h n (Sc _) (by omega) hs (.inl (by omega))
 | f+1,n,h1,e,hs,h=>by
  show cmp (p.getD n 0) (p.getD (n - 1) 0) (λc s'=>(if c=true then KasT.ret n else kas_asc p f (n+1)).kasWp cmp G s') s;refine hC _ _ _ (hb.get n) (hb.get _) ?_;cases hless:O.blt (key (p.getD n 0)) (key (p.getD (n - 1) 0)) with
  | true=>exact yes (h n (Sc _) (by omega) hs (.inr hless))
  | false =>
   refine no (Qu hC hb f (n+1) (by omega) (by omega) (λi j hij hj=>?_) λm m1 m2 m3 m4=>h m (by omega) m2 m3 m4)
   by_cases hjx:j<n
   ·exact hs i j hij hjx
   ·have hj':j=n:=by omega
    subst hj'
    by_cases hi':i=j
    ·subst hi'; exact fI _
    ·exact iO (hs i (j - 1) (by omega) (by omega)) hless
theorem J3(hC:Xz O key N cmp s){nrem:Nat}{G:Array Nat×Nat×Nat->Op->Prop}:∀(f:Nat) (p:Array Nat) (n q:Nat),p.Perm p0->Bd N p->nrem<=p.size->1<=n->n+f=nrem->a_ O key p n->q+1<=n ->
  (∀i,n - (q+1)<=i->i<n->KN O key p i=KN O key p (n - 1)) ->
  (∀p' m q',p'.Perm p0->Bd N p'->p'.size=p.size->n<=m->m<=nrem->a_ O key p' m->q'+1<=m->(∀i,m - (q'+1)<=i->i<m->KN O key p' i=KN O key p' (m - 1))->G (p',m,q') s)->(kas_desc f p n q).kasWp cmp G s
 | 0,p,n,q,hp,hb,hz,h1,e,hs,hq,he,h=>h p n q hp hb rfl (Sc _) (by omega) hs hq he
 | f+1,p,n,q,hp,hb,hz,h1,e,hs,hq,he,h=>by
  show cmp (p.getD n 0) (p.getD (n - 1) 0) (λc s'=>(if c=true then (if q > 0 then kas_desc f (kas_rev p (n - (q+1)) n) (n+1) 0 else kas_desc f p (n+1) 0)
   else .ask (p.getD (n - 1) 0) (p.getD n 0) λd=>if d=true then .ret (p,n,q) else kas_desc f p (n+1) (q+1)).kasWp cmp G s') s
  refine hC _ _ _ (hb.get n) (hb.get _) ?_;cases hless:O.blt (key (p.getD n 0)) (key (p.getD (n - 1) 0)) with
  | true =>
   have hl:O.klt (KN O key p n) (KN O key p (n - 1)):=hless
   have step1:∀xs:Array Nat,(∀k,KN O key xs k=KN O key p k)->a_ O key xs (n+1):=by
    intro xs hk i j hij hj;rw [hk,hk]
    by_cases hjx:j<n
    ·exact hs i j hij hjx
    ·have hj':j=n:=by omega
     subst hj'
     by_cases hi':i=j
     ·subst hi'; exact fI _
     ·exact iO (iF hl) (hs i (j - 1) (by omega) (by omega))
   refine yes ?_;have hsz:n<=p.size:=by omega
   by_cases hq0:q > 0
   ·rw [if_pos hq0]
    refine J3 hC f _ (n+1) 0 ((Cg _ _ _).trans hp) (hb.perm (Cg _ _ _)) (by rw [kas_rev_size]; exact hz) (by omega) (by omega) (step1 _ (Bv hsz he)) (by omega) (λi a b=>by congr 1; omega) λp' m q' a1 a2 a3 a4 a5 a6 a7 a8=>h p' m q' a1 a2 (a3.trans (kas_rev_size _ _)) (by omega) a5 a6 a7 a8
   ·rw [if_neg hq0]
    exact J3 hC f _ (n+1) 0 hp hb hz (by omega) (by omega) (step1 _ λ_=>rfl) (by omega) (λi a b=>by congr 1; omega) λp' m q' a1 a2 a3 a4 a5 a6 a7 a8=>h p' m q' a1 a2 a3 (by omega) a5 a6 a7 a8
  | false =>
   refine no ?_;show cmp (p.getD (n - 1) 0) (p.getD n 0) (λd s'=>(if d=true then KasT.ret (p,n,q) else kas_desc f p (n+1) (q+1)).kasWp cmp G s') s;refine hC _ _ _ (hb.get _) (hb.get n) ?_;cases hlarger:O.blt (key (p.getD (n - 1) 0)) (key (p.getD n 0)) with
   | true=>exact yes (h p n q hp hb rfl (Sc _) (by omega) hs hq he)
   | false =>
    have heqx:KN O key p n=KN O key p (n - 1):=kF (O:=O) hlarger hless;refine no (J3 hC f p (n+1) (q+1) hp hb hz (by omega) (by omega) (λi j hij hj=>?_) (by omega) (λi a b=>?_) λp' m q' a1 a2 a3 a4 a5 a6 a7 a8=>h p' m q' a1 a2 a3 (by omega) a5 a6 a7 a8)
    ·by_cases hjx:j<n
     ·exact hs i j hij hjx
     ·have hj':j=n:=by omega
      subst hj'
      by_cases hi':i=j
      ·subst hi'; exact fI _
      ·rw [heqx]; exact hs i (j - 1) (by omega) (by omega)
    ·rw [show n+1 - 1=n by omega]
     by_cases hix:i=n
     ·subst hix; rfl
     ·rw [heqx]; exact he i (by omega) (by omega)
theorem Oa(hC:Xz O key N cmp s){n nrem:Nat}{G:Nat×Array Nat->Op->Prop}(hp:p.Perm p0)(hb:Bd N p)(hz:nrem<=p.size)(h1:1<=n)(hn:n<=nrem)(hs:a_ O key p n)
  (h:∀m p',p'.Perm p0->Bd N p'->p'.size=p.size->1<=m->m<=nrem->Srt O key p' m->G (m,p') s):(kas_tail3 n nrem p).kasWp cmp G s:=by
 unfold kas_tail3;rw [KasT.kasWp_bind];have hsz:n<=p.size:=by omega
 refine Qu hC (hb.perm (Cg _ _ _)) (nrem - n) n h1 (by omega) (λi j hij hj=>?_) λm m1 m2 m3 _=>h m _ ((Cg _ _ _).trans hp) (hb.perm (Cg _ _ _)) (kas_rev_size _ _) (by omega) m2 m3;rw [Iy hsz,Iy hsz,if_pos (by omega),if_pos (by omega)];exact hs _ _ (by omega) (by omega)
theorem JF(hC:Xz O key N cmp s){n nrem:Nat}{G:Nat×Array Nat->Op->Prop}(hp:p.Perm p0)(hb:Bd N p)(hz:nrem<=p.size)(hn:n+1<=nrem)(hs:a_ O key p (n+1))
  (h:∀m p',p'.Perm p0->Bd N p'->p'.size=p.size->1<=m->m<=nrem->Srt O key p' m->G (m,p') s):(kas_descPart n nrem p).kasWp cmp G s:=by
 unfold kas_descPart;rw [KasT.kasWp_bind];refine J3 (p0:=p0) hC (nrem - (n+1)) p (n+1) 0 hp hb hz (by omega) (by omega) hs (by omega) (λi a b=>by congr 1; omega) λp' m q' a1 a2 a3 a4 a5 a6 a7 a8=>?_;have hsz:m<=p'.size:=by omega
 show (if q' > 0 then kas_tail3 m nrem (kas_rev p' (m - (q'+1)) m) else kas_tail3 m nrem p').kasWp cmp G s
 by_cases hq0:q' > 0
 ·rw [if_pos hq0]
  refine Oa hC ((Cg _ _ _).trans a1) (a2.perm (Cg _ _ _)) (by rw [kas_rev_size]; omega) (by omega) a5 (λi j hij hj=>?_) λm' p'' b1 b2 b3 b4 b5 b6=>h m' p'' b1 b2 (b3.trans ((kas_rev_size _ _).trans a3)) b4 b5 b6;rw [Bv hsz a8,Bv hsz a8];exact a6 i j hij hj
 ·rw [if_neg hq0]
  exact Oa hC a1 a2 (by omega) (by omega) a5 a6 λm' p'' b1 b2 b3 b4 b5 b6=>h m' p'' b1 b2 (b3.trans a3) b4 b5 b6
theorem Vk(hC:Xz O key N cmp s){nrem:Nat}{G:Nat×Array Nat->Op->Prop}(hp:p.Perm p0)(hb:Bd N p)(hz:nrem<=p.size)(h1:1<=nrem)
  (h:∀m p',p'.Perm p0->Bd N p'->p'.size=p.size->1<=m->m<=nrem->Srt O key p' m->G (m,p') s):(kas_count nrem p).kasWp cmp G s:=by
 unfold kas_count;rw [KasT.kasWp_bind];refine Qu (nrem:=nrem) hC hb (nrem - 1) 1 (Sc _) (by omega) (λi j hij hj=>by have:i=j:=(by omega); subst this; exact fI _) λn hn1 hn2 hsn hor=>?_
 by_cases hnn:n=nrem
 ·rw [if_pos (by simpa using hnn)]
  exact h n p hp hb rfl hn1 hn2 hsn
 ·rw [if_neg (by simpa using hnn)]
  have hlt:O.klt (KN O key p n) (KN O key p (n - 1)):=hor.resolve_left hnn
  by_cases hgt:n > 1
  ·rw [if_pos hgt]
   show cmp (p.getD 0 0) (p.getD (n - 1) 0) (λc s'=>(if c=true then KasT.ret (n,p) else kas_descPart n nrem (kas_rev p 0 n)).kasWp cmp G s') s;refine hC _ _ _ (hb.get _) (hb.get _) ?_;cases hrose:O.blt (key (p.getD 0 0)) (key (p.getD (n - 1) 0)) with
   | true=>exact yes (h n p hp hb rfl hn1 hn2 hsn)
   | false =>
    have hrose':O.kle (KN O key p (n - 1)) (KN O key p 0):=hrose;have hsz:n<=p.size:=by omega
    have hall:∀k,0<=k->k<n->KN O key p k=KN O key p (n - 1):=by
     intro k _ hk;have a1:=hsn 0 k (by omega) hk;have a2:=hsn k (n - 1) (by omega) (by omega);exact kF a2 (iO hrose' a1)
    refine no (JF hC ((Cg _ _ _).trans hp) (hb.perm (Cg _ _ _)) (by rw [kas_rev_size]; exact hz) (by omega) (λi j hij hj=>?_) λm' p'' b1 b2 b3 b4 b5 b6=>h m' p'' b1 b2 (b3.trans (kas_rev_size _ _)) b4 b5 b6);rw [Bv hsz hall,Bv hsz hall]
    by_cases hjn:j<n
    ·rw [hall i (by omega) (by omega),hall j (by omega) hjn]; exact fI _
    ·have hj':j=n:=by omega
     subst hj'
     by_cases hi':i=j
     ·subst hi'; exact fI _
     ·rw [hall i (by omega) (by omega)]; exact iF hlt
  ·rw [if_neg hgt]
   have hn1':n=1:=by omega
   subst hn1';refine JF hC hp hb hz (by omega) (λi j hij hj=>?_) h
   by_cases hi':i=j
   ·subst hi'; exact fI _
   ·have hi0:i=0:=by omega
    have hj1:j=1:=by omega
    subst hi0; subst hj1
    exact iF hlt
theorem Kr(hC:Xz O key N cmp s)(hb:Bd N p){k:Nat}(hs:Srt O key p k){G:Nat->Op->Prop}
  (h:∀l,l<=k->(∀i,i<l->O.kle (KN O key p i) (KN O key p k))->(∀i,l<=i->i<k->O.klt (KN O key p k) (KN O key p i))->G l s):∀(f l r:Nat),l<=r->r<=k->r - l<=f ->
  (∀i,i<l->O.kle (KN O key p i) (KN O key p k))->(∀i,r<=i->i<k->O.klt (KN O key p k) (KN O key p i))->(kas_place p k f l r).kasWp cmp G s
 | 0,l,r,hlr,hrk,hm,hlo,hhi=>by
  have:l=r:=by omega
  subst this;exact h l hrk hlo hhi
 | f+1,l,r,hlr,hrk,hm,hlo,hhi=>by
  unfold kas_place
  by_cases hge:l≥r
  ·rw [if_pos hge]
   have:l=r:=by omega
   subst this;exact h l hrk hlo hhi
  ·rw [if_neg hge]
   show cmp (p.getD k 0) (p.getD ((l+r) / 2) 0) (λc s'=>(if c=true then kas_place p k f l ((l+r) / 2) else kas_place p k f ((l+r) / 2+1) r).kasWp cmp G s') s;refine hC _ _ _ (hb.get _) (hb.get _) ?_;cases hless:O.blt (key (p.getD k 0)) (key (p.getD ((l+r) / 2) 0)) with
   | true =>
    have hl:O.klt (KN O key p k) (KN O key p ((l+r) / 2)):=hless;exact yes (Kr hC hb hs h f l ((l+r) / 2) (by omega) (by omega) (by omega) hlo λi h1 h2=>KeyOrd.klt_of_klt_of_kle hl (hs _ _ h1 h2))
   | false =>
    have hl:O.kle (KN O key p ((l+r) / 2)) (KN O key p k):=hless;exact no (Kr hC hb hs h f ((l+r) / 2+1) r (by omega) (by omega) (by omega) (λi h1=>iO (hs i ((l+r) / 2) (by omega) (by omega)) hl) hhi)
theorem Fn(hC:Xz O key N cmp s){n:Nat}{G:Array Nat->Op->Prop}(h:∀p',p'.Perm p0->Srt O key p' n->G p' s):∀(f:Nat) (p:Array Nat) (k:Nat),p.Perm p0->Bd N p->n<=p.size->k+f=n->Srt O key p k->(kas_bin f p k).kasWp cmp G s
 | 0,p,k,hp,hb,hz,e,hs=>h p hp (by rw [← e]; exact hs)
 | f+1,p,k,hp,hb,hz,e,hs=>by
  rw [show kas_bin (f+1) p k=(kas_place p k k 0 k).bind λl=>kas_bin f (bubble p k (k - l)) (k+1) from rfl,KasT.kasWp_bind];refine Kr hC hb hs (λl hlk hlo hhi=>?_) k 0 k (dD _) (Sc _) (by omega) (λi hi=>by omega) λi a b=>by omega
  have hks:k<p.size:=by omega
  refine Fn hC h f _ (k+1) ((bubble_perm _ _ _).trans hp) (hb.perm (bubble_perm _ _ _)) (by rw [bubble_size]; exact hz) (by omega) λi j hij hj=>?_;rw [M6 hks (by omega),M6 hks (by omega),show k - (k - l)=l by omega]
  by_cases hi1:i=l
  ·rw [if_pos hi1]
   by_cases hj1:j=l
   ·rw [if_pos hj1]; exact fI _
   ·rw [if_neg hj1,if_pos (by omega)]
    exact iF (hhi (j - 1) (by omega) (by omega))
  ·rw [if_neg hi1]
   by_cases hi2:l<i/\i<=k
   ·rw [if_pos hi2,if_neg (by omega),if_pos (by omega)]
    exact hs (i - 1) (j - 1) (by omega) (by omega)
   ·rw [if_neg hi2]
    by_cases hj1:j=l
    ·rw [if_pos hj1]; exact hlo i (by omega)
    ·rw [if_neg hj1]
     by_cases hj2:l<j/\j<=k
     ·rw [if_pos hj2]
      exact hs i (j - 1) (by omega) (by omega)
     ·rw [if_neg hj2]
      exact hs i j hij (by omega)
theorem sort_ok{n:Nat}(h1:1<=n)(hC:Xz O key n cmp s){G:Array Nat->Op->Prop}(h:∀p,p.Perm (dQ (dW n))->Srt O key p n->G p s):(kas_sort n).kasWp cmp G s:=by
 unfold kas_sort;rw [KasT.kasWp_bind];have hb:Bd n (dQ (dW n)):=⟨h1,λx hx=>by simpa using hx⟩;have hsz:(dQ (dW n)).size=n:=by simp
 refine Vk hC (jo _) hb (by omega) h1 λm p' a1 a2 a3 a4 a5 a6=>?_;show (if m<n then kas_bin (n - max m 1) p' (max m 1) else KasT.ret p').kasWp cmp G s
 by_cases hlt:m<n
 ·rw [if_pos hlt,show max m 1=m by omega]
  exact Fn (p0:=dQ (dW n)) hC h (n - m) p' m a1 a2 (by omega) (by omega) a6
 ·rw [if_neg hlt]
  exact h p' a1 (by rw [show n=m by omega]; exact a6)
end
end So
namespace L2
open PySem.W
def Yn:Key->Key->Bool
 | .inl i,.inl j=>decide (i<j)
 | .inr x,.inr y=>decide (x.cps.toList<y.cps.toList)
 | .inl _,.inr _=>true
 | .inr _,.inl _=>false
def BJ:List Key->List Key->Bool
 | [],[]=>false
 | [],_::_=>true
 | _::_,[]=>false
 | x::xs,y::ys=>if x=y then BJ xs ys else Yn x y
theorem Qd:∀x:Key,Yn x x=false
 | .inl i=>decide_eq_false (Int.lt_irrefl i)
 | .inr x=>decide_eq_false (fE _)
theorem S9:∀x y z:Key,Yn x y=true->Yn y z=true->Yn x z=true
 | .inl i,.inl j,.inl k,h1,h2=>decide_eq_true (Int.lt_trans (of_decide_eq_true h1) (of_decide_eq_true h2))
 | .inr i,.inr j,.inr k,h1,h2=>decide_eq_true (jI (of_decide_eq_true h1) (of_decide_eq_true h2))
 | .inl i,.inl j,.inr k,_,_=>rfl
 | .inl i,.inr j,.inr k,_,_=>rfl
 | .inl i,.inr j,.inl k,_,h=>by cases h
 | .inr i,.inl j,_,h,_=>by cases h
 | .inr i,.inr j,.inl k,_,h=>by cases h
theorem S_:∀x y:Key,Yn x y=false->Yn y x=false->x=y
 | .inl i,.inl j,h1,h2=>congrArg gP (by have a:=of_decide_eq_false h1; have b:=of_decide_eq_false h2; omega)
 | .inr x,.inr y,h1,h2=>by
  have a:=of_decide_eq_false h1;have b:=of_decide_eq_false h2;have e:x.cps.toList=y.cps.toList:=List.le_antisymm (as:=x.cps.toList) (bs:=y.cps.toList) b a;obtain⟨u⟩:=x;obtain⟨v⟩:=y;exact congrArg eh (congrArg Str.mk (Array.ext' e))
 | .inl i,.inr j,h,_=>by cases h
 | .inr i,.inl j,_,h=>by cases h
theorem CZ:∀x:List Key,BJ x x=false
 | []=>rfl
 | x::xs=>by unfold BJ; rw [if_pos rfl]; exact CZ xs
theorem Cw:∀x y z:List Key,BJ x y=true->BJ y z=true->BJ x z=true
 | [],[],_,h,_=>by cases h
 | [],_::_,[],_,h=>by cases h
 | [],_::_,_::_,_,_=>rfl
 | _::_,[],_,h,_=>by cases h
 | _::_,_::_,[],_,h=>by cases h
 | x::xs,y::ys,z::zs,h1,h2=>by
  unfold BJ at h1 h2 ⊢
  by_cases e1:x=y
  ·subst e1
   rw [if_pos rfl] at h1
   by_cases e2:x=z
   ·subst e2
    rw [if_pos rfl] at h2 ⊢;exact Cw xs ys zs h1 h2
   ·rw [if_neg e2] at h2 ⊢
    exact h2
  ·rw [if_neg e1] at h1
   by_cases e2:y=z
   ·subst e2
    rw [if_neg e1];exact h1
   ·rw [if_neg e2] at h2
    have h3:=S9 x y z h1 h2
    by_cases e3:x=z
    ·subst e3
     rw [Qd] at h3;cases h3
    ·rw [if_neg e3]
     exact h3
theorem Cy:∀x y:List Key,BJ x y=false->BJ y x=false->x=y
 | [],[],_,_=>rfl
 | [],_::_,h,_=>by cases h
 | _::_,[],_,h=>by cases h
 | x::xs,y::ys,h1,h2=>by
  unfold BJ at h1 h2
  by_cases e:x=y
  ·subst e
   rw [if_pos rfl] at h1 h2;rw [Cy xs ys h1 h2]
  ·rw [if_neg e] at h1
   rw [if_neg (λz=>e z.symm)] at h2;exact absurd (S_ x y h1 h2) e
def Su:KeyOrd:=⟨List Key,BJ,CZ,Cw,λa b c h=>by
 cases h1:BJ a b with
 | true=>exact .inl rfl
 | false =>
  cases h2:BJ b a with
  | true=>exact .inr (Cw b a c h2 h)
  | false=>rw [← Cy a b h1 h2]; exact .inr h,Cy⟩
theorem GC:∀x y:List Key,CT x y=true->Eg x y=BJ x y
 | [],[],_=>rfl
 | [],_::_,_=>rfl
 | _::_,[],_=>rfl
 | x::xs,y::ys,h=>by
  have h':(MQ x y&&CT xs ys)=true:=h;rw [UF] at h';unfold Eg BJ
  by_cases e:x=y
  ·rw [if_pos e,if_pos e]; exact GC xs ys h'.2
  ·rw [if_neg e,if_neg e]
   cases x with
   | inl i=>cases y with
    | inl j=>rfl
    | inr z=>cases h'.1
   | inr i=>cases y with
    | inl j=>cases h'.1
    | inr z=>rfl
section
variable {prog:Program}{w:World}{A:Around}{E:Value->Shared->Prop}{s:Shared}
theorem VB{b:Bool}{Q:Bool->Op->Prop}{nx ny:Nat}:∀(ns ms:List Key) (us ws:List Ev) (i:Nat),Vals (ns.map kOf) us->Vals (ms.map kOf) ws->CT ns ms=true->ns.length+ny=ms.length+nx->Q (Eg ns ms) s ->
  KatLex prog w A b (decide (nx<ny)) Q (us.zip ws) i s
 | [],[],us,ws,i,h1,h2,_,hl,q=>by
  cases h1;cases h2;refine kat_nil ?_;rw [show decide (nx<ny)=false from decide_eq_false (by simp only [e6] at hl; omega)];exact q
 | [],m::ms,us,ws,i,h1,h2,_,hl,q=>by
  cases h1;rw [List.zip_nil_left];refine kat_nil ?_;rw [show decide (nx<ny)=true from decide_eq_true (by simp only [e6,c6] at hl; omega)];exact q
 | n::ns,[],us,ws,i,h1,h2,_,hl,q=>by
  cases h2;rw [List.zip_nil_right];refine kat_nil ?_;rw [show decide (nx<ny)=false from decide_eq_false (by simp only [e6,c6] at hl; omega)];exact q
 | n::ns,m::ms,us,ws,i,h1,h2,hs,hl,q=>by
  have hs':(MQ n m&&CT ns ms)=true:=hs;rw [UF] at hs';have q':Q (if n=m then Eg ns ms else bJ n m) s:=q;cases h1 with
  | @cons _ u _ ur r1 t1 =>
   cases h2 with
   | @cons _ v _ vr r2 t2 =>
    rw [i9];have ih:n=m->KatLex prog w A b (decide (nx<ny)) Q (ur.zip vr) (i+1) s:=λe=>VB ns ms ur vr (i+1) t1 t2 hs'.2 (by simp only [c6] at hl; omega) (by rw [if_pos e] at q'; exact q');cases n with
    | inl x =>
     cases m with
     | inr y=>cases hs'.1
     | inl y =>
      obtain⟨tu,rfl⟩:=r1;obtain⟨tv,rfl⟩:=r2;refine kat_cons (wpAny_eqBool_int ?_)
      by_cases e:x=y
      ·rw [show (x==y)=true by simpa using e]
       exact kat_yes (ih (by rw [e]))
      ·rw [show (x==y)=false by simpa using e]
       refine kat_no ?_;rw [if_neg (λz=>e (kQ z))] at q';cases hf:(b&&i==0) with
       | true=>exact oneLt_int q'
       | false=>exact kat_one _ _ (jt (show PySem.W.BoolBack Q (.bool (decide (x<y))) s from q'))
    | inr x =>
     cases m with
     | inl y=>cases hs'.1
     | inr y =>
      obtain⟨tu,rfl⟩:=r1;obtain⟨tv,rfl⟩:=r2;refine kat_cons (wpAny_eqBool_str ?_)
      by_cases e:x=y
      ·rw [show decide (x=y)=true by simpa using e]
       exact kat_yes (ih (by rw [e]))
      ·rw [show decide (x=y)=false by simpa using e]
       refine kat_no ?_;rw [if_neg (λz=>e (eK z))] at q';cases hf:(b&&i==0) with
       | true=>exact oneLt_str q'
       | false=>exact kat_one _ _ (PySem.P.lt_str (show PySem.W.BoolBack Q (.bool (decide (x.cps.toList<y.cps.toList))) s from q'))
structure SE (h:dL) (ks:List Ev) (keys:List (List Key)):Prop where
 at_:∀(i:Nat) (ns:List Key),keys[i]?=some ns->∃a o its n,ks[i]?=some (.ref a)/\h.get? a=some o/\o.cls=.type "tuple"/\o.data=.seq its n/\Vals (ns.map kOf) its.toList
 len:ks.length=keys.length
 same:∀x∈keys,∀y∈keys,CT x y=true
 ne:∀x∈keys,x≠[]
def bD:Key->String
 | .inl _ => "int"
 | .inr _ => "str"
theorem firsts{h:dL}:∀(ks:List Ev) (keys:List (List Key)) (T:String),ks.length=keys.length->(∀(i:Nat) (ns:List Key),keys[i]?=some ns->∃a o its n,ks[i]?=some (.ref a)/\h.get? a=some o/\o.cls=.type "tuple"/\o.data=.seq its n/\Vals (ns.map kOf) its.toList) ->
  (∀x∈keys,∃k r,x=k::r/\bD k=T)->∃fs:List Ev,KatTups h ks fs/\fs.length=keys.length/\∀v∈fs,typeOf v=pure (.type T)
 | [],[],T,_,_,_=>⟨[],trivial,rfl,λv hv=>by cases hv⟩
 | [],_::_,T,hl,_,_=>by cases hl
 | _::_,[],T,hl,_,_=>by cases hl
 | k::ks,x::keys,T,hl,h1,h2=>by
  obtain⟨fs,g1,g2,g3⟩:=firsts ks keys T (by simpa using hl) (λi ns e=>by
   obtain⟨a,o,its,n,e1,r⟩:=h1 (i+1) ns (by simpa using e);exact⟨a,o,its,n,by simpa using e1,r⟩) λy hy=>h2 y (Rs _ hy)
  obtain⟨a,o,its,n,e1,e2,e3,e4,e5⟩:=h1 0 x rfl;have e1:k=.ref a:=by simpa using e1
  subst e1;obtain⟨k,r,rfl,hk⟩:=h2 x On;rw [dA] at e5;cases hits:its.toList with
  | nil=>rw [hits] at e5; cases e5
  | cons f tl =>
   rw [hits] at e5;cases e5 with
   | cons r1 r2 =>
    refine⟨f::fs,KatTups.cons e2 e3 e4 (by rw [← Array.getElem?_toList,hits]; rfl) g1,by rw [c6,c6,g2],λv hv=>?_⟩
    rcases T0.mp hv with rfl | hv
    ·cases k with
     | inl i=>obtain⟨t,rfl⟩:=r1; subst hk; rfl
     | inr i=>obtain⟨t,rfl⟩:=r1; subst hk; rfl
    ·exact g3 v hv
theorem MM{ks:List Ev}{keys:List (List Key)}(K:SE s.heap ks keys)(h2:2<=ks.length){G:Array Nat->Op->Prop}(h:∀p,p.Perm (dQ (dW ks.length))->So.Srt Su (λi=>keys.getD i []) p ks.length->G p s) :
  wpAny (model prog w) A (keyKind' ks.toArray) (λκ s'=>(kas_sort ks.length).kasWp (kas_ask prog w A κ ks) G s') (λ_ _=>False) s:=by
 obtain⟨x0,xr,hx⟩:∃x0 xr,keys=x0::xr:=by
  cases e:keys with
  | nil=>have:=K.len; rw [e] at this; simp only [e6] at this; omega
  | cons x r=>exact⟨x,r,rfl⟩
 have m0:x0∈keys:=by rw [hx]; exact On
 obtain⟨k0,r0,e0⟩:∃k r,x0=k::r:=by
  cases e:x0 with
  | nil=>exact absurd e (K.ne x0 m0)
  | cons k r=>exact⟨k,r,rfl⟩
 have hty:∀x∈keys,∃k r,x=k::r/\bD k=bD k0:=λx hm=>by
  cases e:x with
  | nil=>exact absurd e (K.ne x hm)
  | cons k r =>
   refine⟨k,r,rfl,?_⟩;have hsm:=K.same x hm x0 m0;rw [e,e0] at hsm;have hsm:(MQ k k0&&CT r r0)=true:=hsm;rw [UF] at hsm;cases k with
   | inl i=>cases k0 with
    | inl j=>rfl
    | inr j=>cases hsm.1
   | inr i=>cases k0 with
    | inl j=>cases hsm.1
    | inr j=>rfl
 obtain⟨fs,g1,g2,g3⟩:=firsts ks keys (bD k0) K.len K.at_ hty;refine kat_kind g1 (by rw [g2,← K.len]; omega) (λv hv=>by rw [g3 v hv]; exact Looks.now) (by simp) ?_;refine So.sort_ok (O:=Su) (key:=λi=>keys.getD i []) (by omega) (λi j C hi hj hC=>?_) h;have hi':i<keys.length:=by rw [← K.len]; exact hi
 have hj':j<keys.length:=by rw [← K.len]; exact hj
 obtain⟨a,o,its,n,e1,e2,e3,e4,e5⟩:=K.at_ i keys[i] (FM hi');obtain⟨a',o',its',n',e1',e2',e3',e4',e5'⟩:=K.at_ j keys[j] (FM hj');unfold kas_ask;rw [show ks.getD i dk=.ref a by rw [dI,e1]; rfl,show ks.getD j dk=.ref a' by rw [dI,e1']; rfl];have hsm:=K.same _ (eZ hi') _ (eZ hj');refine kat_lt e2 e4 e2' e4' (VB keys[i] keys[j] _ _ 0 e5 e5' hsm ?_ ?_)
 ·have l1:=e5.length
  have l2:=e5'.length;have l3:(keys[i].map kOf).length=keys[i].length:=Go ..;have l4:(keys[j].map kOf).length=keys[j].length:=Go ..;have l5:its.toList.length=its.size:=eP;have l6:its'.toList.length=its'.size:=eP;omega
 ·rw [GC _ _ hsm]
  have g1:keys.getD i []=keys[i]:=by rw [dI,FM hi']; rfl
  have g2:keys.getD j []=keys[j]:=by rw [dI,FM hj']; rfl
  have hC':C (BJ (keys.getD i []) (keys.getD j [])) s:=hC;rw [g1,g2] at hC';exact hC'
theorem HI{v:Ev}{kw:List (Str×Ev)}{Q:Ev->Op->Prop}(ha1:argsOk "sorted" ⟨[v],kw⟩)(ha2:∀x,argsOk "list.sort" ⟨[.ref x],kw⟩)
  (hc:wpAny (model prog w) A.in1 (collect v) (λvs s1=>vs.length<=sizeLine/\wpAny (model prog w) A.in1.in1 (fq.«list.sort» ⟨[.ref s1.heap.objs.size],kw⟩) (λfin s'=>fin=.done (.ret .none)/\Q (.ref s1.heap.objs.size) s') E { s1 with heap:=s1.heap.push (seqObj "list" vs.toArray 0) }) E s) :
  wpAny (model prog w) A (call (.builtin "sorted") [v] kw) Q E s:=by
 refine call_function_entry_kw kind_sorted plain_sorted entry_sorted ha1 ?_;unfold fq.«sorted»;refine Db (m:=checkCount "sorted" 1 1 _) (TW ?_);refine Db (eU hc (λvs s1 h=>?_) λ_ _ x=>x);refine Db (jJ ?_ h.1);have hoL:(s1.heap.push (seqObj "list" vs.toArray 0)).get? s1.heap.objs.size=some (seqObj "list" vs.toArray 0):=c7 _ rfl;refine Db (e_ (wpAny_call_entry_kw PyProof.Rows.slot_list_sort ⟨_,hoL,rfl⟩ PyProof.Rows.entry_list_sort (eU h.2 (λfin s' hf=>?_) λ_ _ x=>x) (ha2 _)));exact⟨_,hf.1,TW ⟨_,rfl,hf.2⟩⟩
def D8(h:dL)(D:Ch)(vs:List Ev):dL:=((h.update D (eB λ_=>(#[]:Array Ev))).push (seqObj "tuple" vs.toArray 0)).push (seqObj "list" #[] 0)
theorem IR{h:dL}{D:Ch}{vs:List Ev}{b:Ch}{o:Obj}(hb:b≠D)(e:h.get? b=some o):(D8 h D vs).get? b=some o :=
 No _ (No _ ((dM _ _ (eW hb)).trans e))
theorem KZ{h:dL}{D:Ch}{vs:List Ev}{n:Nat}(ho:h.get? D=some (seqObj "list" vs.toArray n)):∃e1,(D8 h D vs).get? D=some (seqObj "list" #[] e1)/\(h.update D (eB λ_=>(#[]:Array Ev))).get? D=some (seqObj "list" #[] e1):=by
 obtain⟨e1,ho1⟩:∃e1,(h.update D (eB λ_=>(#[]:Array Ev))).get? D=some (seqObj "list" #[] e1):=⟨_,gU ho λ_=>#[]⟩;exact⟨e1,No _ (No _ ho1),ho1⟩
theorem PL{D:Ch}{vs:List Ev}{n:Nat}{P:PySem.Fin->Op->Prop}{G:Array Nat->Prop}(ho:s.heap.get? D=some (seqObj "list" vs.toArray n))(h64:vs.length<64)
  (hk:2<=vs.length->wpAny (model prog w) A (keyKind' vs.toArray) (λκ s'=>(kas_sort vs.length).kasWp (kas_ask prog w A κ vs) (λp s''=>s''={ s with heap:=D8 s.heap D vs }/\G p) s') (λ_ _=>False) { s with heap:=D8 s.heap D vs })
  (h1:vs.length<2->G (dQ (dW vs.length))) (hfin:∀(p:Array Nat) (h':dL) (c:Nat),p.size=vs.length->G p->(∀b o,b≠D->s.heap.get? b=some o->h'.get? b=some o)->h'.get? D=some (seqObj "list" (dQ (p.toList.map λi=>vs.getD i dk)) c)->P (.done (.ret .none)) { s with heap:=h' }) :
  wpAny (model prog w) A (fq.«list.sort» ⟨[.ref D],[]⟩) P E s:=by
 obtain⟨e1,ho6,ho1⟩:=KZ ho
 have fin:∀(p:Array Nat),p.size=vs.length->G p->P (.done (.ret .none)) { s with heap:=(D8 s.heap D vs).update D (eB λ_=>dQ (p.toList.map λi=>vs.getD i dk)) }:=λp hp hg=>by
  obtain⟨c2,hc2⟩:∃c2,((D8 s.heap D vs).update D (eB λ_=>dQ (p.toList.map λi=>vs.getD i dk))).get? D=some (seqObj "list" (dQ (p.toList.map λi=>vs.getD i dk)) c2):=⟨_,gU ho6 λ_=>dQ (p.toList.map λi=>vs.getD i dk)⟩;exact hfin p _ c2 hp hg (λb o hb e=>(dM _ _ (eW hb)).trans (IR hb e)) hc2
 rw [list_sort_plain];refine Db (ij ho rfl ?_);refine Db (gC ho rfl ?_ (by rw [Tk,d7]; omega) (dD _));refine Db (i7 ho1 rfl ?_);refine Db (wpAny_newTuple ?_ (by show vs.length<=_; rw [d7]; omega));refine Db (jJ ?_ (dD _));refine e_ ?_;show wpAny (model prog w) A _ P E { s with heap:=D8 s.heap D vs }
 dsimp only
 by_cases h2:vs.length<2
 ·have h2':vs.toArray.size<2:=by rw [Tk]; exact h2
  rw [if_pos h2',if_pos h2'];refine Db (TW ?_);rw [StateT.run_pure];refine Db (TW ?_)
  dsimp only
  refine Db (i7 ho6 rfl ?_);have hsz:(dQ (dW vs.length)).size=vs.length:=by simp
  have hout:(arrOf (SortSt.mk' general' (vs.toArray.zip vs.toArray) #[] 7 none)).map (·.2)=dQ ((dQ (dW vs.length)).toList.map λi=>vs.getD i dk):=by
   refine kat_snds rfl ?_;have e:=kas_range (vs.toArray.zip vs.toArray);rw [show (vs.toArray.zip vs.toArray).size=vs.length by simp] at e;exact e.symm
  rw [hout];refine Db (gC ho6 rfl ?_ (dD _) (by rw [Tk,Go,eP,hsz,d7]; omega));simp only [bne_self_eq_false,fg,if_false];exact TW (fin _ hsz (h1 h2))
 ·have h2':¬vs.toArray.size<2:=by rw [Tk]; exact h2
  rw [if_neg h2',if_neg h2'];refine Db (eU (hk (by omega)) (λκ s0 hk=>?_) λ_ _ x=>x.elim)
  refine Db (eU (kat_run (Q:=λst' s'=>∃p:Array Nat,p.size=vs.length/\arrOf st'=p.map (kas_item (vs.toArray.zip vs.toArray))/\failedOf st'=none/\s'={ s with heap:=D8 s.heap D vs }/\G p)
   rfl (by omega) h64 (λp' st' s' a1 a2 a3 a4=>⟨p',a1,a2,a3,a4⟩) hk) ?_ λ_ _ e=>e)
  rintro ⟨⟨⟩,st'⟩ s' ⟨p,hp,har,hf,rfl,hg⟩
  dsimp only
  have hout:=kat_snds rfl har;have hsz:(dQ (p.toList.map λi=>vs.getD i dk)).size=vs.length:=by rw [Tk,Go,eP,hp]
  rw [hout];refine Db (i7 ho6 rfl ?_);refine Db (gC ho6 rfl ?_ (dD _) (de (jZ hsz) (by rw [d7]; omega)));rw [hf];simp only [bne_self_eq_false,fg,if_false];exact TW (fin p hp hg)
theorem TB{D:Ch}{f:Ev}{vs:List Ev}{n:Nat}{P:PySem.Fin->Op->Prop}(ho:s.heap.get? D=some (seqObj "list" vs.toArray n))(h64:vs.length<64)(J:List Ev->Op->Prop)(kS:Ch)(hkS:kS=s.heap.objs.size+1)
  (h0:∀e1,(D8 s.heap D vs).get? D=some (seqObj "list" #[] e1)->J [] { s with heap:=D8 s.heap D vs })
  (hstep:∀(ks:List Ev) (s':Op) (e:Nat) (v:Ev),J ks s'->s'.heap.get? kS=some (seqObj "list" ks.toArray e)->vs[ks.length]?=some v->wpAny (model prog w) A (call f [v]) (λk s''=>s''.heap.get? kS=some (seqObj "list" ks.toArray e)/\J (ks++[k]) { s'' with heap:=s''.heap.update kS (eB (·.push k)) }) (λ_ _=>False) s')
  (hend:∀(e1:Nat),(D8 s.heap D vs).get? D=some (seqObj "list" #[] e1)->∀(ks:List Ev) (s':Op),J ks s'->ks.length=vs.length->s'.heap.get? D=some (seqObj "list" #[] e1)/\∃G:Array Nat->Prop,
   (2<=vs.length->wpAny (model prog w) A (keyKind' ks.toArray) (λκ s2=>(kas_sort vs.length).kasWp (kas_ask prog w A κ ks) (λp s''=>s''=s'/\G p) s2) (λ_ _=>False) s')/\(vs.length<2->G (dQ (dW vs.length))) /\
   ∀(p:Array Nat) (h':dL) (c:Nat),p.size=vs.length->G p->(∀b o,b≠D->b≠kS->s'.heap.get? b=some o->h'.get? b=some o)->h'.get? D=some (seqObj "list" (dQ (p.toList.map λi=>vs.getD i dk)) c)->(∃o,h'.get? kS=some o)->P (.done (.ret .none)) { s' with heap:=h' }) :
  wpAny (model prog w) A (ksk_tree D f false) P E s:=by
 obtain⟨e1,ho6,ho1⟩:=KZ ho;have hsz1:((s.heap.update D (eB λ_=>(#[]:Array Ev))).push (seqObj "tuple" vs.toArray 0)).objs.size=kS:=by rw [size_push',Heap.size_update,hkS]
 have hD:D<s.heap.objs.size:=ZB ho;have hDk:D≠kS:=by rw [hkS]; exact dJ (fV hD)
 have hk0:(D8 s.heap D vs).get? kS=some (seqObj "list" #[] 0):=by rw [← hsz1]; exact c7 _ rfl
 unfold ksk_tree;refine Db (ij ho rfl ?_);refine Db (gC ho rfl ?_ (by rw [Tk,d7]; omega) (dD _));refine Db (i7 ho1 rfl ?_);refine Db (wpAny_newTuple ?_ (by show vs.length<=_; rw [d7]; omega));refine Db (jJ ?_ (dD _));refine e_ ?_;show wpAny (model prog w) A (ksk_rest D f false vs.toArray e1 (.ref ((s.heap.update D (eB λ_=>(#[]:Array Ev))).push (seqObj "tuple" vs.toArray 0)).objs.size)) P E { s with heap:=D8 s.heap D vs };rw [hsz1];unfold ksk_rest;refine Db (gR ?_)
 first
  | rw [List.forIn_toArray]
  | (rw [← Array.forIn_toList]; simp only [gw])
  | rw [← Array.forIn_toList]
 refine Db (ksk_fold (I:=λi s'=>∃ks e,fN ks=i/\J ks s'/\s'.heap.get? kS=some (seqObj "list" ks.toArray e)) vs 0 _ ⟨[],0,rfl,h0 e1 ho6,hk0⟩ (λj x s' hx hI=>?_) λs' hI=>?_)
 ·obtain⟨ks,e,hl,hJ,hk⟩:=hI
  have hj:j<vs.length:=(c8.mp hx).1;have hl:ks.length=j:=by omega
  refine Db (wpAny_attempt (eU (hstep ks s' e x hJ hk (by rw [hl]; exact hx)) (λk s'' hk2=>?_) λ_ _ hF=>hF.elim));have ea:(dQ ks).push k=dQ (ks++[k]):=by simp
  obtain⟨c2,hc2⟩:∃c2,(s''.heap.update kS (eB (·.push k))).get? kS=some (seqObj "list" (dQ (ks++[k])) c2):=⟨_,by rw [← ea]; exact gU hk2.1 (·.push k)⟩
  try dsimp only
  refine Db (gC hk2.1 rfl ?_ (by rw [Tk,d7]; omega) (de (jZ (Array.size_push ..)) (by rw [Tk,d7]; omega)));exact TW ⟨rfl,ks++[k],c2,by rw [c9,dR]; omega,hk2.2,hc2⟩
 ·obtain⟨ks,e,hl,hJ,hk⟩:=hI
  have hl:ks.length=vs.length:=by omega
  obtain⟨hD',G,g2,g1,g3⟩:=hend e1 ho6 ks s' hJ hl
  try dsimp only
  refine Db (ij hk rfl ?_)
  have tail:∀(st:SortSt) (p:Array Nat),p.size=vs.length->G p->(arrOf st).map (·.2)=dQ (p.toList.map λi=>vs.getD i dk)->failedOf st=none->wpAny (model prog w) A (ksk_tail D false e1 (.ref kS) st) P E s':=λst p hp hg hout hf=>by
   have hsz:(dQ (p.toList.map λi=>vs.getD i dk)).size=vs.length:=by rw [Tk,Go,eP,hp]
   obtain⟨ck,hck⟩:∃ck,(s'.heap.update kS (eB λ_=>(#[]:Array Ev))).get? kS=some (seqObj "list" #[] ck):=⟨_,gU hk λ_=>#[]⟩;have hD2:(s'.heap.update kS (eB λ_=>(#[]:Array Ev))).get? D=some (seqObj "list" #[] e1):=(dM _ _ (eW hDk)).trans hD';obtain⟨c2,hc2⟩:∃c2,((s'.heap.update kS (eB λ_=>(#[]:Array Ev))).update D (eB λ_=>dQ (p.toList.map λi=>vs.getD i dk))).get? D=some (seqObj "list" (dQ (p.toList.map λi=>vs.getD i dk)) c2):=⟨_,gU hD2 λ_=>dQ (p.toList.map λi=>vs.getD i dk)⟩;unfold ksk_tail
   try dsimp only
   rw [hout];refine Db (gC hk rfl ?_ (by rw [Tk,d7]; omega) (dD _));refine Db (gX ?_);refine Db (i7 hD2 rfl ?_);refine Db (gC hD2 rfl ?_ (dD _) (de (jZ hsz) (by rw [d7]; omega)));rw [hf];simp only [bne_self_eq_false,fg,if_false];refine TW (g3 p _ c2 hp hg (λb o hb1 hb2 e=>(dM _ _ (eW hb1)).trans ((dM _ _ (eW hb2)).trans e)) hc2 ⟨_,(dM _ _ hDk).trans hck⟩)
  unfold ksk_end
  try dsimp only
  simp only [fg,if_false]
  by_cases h2:vs.length<2
  ·have h2':vs.toArray.size<2:=by rw [Tk]; exact h2
   rw [if_pos h2',if_pos h2'];refine Db (TW ?_);rw [StateT.run_pure];refine Db (TW ?_)
   try dsimp only
   refine tail _ (dQ (dW vs.length)) (by simp) (g1 h2) (kat_snds hl ?_) rfl;have er:=kas_range (ks.toArray.zip vs.toArray);rw [show (ks.toArray.zip vs.toArray).size=vs.length by simp [hl]] at er;exact er.symm
  ·have h2':¬vs.toArray.size<2:=by rw [Tk]; exact h2
   rw [if_neg h2',if_neg h2'];refine Db (eU (g2 (by omega)) (λκ s0 hk=>?_) λ_ _ x=>x.elim)
   refine Db (eU (kat_run (Q:=λst' s2=>∃p:Array Nat,p.size=vs.length/\arrOf st'=p.map (kas_item (ks.toArray.zip vs.toArray))/\failedOf st'=none/\s2=s'/\G p)
    hl (by omega) h64 (λp' st' s2 a1 a2 a3 a4=>⟨p',a1,a2,a3,a4⟩) hk) ?_ λ_ _ e=>e)
   rintro ⟨⟨⟩,st'⟩ s2 ⟨p,hp,har,hf,rfl,hg⟩
   try dsimp only
   exact tail st' p hp hg (kat_snds hl har) hf
end
section
variable {X:Cx}{zG:List (Addr×Obj)}{Z:L2.St}{H:Hp}{s:Shared}{h':Heap}
structure Ts (X:Cx) (zG:List (Ch×Obj)) (D:Ch):Prop where
 new:X.s₀.heap.objs.size<=D
 loc:D≠X.env.locals
 cell:∀x c,X.env.cells.lookup x=some c->c≠D
 pin:∀p∈X.pn++zG,p.1≠D
 fs:D∉X.fs
theorem Inv.mine(I:Inv X zG Z H s){D:Ch}(h:s.heap.objs.size<=D):Ts X zG D:=by
 refine⟨de I.sz h,λz=>?_,λx c e z=>?_,λp hp z=>?_,I.nofs h⟩
 ·have:=I.lt
  rw [← z] at this;exact absurd this (jT.mpr h)
 ·obtain⟨v,o,ho,_⟩:=I.cell x c e
  have:=ZB ho
  rw [z] at this;exact absurd this (jT.mpr h)
 ·obtain⟨e,_⟩:=I.pin p hp
  have:=ZB e
  rw [z] at this;exact absurd this (jT.mpr h)
structure KeysAt (K:Frag) (H:Hp) (vs:List V) (keys:List (List Key)):Prop where
 len:vs.length=keys.length
 at_:∀(i:Nat) (ns:List Key),keys[i]?=some ns->∃a,vs[i]?=some (.ref a)/\SqT K H a (ns.map kOf)
 same:∀x∈keys,∀y∈keys,CT x y=true
 ne:∀x∈keys,x≠[]
def M5(keys:List (List Key))(ix:List Nat):Prop:=ix.Perm (dW keys.length)/\∀i j,i<=j->j<keys.length->BJ (keys.getD (ix.getD j 0) []) (keys.getD (ix.getD i 0) [])=false
theorem KeysAt.tups{vs:List V}{us:List Ev}{keys:List (List Key)}(I:Inv X zG Z H s)(r:Vals vs us)(k:KeysAt X.K H vs keys){h':dL}(hk:∀b o,s.heap.get? b=some o->h'.get? b=some o):SE h' us keys:=by
 refine⟨λi ns e=>?_,r.length.symm.trans k.len,k.same,k.ne⟩;obtain⟨a,e1,h1⟩:=k.at_ i ns e;obtain⟨u,e2,r2⟩:=r.get e1;cases r2;obtain⟨its,r3,⟨o,ho,hc,n,hd⟩,_⟩:=I.tuple h1;exact⟨a,o,its.toArray,n,e2,hk a o ho,hc,hd,by rw [gw]; exact r3⟩
theorem IM:∀{vs:List V} {us:List Ev},Vals vs us->∀i:Nat,RelV (vs.getD i .non) (us.getD i dk)
 | _,_,.nil,i=>by simp [RelV]
 | _,_,.cons r t,0=>by simpa using r
 | _,_,.cons r t,i+1=>by simpa using IM t i
theorem KP{f:Nat->V}{g:Nat->Ev}(h:∀i,RelV (f i) (g i)):∀ix:List Nat,Vals (ix.map f) (ix.map g)
 | []=>.nil
 | i::ix=>.cons (h i) (KP h ix)
theorem getD_list(p:Array Nat)(i:Nat):p.getD i 0=p.toList.getD i 0:=by simp
theorem Uz{keys:List (List Key)}{n:Nat}{p:Array Nat}(hn:keys.length=n)(h1:p.Perm (dQ (dW n)))(h2:So.Srt Su (λi=>keys.getD i []) p n):M5 keys p.toList:=by
 subst hn;refine⟨Array.perm_iff_toList_perm.mp h1,λi j hij hj=>?_⟩;have h:=h2 i j hij hj;unfold So.KN at h;rw [getD_list,getD_list] at h;exact h
theorem SS{A':eC}{E':Ev->Op->Prop}{vs:List V}{us:List Ev}{keys:List (List Key)}{Q:VK}(I:Inv X zG Z H s)(r:Vals vs us)(h64:vs.length<64)(k:KeysAt X.K H vs keys)
  (q:∀(ix:List Nat) (l:Ch),M5 keys ix->H l=none->Q (.ref l) (BK H l (.lst (ix.map λi=>vs.getD i .non)))) :
  wpAny (model X.prog X.w) A' (fq.«list.sort» ⟨[.ref s.heap.objs.size],[]⟩) (λfin s'=>fin=.done (.ret .none)/\EP X zG Z Q (.ref s.heap.objs.size) s') E' { s with heap:=s.heap.push (seqObj "list" us.toArray 0) }:=by
 have hl:=r.length;have hkl:keys.length=us.length:=k.len.symm.trans hl;refine PL (G:=λp=>p.Perm (dQ (dW us.length))/\So.Srt Su (λi=>keys.getD i []) p us.length) (n:=0) (c7 _ rfl) (by omega) (λh2=>?_) (λh1=>⟨jo _,λi j hij hj=>?_⟩) (λp h' c hp hg hold hD=>⟨rfl,?_⟩)
 ·refine MM (keys:=keys) (k.tups I r λb o e=>?_) h2 (λp a b=>⟨rfl,a,b⟩)
  exact IR (dJ (ZB e)) (No _ e)
 ·have:i=j:=by omega
  subst this;exact fI _
 ·have hf:H s.heap.objs.size=none:=I.fresh
  have hix:(p.toList.map λi=>vs.getD i .non).length=us.length:=by rw [Go,eP,hp]
  refine⟨.ref s.heap.objs.size,BK H s.heap.objs.size (.lst (p.toList.map λi=>vs.getD i .non)),I.laid (t':=s.toks) (λb o e=>hold b o (dJ (ZB e)) (No _ e)) (Sc _) ⟨by rw [hix,← hl,d7]; omega,_,c,KP (IM r) p.toList,hD⟩,rfl,q _ _ (Uz hkl hg.1 hg.2) hf⟩
theorem Pk{prog:dZ}{w:dh}{A:eC}{E:Ev->Op->Prop}{s:Op}{l:Ch}{vs:List Ev}{Q:List Ev->Op->Prop}(hl:IsTup s.heap l vs.toArray)
  (h:Q vs { s with heap:=(s.heap.push (seqObj "list" #[] 0)).update s.heap.objs.size (eB (·++vs.toArray)) }) (hsz:vs.length<=sizeLine) :
  wpAny (model prog w) A (collect (.ref l)) Q E s:=by
 obtain⟨o,ho,hc,n,hd⟩:=id hl;unfold collect;refine Db (wpAny_runValue (eY entry_proto_collect' ?_));show wpAny _ _ (do again (.builtin "list.__iadd__" ⟨[← newList [],.ref l],[]⟩)) _ _ s;refine Db (jJ (TW ⟨Code.quiet_builtin _ (by decide +kernel),eY entry_list_iadd' ?_⟩));show wpAny _ _ (f8 (.ref s.heap.objs.size) (.ref l) (.ref s.heap.objs.size)) _ _ { s with heap:=s.heap.push (seqObj "list" #[] 0) };unfold f8;have ho':(s.heap.push (seqObj "list" #[] 0)).get? l=some o:=No _ ho;refine Db (gM (T := "tuple") ⟨o,ho',hc⟩ ?_);have ht:(hZ "tuple"==hZ "tuple")=true:=by rfl
 rw [if_pos (by rw [ht]; simp)];refine Db (ij ho' hd ?_);refine Db (ij (xs:=#[]) (n:=0) (c7 _ rfl) rfl ?_);rw [if_neg (by simp)];refine Db (gC (xs:=#[]) (n:=0) (c7 _ rfl) rfl ?_ (dD _) (by show (#[]++vs.toArray).size<=sizeLine+1; simp only [Array.size_append,Tk,e6]; omega));refine TW ?_
 show wpAny (model prog w) A (do
   let o ← load s.heap.objs.size
   match o.data with
   | .seq xs _=>pure xs.toList
   | _=>unsupported "internal:collect") Q E { s with heap:=(s.heap.push (seqObj "list" #[] 0)).update s.heap.objs.size (eB (·++vs.toArray)) }
 refine Db (wpAny_load (gU (c7 _ rfl) _) ?_);show wpAny _ _ (pure ((#[]:Array Ev)++vs.toArray).toList) Q E _;rw [show ((#[]:Array Ev)++vs.toArray).toList=vs by simp];exact TW h
theorem Pn{h:dL}{g:Array Ev->Array Ev}{b:Ch}{o:Obj}(e:h.get? b=some o):((h.push (seqObj "list" #[] 0)).update h.objs.size (eB g)).get? b=some o :=
 (dM _ _ (eW (dJ (ZB e)))).trans (No _ e)
theorem Pm{κ:Bool}{A':eC}{E':Ev->Op->Prop}{p:Ch}{vs:List V}{Q:List Ev->Op->Prop}(I:Inv X zG Z H s)(h:SqK κ X.K H p vs)(q:∀us s1,Vals vs us->vs.length<=sizeLine->Inv X zG Z H s1->Q us s1) :
  wpAny (model X.prog X.w) A' (collect (.ref p)) Q E' s:=by
 cases κ with
 | true =>
  obtain⟨its,r,pl,hz⟩:=I.list h;exact collect_list pl.isList (q its _ r hz (I.kept (t':=s.toks) λb o e=>Pn e)) (by rw [← r.length]; exact hz)
 | false =>
  obtain⟨its,r,pl,hz⟩:=I.tuple h;exact Pk pl (q its _ r hz (I.kept (t':=s.toks) λb o e=>Pn e)) (by rw [← r.length]; exact hz)
def UW(K:Frag):List V->Hp->VK->Prop:=λxs H Q=>∃(κ:Bool) (p:Ch) (vs:List V) (keys:List (List Key)),xs=[.ref p]/\SqK κ K H p vs/\vs.length<64/\KeysAt K H vs keys /\
 ∀(ix:List Nat) (l:Ch),M5 keys ix->H l=none->Q (.ref l) (BK H l (.lst (ix.map λi=>vs.getD i .non)))
theorem G7:DB X (.builtin "sorted") (UW X.K):=by
 intro zG s Z H xs us Q I r h;obtain⟨κ,p,vs,keys,rfl,hq,h64,hk,q⟩:=h;obtain⟨u,rfl,rx⟩:=vals1 r;cases rx;refine HI (kw:=[]) (args_sorted1 _) (λx=>args_list_sort _) (Pm I hq λus s1 r1 hz I1=>⟨by rw [← r1.length]; exact hz,?_⟩);exact SS I1 r1 h64 hk q
end
def G3(H:Hp)(L:List Ch)(f:Ch->Obj):Hp:=λb=>if b∈L then (H b).map (HO.frz (f b)) else H b
theorem Eh{H:Hp}{L:List Ch}{f:Ch->Obj}{b:Ch}(h:b∉L):G3 H L f b=H b:=by unfold G3; rw [if_neg h]
theorem Rc{H:Hp}{L:List Ch}{f:Ch->Obj}{b:Ch}{o:HO}(h:b∈L)(e:H b=some o):G3 H L f b=some (.frz (f b) o):=by unfold G3; rw [if_pos h,e]; rfl
section
variable {X:Cx}{zG:List (Addr×Obj)}{Z:L2.St}{H:Hp}{s:Shared}
theorem Inv.frz{L:List Ch}(I:Inv X zG Z H s)(hL:∀b∈L,∃kvs,H b=some (.dK kvs)):∃f,Inv X zG Z (G3 H L f) s:=by
 have keep:∀(f:Ch->Obj) b o,H b=some o->(∀kvs,o≠.dK kvs)->G3 H L f b=some o:=λf b o e n=>by
  rw [Eh (λhm=>by obtain⟨kvs,e2⟩:=hL b hm; rw [e] at e2; cases e2; exact n _ rfl)];exact e
 refine⟨λb=>(s.heap.get? b).getD { cls:=.none,data:=.fields #[] },?_⟩;refine I.step (g':=s.gens) (d':=s.drawn) (t':=s.toks) (h':=s.heap) (ch:=[]) (λ_ z=>nomatch z) (λ_ _ _ _ _ e _=>e) (λb o _ _ _ e _=>⟨o.slots,e⟩) (λb o _ e n=>?_) (λb o _ e=>⟨o,e⟩) (λb xs e=>keep _ b _ e λ_ z=>by cases z) (λb o u e=>keep _ b _ e λ_ z=>by cases z) (λb ps e=>⟨#[],by rw [keep _ b _ e λ_ z=>by cases z]; simp⟩) (λ_ h=>h) (λb u e=>?_) I.bare
 ·unfold G3
  split
  ·rw [n]; rfl
  ·exact n
 ·by_cases hb:b∈L
  ·obtain⟨kvs,e2⟩:=hL b hb
   rw [Rc hb e2] at e;cases e;obtain⟨z,y,vs,r,ob,es,ep,e3,c⟩:=(show ObjOk X.prog X.w H s.heap b (.dK kvs) from I.hok b _ e2);exact⟨by rw [e3]; rfl,z,y,vs,r,ob,es,ep,e3,c⟩
  ·rw [Eh hb] at e
   exact(I.hok b u e).stay (λ_ _ _ q=>q) (λc q=>keep _ c _ q λ_ z=>by cases z) λc xs q=>keep _ c _ q λ_ z=>by cases z
def ba(t:TE):TE:=λZ H Q=>t Z H λv H1=>∃L:List Ch,(∀b∈L,∃kvs,H1 b=some (.dK kvs))/\∀f:Ch->Obj,Q v (G3 H1 L f)
theorem Yc{e:dO}{t:TE}(h:PE X e t):PE X e (ba t):=by
 intro zG s Z H Q I hq;refine thn (h zG s Z H _ I hq) λu s1 ⟨v,H1,I1,r,L,hL,q⟩=>?_;obtain⟨f,I2⟩:=I1.frz hL;exact⟨v,_,I2,r,q f⟩
end
end L2
namespace Nt
open L2 Dp
def DR(ts:List A2)(p:Str):List (Str×Int):=ts.flatMap λt=>(if t.a=p then [(t.b,t.len)] else [])++(if t.b=p then [(t.a,t.len)] else [])
def Tv(ts:List A2)(p:Str):D:=.fdi ((DR ts p).map λx=>.inr x.1) ((DR ts p).map λx=>.int x.2)
def FS(N:Net):D:=.dic (N.ps.map .inr) (N.ps.map (Tv N.ts))
def OL:W2:=λss n P=>∃N:Net,ss=[.sh (enc N)]/\N.Ok/\N.ps.length<=1000/\N.ts.length<=1000/\P (FS N) n
def kv(x:Str×Int):Key×V:=(.inr x.1,.int x.2)
structure Stp (H:Hp) (d:Ch) (as:List (Str×Ch)) (tb:Str->List (Key×V)) (H':Hp):Prop where
 old:∀b o,H b=some o->H' b=some o
 new:H d=none
 top:H' d=some (.dK (as.map λx=>(.inr x.1,.ref x.2)))
 inn:∀x∈as,H x.2=none/\x.2≠d/\H' x.2=some (.dK (tb x.1))
 ads:(as.map (·.2)).Nodup
 nms:(as.map (·.1)).Nodup
theorem Jn{as:List (Str×Ch)}(hn:(as.map (·.1)).Nodup){p:Str}{a:Ch}(h:(p,a)∈as):DQ (as.map λx=>((.inr x.1:Key),V.ref x.2)) (.inr p)=some (.ref a):=by
 induction as with
 | nil=>cases h
 | cons x r ih =>
  rw [dA,dP] at hn
  rcases T0.mp h with e | h
  ·rw [← e]
   exact FP rfl
  ·have hne:(eh x.1:Key)≠.inr p:=λe=>hn.1 (by rw [eK e]; exact Re.mpr ⟨_,h,rfl⟩)
   rw [dA];exact(FQ hne).trans (ih hn.2 h)
theorem QN{as:List (Str×Ch)}{p:Str}{v:V}(h:p∉as.map (·.1)):putK (as.map λx=>((.inr x.1:Key),V.ref x.2)) (.inr p) v=(as.map λx=>((.inr x.1:Key),V.ref x.2))++[(.inr p,v)]:=by
 unfold putK;rw [if_neg];rw [ef];rintro ⟨y,hy,e⟩;obtain⟨x,hx,rfl⟩:=Re.mp hy;exact h (Re.mpr ⟨x,hx,eK (of_decide_eq_true e)⟩)
theorem RF{xs:List (Str×Int)}{p:Str}{l:Int}(h:p∉xs.map (·.1)):putK (xs.map kv) (.inr p) (.int l)=(xs++[(p,l)]).map kv:=by
 unfold putK;rw [if_neg,dq]
 ·rfl
 ·rw [ef]
  rintro ⟨y,hy,e⟩;obtain⟨x,hx,rfl⟩:=Re.mp hy;exact h (Re.mpr ⟨x,hx,eK (of_decide_eq_true e)⟩)
theorem Stp.more{H H':Hp}{d q:Ch}{as:List (Str×Ch)}{tb:Str->List (Key×V)}{p:Str}(s:Stp H d as tb H')(hq:H' q=none)(hp:p∉as.map (·.1))(ht:tb p=[]) :
  Stp H d (as++[(p,q)]) tb (BK (BK H' q (.dK [])) d (.dK (putK (as.map λx=>((.inr x.1:Key),V.ref x.2)) (.inr p) (.ref q)))):=by
 have nq:q≠d:=λe=>by rw [e,s.top] at hq; cases hq
 have hHq:H q=none:=by
  cases c:H q with
  | none=>rfl
  | some o=>rw [s.old q o c] at hq; cases hq
 refine⟨λb o e=>?_,s.new,?_,λx hx=>?_,?_,?_⟩
 ·have n1:b≠d:=λz=>by rw [z,s.new] at e; cases e
  have n2:b≠q:=λz=>by rw [z,hHq] at e; cases e
  rw [Aa n1,Aa n2];exact s.old b o e
 ·rw [Ap,QN hp,dq]; rfl
 ·rcases dN.mp hx with hx | hx
  ·obtain⟨h1,h2,h3⟩:=s.inn x hx
   have n2:x.2≠q:=λz=>by rw [z,hq] at h3; cases h3
   exact⟨h1,h2,by rw [Aa h2,Aa n2]; exact h3⟩
  ·rw [TM.mp hx]
   exact⟨hHq,nq,by rw [Aa nq,Ap,ht]⟩
 ·rw [dq,eJ]
  refine⟨s.ads,dP.mpr ⟨(λh=>by cases h),d8⟩,λa ha b hb e=>?_⟩;obtain⟨x,hx,rfl⟩:=Re.mp ha;have hb:b=q:=TM.mp hb;obtain⟨h1,h2,h3⟩:=s.inn x hx;rw [e,hb,hq] at h3;cases h3
 ·rw [dq,eJ]
  refine⟨s.nms,dP.mpr ⟨(λh=>by cases h),d8⟩,λa ha b hb e=>?_⟩;have hb:b=p:=TM.mp hb;exact hp (by rw [← hb,← e]; exact ha)
theorem S5{as:List (Str×Ch)}(hn:(as.map (·.1)).Nodup){p:Str}{a b:Ch}(h1:(p,a)∈as)(h2:(p,b)∈as):a=b:=by
 have:=(Jn hn h1).symm.trans (Jn hn h2)
 exact V.ref.inj (c_ this)
theorem S4{as:List (Str×Ch)}(hn:(as.map (·.2)).Nodup){p q:Str}{a:Ch}(h1:(p,a)∈as)(h2:(q,a)∈as):p=q:=by
 induction as with
 | nil=>cases h1
 | cons x r ih =>
  rw [dA,dP] at hn
  rcases T0.mp h1 with e1 | g1
  ·rcases T0.mp h2 with e2 | g2
   ·rw [← e1] at e2; exact(Prod.mk.inj e2).1.symm
   ·exact absurd (Re.mpr ⟨_,g2,by rw [← e1]⟩) hn.1
  ·rcases T0.mp h2 with e2 | g2
   ·exact absurd (Re.mpr ⟨_,g1,by rw [← e2]⟩) hn.1
   ·exact ih hn.2 g1 g2
theorem Stp.put{H H':Hp}{d a:Ch}{as:List (Str×Ch)}{tb tb2:Str->List (Key×V)}{p:Str}{kvs:List (Key×V)}(s:Stp H d as tb H')(ha:(p,a)∈as)(h1:tb2 p=kvs)(h2:∀q,q≠p->tb2 q=tb q) :
  Stp H d as tb2 (BK H' a (.dK kvs)):=by
 obtain⟨i1,i2,i3⟩:=s.inn _ ha;refine⟨λb o e=>?_,s.new,?_,λx hx=>?_,s.ads,s.nms⟩
 ·have n1:b≠a:=λz=>by rw [z] at e; rw [show H a=none from i1] at e; cases e
  rw [Aa n1];exact s.old b o e
 ·rw [Aa (eW i2)]
  exact s.top
 ·obtain⟨g1,g2,g3⟩:=s.inn x hx
  refine⟨g1,g2,?_⟩
  by_cases e:x.2=a
  ·have:x.1=p:=S4 s.ads (show (x.1,a)∈as by rw [← e]; exact hx) ha
   rw [e,Ap,this,h1]
  ·have:x.1≠p:=λz=>e (S5 s.nms (show (p,x.2)∈as by rw [← z]; exact hx) ha)
   rw [Aa e,h2 _ this];exact g3
theorem O_(ts:List A2)(t:A2)(p:Str):DR (ts++[t]) p=DR ts p++((if t.a=p then [(t.b,t.len)] else [])++(if t.b=p then [(t.a,t.len)] else [])):=by
 unfold DR;rw [List.flatMap_append,gF,List.flatMap_nil,dX]
theorem Nn{ts:List A2}{p q:Str}(h:q∈(DR ts p).map (·.1)):∃t∈ts,(t.a=p/\t.b=q)\/(t.b=p/\t.a=q):=by
 obtain⟨x,hx,rfl⟩:=Re.mp h;obtain⟨t,ht,hx⟩:=fZ.mp hx;refine⟨t,ht,?_⟩
 rcases dN.mp hx with hx | hx
 ·split at hx
  ·rename_i e; rw [TM.mp hx]; exact .inl ⟨e,rfl⟩
  ·cases hx
 ·split at hx
  ·rename_i e; rw [TM.mp hx]; exact .inr ⟨e,rfl⟩
  ·cases hx
theorem RN(ts:List A2)(p:Str):(DR ts p).length<=2*ts.length:=by
 induction ts with
 | nil=>exact dD _
 | cons t r ih =>
  unfold DR at ih ⊢;rw [gF,c9,c9,c6];have h1:(if t.a=p then [(t.b,t.len)] else []).length<=1:=by split; exact Sc 1; exact dD _
  have h2:(if t.b=p then [(t.a,t.len)] else []).length<=1:=by split; exact Sc 1; exact dD _
  omega
theorem VY{ts:List A2}{t:A2}(hp:(ts++[t]).Pairwise Bp)(hlt:∀s∈ts++[t],cs s.a<cs s.b):t.b∉(DR ts t.a).map (·.1)/\t.a∉(DR ts t.b).map (·.1):=by
 rw [ig] at hp
 have key:∀s∈ts,¬((s.a=t.a/\s.b=t.b)\/(s.b=t.a/\s.a=t.b)):=λs hs e=>by
  have h1:=hp.2.2 s hs t (TM.mpr rfl);have h2:=hlt s (di _ hs);have h3:=hlt t (dG _ (TM.mpr rfl))
  rcases e with ⟨e1,e2⟩ | ⟨e1,e2⟩
  ·unfold Bp at h1
   rw [e1,e2] at h1
   rcases h1 with h | ⟨_,h⟩
   ·exact fE _ h
   ·exact fE _ h
  ·rw [e1,e2] at h2
   exact fE _ (jI h2 h3)
 refine⟨λh=>?_,λh=>?_⟩
 ·obtain⟨s,hs,e⟩:=Nn h
  exact key s hs e
 ·obtain⟨s,hs,e⟩:=Nn h
  exact key s hs (e.elim (λz=>.inr ⟨z.2,z.1⟩) λz=>.inl ⟨z.2,z.1⟩)
theorem HL{xs:List Str}(h:rising xs):xs.Nodup:=h.imp λ{a b} hlt e=>by rw [e] at hlt; exact fE _ hlt
theorem QX{xs:List Str}(h:xs.Nodup){i:Nat}(hi:i<xs.length):xs[i]∉xs.take i:=by
 have e:xs=xs.take i++xs[i]::xs.drop (i+1):=by
  rw [← e7 hi,j7]
 intro hm;rw [e,eJ] at h;exact h.2.2 _ hm _ On rfl
theorem Stp.at_{K:Frag}{M:Ch->Prop}{H H':Hp}{d:Ch}{as:List (Str×Ch)}{N:Net}(dom:∀a,M a->∃o,H a=some o)(s:Stp H d as (λp=>(DR N.ts p).map kv) H')(hp:as.map (·.1)=N.ps)(f:Ch->Obj):At K M (G3 H' (as.map (·.2)) f) (FS N) (.ref d):=by
 have nd:∀b,H b=none->¬M b:=λb e m=>by obtain⟨o,h⟩:=dom b m; rw [h] at e; cases e
 have zip1:∀as:List (Str×Ch),(as.map λx=>((.inr x.1:Key),V.ref x.2))=((as.map (·.1)).map (.inr:Str->Key)).zip (as.map λx=>V.ref x.2):=λas=>by
  induction as with
  | nil=>rfl
  | cons x r ih=>rw [dA,ih]; rfl
 refine⟨d,as.map λx=>.ref x.2,rfl,⟨nd d s.new,by rw [Eh (λhm=>by obtain⟨x,hx,e⟩:=Re.mp hm; exact(s.inn x hx).2.1 e),s.top,zip1,hp]⟩,by rw [Go,Go],?_⟩;rw [← hp]
 have go:∀bs:List (Str×Ch),(∀x∈bs,x∈as)->Ats K M (G3 H' (as.map (·.2)) f) ((bs.map (·.1)).map (Tv N.ts)) (bs.map λx=>V.ref x.2):=λbs=>by
  induction bs with
  | nil=>intro _; rfl
  | cons x r ih =>
   intro hx;refine⟨.ref x.2,r.map λx=>V.ref x.2,rfl,?_,ih λy hy=>hx y (Rs _ hy)⟩;obtain⟨g1,g2,g3⟩:=s.inn x (hx x On)
   have zip2:∀xs:List (Str×Int),xs.map kv=(xs.map λx=>(.inr x.1:Key)).zip (xs.map λx=>V.int x.2):=λxs=>by
    induction xs with
    | nil=>rfl
    | cons x r ih=>rw [dA,ih]; rfl
   refine⟨x.2,(DR N.ts x.1).map λx=>V.int x.2,rfl,⟨f x.2,nd _ g1,by rw [Rc (Re.mpr ⟨x,hx x On,rfl⟩) g3,zip2]⟩,by rw [Go,Go],?_⟩;generalize DR N.ts x.1=xs
   induction xs with
   | nil=>rfl
   | cons x r ih=>exact⟨.int x.2,_,rfl,rfl,ih⟩
 exact go as λ_ h=>h
end Nt
namespace L2
open PySem.W
section
variable {X:Cx}{zG:List (Addr×Obj)}{Z:L2.St}{H:Hp}{s:Shared}{h':Heap}
theorem Inv.adopt2{D e:Ch}{o:HO}(I:Inv X zG Z H s)(m:Ts X zG D)(hn:H D=none)(m2:Ts X zG e)(hn2:H e=none)(hne:D≠e)(k:∀b u,b≠D->b≠e->s.heap.get? b=some u->h'.get? b=some u)(new:ObjOk X.prog X.w (BK H D o) h' D o):Inv X zG Z (BK H D o) { s with heap:=h' }:=by
 have nin:∀b,b∉[D,e]->b≠D/\b≠e:=λb hc=>⟨λz=>hc (by rw [z]; exact On),λz=>hc (by rw [z]; exact Rs _ (TM.mpr rfl))⟩
 refine I.step (g':=s.gens) (d':=s.drawn) (t':=s.toks) (ch:=[D,e]) (λb hb=>?_) (λb u _ _ hc q _=>k b u (nin b hc).1 (nin b hc).2 q) (λb u _ _ hc q _=>⟨u.slots,k b u (nin b hc).1 (nin b hc).2 q⟩) (λb u hc q n=>?_)
  (λb u hc q=>⟨u,k b u (nin b hc).1 (nin b hc).2 q⟩) (λb xs q=>?_) (λb u v q=>?_) (λb ps q=>⟨#[],?_⟩) (λmm hm=>?_) (λb u q=>?_) I.bare
 ·rcases T0.mp hb with rfl | hb
  ·exact⟨.inr m.new,m.loc,m.cell,m.pin⟩
  ·rw [TM.mp hb]
   exact⟨.inr m2.new,m2.loc,m2.cell,m2.pin⟩
 ·rw [Aa (nin b hc).1]; exact n
 ·rw [Aa (Au q hn)]; exact q
 ·rw [Aa (Au q hn)]; exact q
 ·rw [Aa (Au q hn),q]; simp
 ·obtain⟨u,es,ep,ho,r⟩:=hm
  exact⟨u,es,ep,k _ u (eW m.loc) (eW m2.loc) ho,r⟩
 ·by_cases hb:b=D
  ·subst hb; rw [Ap] at q; cases q; exact new
  ·rw [Aa hb] at q
   refine(I.hok b u q).stay (λc v hc q2=>k c v ?_ ?_ q2) (λc q2=>by rw [Aa (Au q2 hn)]; exact q2) λc xs q2=>by rw [Aa (Au q2 hn)]; exact q2
   ·rcases hc with z | z
    ·rw [z]; exact hb
    ·exact Au z hn
   ·rcases hc with z | z
    ·rw [z]; exact Au q hn2
    ·exact Au z hn2
def YC(K:Frag)(sp:Sp)(te:TE):TE:=λZ H Q=>te Z H λx H1=>∃(κ:Bool) (l:Ch) (vs:List V) (keys:List (List Key)) (J:List V->Hp->Prop),x=.ref l/\SqK κ K H1 l vs/\vs.length<64/\J [] H1 /\
 (∀ks H2 v,J ks H2->vs[ks.length]?=some v->sp [v] H2 (λk H3=>J (ks++[k]) H3) E0) /\
 ∀ks H2,J ks H2->ks.length=vs.length->KeysAt K H2 ks keys/\∀(ix:List Nat) (l:Ch),M5 keys ix->H2 l=none->Q (.ref l) (BK H2 l (.lst (ix.map λi=>vs.getD i .non)))
theorem Ut{k:Nat}{f:Ch}{fd:eI}{pn fn:Str}{sp:Sp}{te:TE}{e:dO}{p fp kp pos:Pos}(F:A8 X.prog X.w X.K X.mg X.base B9 k f fd [pn] sp)(hr:Room (k+2) X.A)(hg:Gl X "sorted")(hm:X.mg "sorted"=none)
  (hgf:Gl X fn) (hmf:X.mg fn=some (.ref f)) (hb:Binds X.K fd [pn] []) (he:PE X e te) (hs:starEach [e] X.env=[(false,eval e X.env)]:=by rfl) (hdf:(fn==("__debug__":Str))=false:=by decide) :
  PE X (.Call (.Name "sorted" p) [e] [⟨some "key",.Name fn fp,kp⟩] pos) (YC X.K sp te):=by
 intro zG s Z H Q I h;refine fe (EV I hg hm iH ?_)
 refine callWith_kw (thn (CA he Ds hs pos zG s Z H (λvs H1=>∃x,vs=[x]/\∃(κ:Bool) (l:Ch) (vs:List V) (keys:List (List Key)) (J:List V->Hp->Prop),x=.ref l/\SqK κ X.K H1 l vs/\vs.length<64/\J [] H1 /\
   (∀ks H2 v,J ks H2->vs[ks.length]?=some v->sp [v] H2 (λk H3=>J (ks++[k]) H3) E0) /\
   ∀ks H2,J ks H2->ks.length=vs.length->KeysAt X.K H2 ks keys/\∀(ix:List Nat) (l:Ch),M5 keys ix->H2 l=none->Q (.ref l) (BK H2 l (.lst (ix.map λi=>vs.getD i .non)))) I ?first) λus s1 ⟨xs,H1,I1,r1,q1⟩=>kws_cons (RS I1 hgf hmf (kws_nil ?_) hdf)) (by rw [hs]; rfl) (by rw [hs]; rfl)
 case first =>
  show te Z H _;refine cast (congrArg (te Z H) ?_) h
  funext x H1
  refine propext ⟨λz=>⟨x,rfl,z⟩,fun⟨y,e,z⟩=>?_⟩;cases e;exact z
 obtain⟨x,rfl,κ,l,vs,keys,J,rfl,hq,h64,j0,jstep,jend⟩:=q1;obtain⟨u,rfl,ru⟩:=vals1 r1;cases ru;show wpAny (model X.prog X.w) X.A (call (.builtin "sorted") [.ref l] [(eE "key",.ref f)]) _ _ s1;refine HI (ksk_s1 _ _) (λx=>ksk_l1 _ _) (Pm I1 hq λus s2 r2 hz I2=>⟨by rw [← r2.length]; exact hz,?_⟩);rw [ksk_t1];have hl:=r2.length;generalize hD:s2.heap.objs.size=D;have hsz3:(s2.heap.push (seqObj "list" us.toArray 0)).objs.size=D+1:=by rw [size_push',hD]
 have hoD:(s2.heap.push (seqObj "list" us.toArray 0)).get? D=some (seqObj "list" us.toArray 0):=by rw [← hD]; exact c7 _ rfl
 have mD:Ts X zG D:=I2.mine (by rw [hD]; exact Sc _);have mK:Ts X zG (D+2):=I2.mine (by rw [hD]; exact Nat.le_add_right _ _);have nD:H1 D=none:=I2.hok.fresh (by rw [hD]; exact Sc _);have nK:H1 (D+2)=none:=I2.hok.fresh (by rw [hD]; exact Nat.le_add_right _ _);have hne:D≠D+2:=dJ (fV (jb D));have nstk:∀b,Ts X zG b->b∉Rf X.stack:=λb m z=>(T0.mp (I2.stkSub b z)).elim m.loc m.fs
 refine TB (s:={ s2 with heap:=s2.heap.push (seqObj "list" us.toArray 0) }) (n:=0) hoD (by rw [← hl]; exact h64)
  (λks s'=>∃kV H',Vals kV ks/\J kV H'/\Inv X zG Z H' s'/\H' D=none/\H' (D+2)=none/\s'.heap.get? D=(D8 (s2.heap.push (seqObj "list" us.toArray 0)) D us).get? D) (D+2) (by show D+2=(s2.heap.push _).objs.size+1; rw [hsz3]) (λe1 he1=>?_) (λks s' e v hJ hk hv=>?_) λe1 he1 ks s' hJ hkl=>?_
 ·refine⟨[],H1,.nil,j0,?_,nD,nK,rfl⟩
  exact I2.kept (t':=s2.toks) λb o q=>IR (by rw [← hD]; exact dJ (ZB q)) (No _ q)
 ·obtain⟨kV,H',rk,hJ,I',n1,n2,hD'⟩:=hJ
  have hi:ks.length<us.length:=(c8.mp hv).1;have hvi:vs[kV.length]?=some (vs[kV.length]'(by rw [rk.length]; omega)):=FM _;obtain⟨u',e2,ru⟩:=r2.get hvi;rw [rk.length,hv] at e2;cases e2;have hsp:=jstep kV H' _ hJ hvi;have E1:Env0 X.prog X.w X.K X.mg X.base X.A.in1.in1 X.stack s' H':=I'.env0.in1.in1;refine wpAny_call (jX (F.run X.A.in1.in1 X.stack s' H' ⟨[v],[]⟩ [v] _ _ E0 (hr.in1).in1 E1 (by simpa using hb s' [v] I'.kIn rfl) (.cons ru .nil) hsp) λr s'' hq'=>?_);cases r with
  | error e=>exact fQ hq'
  | ok fl =>
   cases fl with
   | next=>exact fQ hq'
   | brk=>exact fQ hq'
   | cont=>exact fQ hq'
   | ret u =>
    obtain⟨w',H3,os,bare,un,hok,rw',q3⟩:=id hq'
    obtain⟨oD,eD⟩:∃o,s'.heap.get? D=some o:=by
     obtain⟨c,hc,_⟩:=KZ hoD;exact⟨_,hD'.trans hc⟩
    have kD:s''.heap.get? D=some oD:=un.keep D oD eD n1 (nstk D mD) (by simp);have kK:s''.heap.get? (D+2)=some (seqObj "list" ks.toArray e):=un.keep _ _ hk n2 (nstk _ mK) (by simp);have f1:H3 D=none:=un.free D oD eD n1 (by simp);have f2:H3 (D+2)=none:=un.free _ _ hk n2 (by simp);have I3:Inv X zG Z H3 s'':=I'.call' os un hok bare (λb z=>absurd z (by simp));refine⟨kK,kV++[w'],H3,rk.append (.cons rw' .nil),q3,?_,f1,f2,?_⟩
    ·exact I3.turned (t':=s''.toks) (λb o hb q=>(dM _ _ (eW hb)).trans q) f2 mK.loc (.inr mK.new) mK.cell mK.pin
    ·show (s''.heap.update (D+2) _).get? D=_
     rw [dM _ _ (eW hne),kD,← eD,hD']
 ·obtain⟨kV,H',rk,hJ,I',n1,n2,hD'⟩:=hJ
  obtain⟨hka,q⟩:=jend kV H' hJ (by rw [rk.length,hkl,hl]);have hkk:keys.length=us.length:=by rw [← hka.len,rk.length,hkl]
  refine⟨hD'.trans he1,λp=>p.Perm (dQ (dW us.length))/\So.Srt Su (λi=>keys.getD i []) p us.length,λh2=>?_,λh1=>⟨jo _,λi j hij hj=>?_⟩,λp h' c hp hg hold hDn _=>⟨rfl,?_⟩⟩
  ·have ts:=MM (prog:=X.prog) (w:=X.w) (A:=X.A.in1.in1) (keys:=keys) (hka.tups I' rk λb o e=>e) (by omega) (G:=λp s''=>s''=s'/\p.Perm (dQ (dW us.length))/\So.Srt Su (λi=>keys.getD i []) p us.length) (λp a b=>⟨rfl,by rw [← hkl]; exact a,by rw [← hkl]; exact b⟩)
   rw [hkl] at ts;exact ts
  ·have:i=j:=by omega
   subst this;exact fI _
  ·have hix:(p.toList.map λi=>vs.getD i .non).length=us.length:=by rw [Go,eP,hp]
   refine⟨.ref D,BK H' D (.lst (p.toList.map λi=>vs.getD i .non)),I'.adopt2 mD n1 mK n2 hne hold ⟨by rw [hix,← hl,d7]; omega,_,c,KP (IM r2) p.toList,hDn⟩,rfl,q _ _ (Uz hkk hg.1 hg.2) n1⟩
theorem O3{α β:Type}{F:α->β->Prop}:∀{l₁:List α} {l₂:List β} {j:Nat} {a:α} {b:β},Paired F l₁ l₂->l₁[j]?=some a->l₂[j]?=some b->F a b
 | _,_,_,_,_,.nil,h,_=>by simp at h
 | _,_,0,_,_,.cons r t,h1,h2=>by
  have h1:=c_ (by simpa using h1);have h2:=c_ (by simpa using h2);subst h1 h2;exact r
 | _,_,j+1,_,_,.cons r t,h1,h2=>O3 (j:=j) t (by simpa using h1) (by simpa using h2)
end
end L2
namespace Dp
open L2
section
variable {K:Frag}
def Rj(ds:List D)(P:D->Prop):Prop:=match ds with
 | [.int i,.int j]=>P (.int (if j<i then j else i))
 | _=>False
def VW(ds:List D)(P:D->Prop):Prop:=match ds with
 | [.int i]=>P (.int (if i<0 then -i else i))
 | _=>False
theorem Vr:EJ K .sh (λxs H Q=>∃i j,xs=[.int i,.int j]/\Q (.int (if j<i then j else i)) H) Rj:=by
 intro U M H ds vs P Q dom vM hp w q;unfold Rj at w
 split at w
 ·rename_i i j
  cases hp with
  | cons r1 r2=>cases r2 with
   | cons r3 r4 =>
    cases r4;cases r1.int;cases r3.int;exact⟨i,j,rfl,q _ H (.int _) .refl rfl w⟩
 ·exact w.elim
theorem Vt:EJ K .sh (λxs H Q=>∃i,xs=[.int i]/\Q (.int (if i<0 then -i else i)) H) VW:=by
 intro U M H ds vs P Q dom vM hp w q;unfold VW at w
 split at w
 ·rename_i i
  cases hp with
  | cons r1 r2 =>
   cases r2;cases r1.int;exact⟨i,rfl,q _ H (.int _) .refl rfl w⟩
 ·exact w.elim
end
def C0:D->Option (List Key)
 | .tup xs=>HZ xs
 | _=>none
def IH(kf:D->Option (List Key))(xs:List D):Prop:=xs.Pairwise λa b=>∀ka kb,kf a=some ka->kf b=some kb->BJ kb ka=false
def Keyed(kf:D->Option (List Key))(xs:List D):Prop:=(∀x∈xs,∃k,kf x=some k/\k≠[])/\∀x∈xs,∀y∈xs,∀ka kb,kf x=some ka->kf y=some kb->CT ka kb=true
theorem range_getD(xs:List D):(dW xs.length).map (λi=>xs.getD i .non)=xs:=by
 apply List.ext_getElem
 ·simp
 ·intro i h1 h2
  simp [h2]
theorem RM{kf:D->Option (List Key)}{xs:List D}{keys:List (List Key)}{ix:List Nat}(hl:keys.length=xs.length)(hk:∀(i:Nat) (x:D),xs[i]?=some x->∃k,keys[i]?=some k/\kf x=some k)(h:M5 keys ix) :
  (ix.map λi=>xs.getD i .non).Perm xs/\IH kf (ix.map λi=>xs.getD i .non):=by
 obtain⟨hp,hs⟩:=h;constructor
 ·have:=hp.map λi=>xs.getD i D.non
  rw [hl,range_getD] at this;exact this
 ·unfold IH
  rw [jV];intro i j hi hj hij ka kb ea eb;rw [List.getElem_map] at ea eb;rw [Go] at hi hj;have il:ix.length=keys.length:=by rw [hp.length_eq,fG]
  have g:∀i (h:i<ix.length) k,kf (xs.getD ix[i] .non)=some k->keys.getD (ix.getD i 0) []=k:=λi h k e=>by
   have hm:ix[i]<keys.length:=eM.mp (hp.mem_iff.mp (eZ h));have hx:ix[i]<xs.length:=by rw [← hl]; exact hm
   obtain⟨k',e1,e2⟩:=hk ix[i] xs[ix[i]] (FM hx);have e3:xs.getD ix[i] .non=xs[ix[i]]:=by rw [dI,FM hx]; rfl
   rw [e3,e2] at e;have e4:ix.getD i 0=ix[i]:=by rw [dI,FM h]; rfl
   rw [e4,dI,e1];exact c_ e
  have:=hs i j (iT hij) (by rw [← il]; exact hj)
  rw [g i hi ka ea,g j hj kb eb] at this;exact this
theorem GD{kf:D->Option (List Key)}:∀{xs:List D},(∀x∈xs,∃k,kf x=some k/\k≠[])->∃keys:List (List Key),keys.length=xs.length/\(∀(i:Nat) (x:D),xs[i]?=some x->∃k,keys[i]?=some k/\kf x=some k/\k≠[])
 | [],_=>⟨[],rfl,λi x e=>by simp at e⟩
 | x::xs,h=>by
  obtain⟨k,e1,e2⟩:=h x On;obtain⟨keys,l,g⟩:=GD (xs:=xs) λy hy=>h y (Rs _ hy);refine⟨k::keys,by rw [c6,c6,l],λi y e=>?_⟩;cases i with
  | zero =>
   have e:x=y:=by simpa using e
   subst e;exact⟨k,rfl,e1,e2⟩
  | succ i =>
   obtain⟨k',a,b⟩:=g i y (by simpa using e);exact⟨k',by simpa using a,b⟩
section
variable {K:Frag}{M:Addr->Prop}{H:Hp}
theorem Ats.getD:∀{ds:List D} {vs:List V},Ats K M H ds vs->∀i:Nat,At K M H (ds.getD i .non) (vs.getD i .non)
 | [],vs,h,i=>by cases (show vs=[] from h); simp [At]
 | d::ds,vs,h,0=>by
  obtain⟨v,r,e,h1,h2⟩:=h;subst e
  simpa using h1
 | d::ds,vs,h,i+1=>by
  obtain⟨v,r,e,h1,h2⟩:=h;subst e
  simpa using Ats.getD h2 i
theorem Ats.pick{ds:List D}{vs:List V}(h:Ats K M H ds vs):∀ix:List Nat,Ats K M H (ix.map λi=>ds.getD i .non) (ix.map λi=>vs.getD i .non)
 | []=>rfl
 | i::ix=>⟨_,_,rfl,h.getD i,Ats.pick h ix⟩
theorem Im{kf:D->Option (List Key)}{ds:List D}{vs:List V}{keys:List (List Key)}(hkf:∀d k v,d∈ds->kf d=some k->At K M H d v->∃a,v=.ref a/\SqT K H a (k.map kOf))(hs:Ats K M H ds vs)(hK:Keyed kf ds)(hl:keys.length=ds.length)(hk:∀(i:Nat) (x:D),ds[i]?=some x->∃k,keys[i]?=some k/\kf x=some k/\k≠[]):KeysAt K H vs keys:=by
 have from_:∀(i:Nat) (ns:List Key),keys[i]?=some ns->∃x,ds[i]?=some x/\kf x=some ns/\ns≠[]:=λi ns e=>by
  have hi:i<ds.length:=by rw [← hl]; exact(c8.mp e).1
  obtain⟨k,e1,e2,e3⟩:=hk i ds[i] (FM hi);rw [e] at e1;cases e1;exact⟨ds[i],FM hi,e2,e3⟩
 refine⟨hs.length.trans hl.symm,λi ns e=>?_,λx hx y hy=>?_,λx hx=>?_⟩
 ·obtain⟨d,e1,e2,_⟩:=from_ i ns e
  obtain⟨v,e3,h3⟩:=hs.get e1;obtain⟨a,rfl,h4⟩:=hkf d ns v (eo e1) e2 h3;exact⟨a,e3,h4⟩
 ·obtain⟨i,hi⟩:=gA.mp hx
  obtain⟨j,hj⟩:=gA.mp hy;obtain⟨d,e1,e2,_⟩:=from_ i x hi;obtain⟨d',e1',e2',_⟩:=from_ j y hj;exact hK.2 d (eo e1) d' (eo e1') x y e2 e2'
 ·obtain⟨i,hi⟩:=gA.mp hx
  obtain⟨d,e1,e2,e3⟩:=from_ i x hi;exact e3
theorem Io{d:D}{k:List Key}{v:V}(e:C0 d=some k)(h:At K M H d v):∃a,v=.ref a/\SqT K H a (k.map kOf):=by
 cases d with
 | tup xs =>
  obtain⟨a,vs,e1,hn,hs⟩:=h
  have:=HY (show HZ xs=some k from e) hs
  subst this;exact⟨a,e1,hn.sq⟩
 | _=>cases e
def G5(ds:List D)(P:D->Prop):Prop:=∃d xs,ds=[d]/\IU d=some xs/\xs.length<64/\Keyed C0 xs/\∀xs':List D,xs'.Perm xs->IH C0 xs'->P (.lst xs')
theorem OH:EJ K .fr (UW K) G5:=by
 intro U M H ds vs P Q dom vM hp w q;obtain⟨d,xs,rfl,e,h64,hK,w⟩:=w;obtain⟨v,rfl,hx⟩:=Ec hp;obtain⟨κ,a,us,rfl,hs,sq⟩:=NH (U:=U) hx e (λ_ z=>z) vM;obtain⟨keys,hl,hk⟩:=GD hK.1;refine⟨κ,a,us,keys,rfl,sq M H (Pres.refl _ _) (Ext.refl _ _),by rw [hs.length]; exact h64,Im (λd k v _=>Io) hs hK hl hk,λix l ho hn=>?_⟩;obtain⟨o1,o2⟩:=RM (kf:=C0) hl (λi x e=>by obtain⟨k,a,b,_⟩:=hk i x e; exact⟨k,a,b⟩) ho;exact q _ _ (.lst (ix.map λi=>xs.getD i .non)) (BH hn) (Fh hn (hs.pick ix)) (w _ o1 o2)
end
section
variable {X:Cx}{a e:Expr}{zT:Kd}{wa:DW}{pos p fp kp:Pos}
def T7(W:W2)(wa:DW):DW:=λn ρ P=>wa n ρ λd n1=>∃(xs:List D) (rk:D->D),IU d=some xs/\xs.length<64/\(∀x∈xs,∀Pd:D->Nat->Prop,Pd (rk x) n1->W [.sh x] n1 Pd)/\Keyed (λx=>C0 (rk x)) xs /\
 ∀xs':List D,xs'.Perm xs->IH (λx=>C0 (rk x)) xs'->P (.lst xs') n1
theorem Vc{k:Nat}{fn pn:Str}{W:W2}(G:Got X.prog X.w X.K X.mg X.base fn k [pn] .sh W)(hr:Room (k+2) X.A)(hg:Gl X "sorted")(hm:X.mg "sorted"=none)(hgf:Gl X fn)(he:DE X e zT wa)
  (hs:starEach [e] X.env=[(false,eval e X.env)]:=by rfl) (hdf:(fn==("__debug__":Str))=false:=by decide):DE X (.Call (.Name "sorted" p) [e] [⟨some "key",.Name fn fp,kp⟩] pos) .fr (T7 W wa):=by
 obtain⟨f,fd,F,hmf,hkf,hb,hW⟩:=G;obtain⟨t,h1,h2⟩:=he;refine⟨_,Ut F hr hg hm hgf hmf hb h1 hs hdf,λC M H n ρ Z P Q R w q=>?_⟩;refine h2 C M H n ρ Z _ _ R w λv H1 d n1 e1 f1 r1 p=>?_;obtain⟨xs,rk,hd,h64,hw,hK,w⟩:=p;have R1:=R.step e1 f1;obtain⟨κ,l,us,rfl,hs,sq⟩:=NH (U:=C.U) (r1.tpOf R.dom R.vM) hd R.uV R1.vM;obtain⟨keys,hl,hk⟩:=GD hK.1;have hlen:=hs.length;refine⟨κ,l,us,keys,λks H2=>Ext C.U H1 H2/\FeedC X.K C.F M H2 n1/\ks.length<=xs.length/\∀(i:Nat) (k:V),ks[i]?=some k->∃x,xs[i]?=some x/\At X.K M H2 (rk x) k,rfl,sq M H1 (Pres.refl _ _) (Ext.refl _ _),by rw [hlen]; exact h64,⟨Ext.refl _ _,f1,dD _,λi k z=>absurd (show (none:Option V)=some k from z) (λh=>nomatch h)⟩,λks H2 v hJ hv=>?_,λks H2 hJ hkl=>?_⟩
 ·obtain⟨ex,fd2,hle,hat⟩:=hJ
  have R2':=R1.step ex fd2;have hi:ks.length<xs.length:=by rw [← hlen]; exact(c8.mp hv).1
  have hxi:xs[ks.length]?=some xs[ks.length]:=FM hi;obtain⟨v',e2,hA⟩:=(hs.pres (R1.pres ex)).get hxi;rw [hv] at e2;cases e2;refine⟨rfl,C.F,C.U,C.V,M,n1,[.sh xs[ks.length]],λd n=>d=rk xs[ks.length]/\n=n1,⟨R2'.dom,R2'.fU,R2'.uV,R2'.vM,fd2,.cons ⟨⟨v,rfl,hA⟩,rfl⟩ .nil⟩,hw _ (eZ hi) _ ⟨rfl,rfl⟩,λr H3 d n' ex3 f3 vr hd=>?_⟩;obtain⟨rfl,rfl⟩:=hd;refine⟨ex.trans ex3,f3,by rw [c9,dR]; omega,λi k hik=>?_⟩
  by_cases hlt:i<ks.length
  ·rw [gG hlt] at hik
   obtain⟨x,h3,h4⟩:=hat i k hik;exact⟨x,h3,h4.pres (R2'.pres ex3)⟩
  ·rw [eQ (by omega)] at hik
   have hi0:i=ks.length:=by
    have:=(c8.mp hik).1
    rw [dR] at this;omega
   subst hi0;rw [ic] at hik;cases (show some r=some k from hik);exact⟨_,hxi,vr⟩
 ·obtain⟨ex,fd2,hle,hat⟩:=hJ
  have R2':=R1.step ex fd2;have hkx:ks.length=xs.length:=by rw [hkl,hlen]
  have hs2:Ats X.K M H2 (xs.map rk) ks:=by
   have go:∀(xs:List D) (ks:List V),ks.length=xs.length->(∀(i:Nat) (k:V),ks[i]?=some k->∃x,xs[i]?=some x/\At X.K M H2 (rk x) k)->Ats X.K M H2 (xs.map rk) ks:=by
    intro xs
    induction xs with
    | nil=>intro ks h _; exact fk.mp h
    | cons x xs ih =>
     intro ks h hh;cases ks with
     | nil=>cases h
     | cons k ks =>
      obtain⟨x',e3,h3⟩:=hh 0 k rfl;cases (show some x=some x' from e3)
      exact⟨k,ks,rfl,h3,ih ks (by simpa using h) λi k' e4=>by
       obtain⟨y,e5,h5⟩:=hh (i+1) k' (by simpa using e4);exact⟨y,by simpa using e5,h5⟩⟩
   exact go xs ks hkx hat
  have hK2:Keyed C0 (xs.map rk):=by
   refine⟨λy hy=>?_,λy hy z hz ka kb ea eb=>?_⟩
   ·obtain⟨x,hx,rfl⟩:=Re.mp hy
    exact hK.1 x hx
   ·obtain⟨x,hx,rfl⟩:=Re.mp hy
    obtain⟨x',hx',rfl⟩:=Re.mp hz;exact hK.2 x hx x' hx' ka kb ea eb
  refine⟨Im (λd k v _=>Io) hs2 hK2 (by rw [hl,Go]) λi x e=>?_,λix l ho hn=>?_⟩
  ·rw [dC] at e
   obtain⟨x',hx',rfl⟩:=d6.mp e;exact hk i x' hx'
  ·obtain⟨o1,o2⟩:=RM (kf:=λx=>C0 (rk x)) hl (λi x e=>by obtain⟨k,a,b,_⟩:=hk i x e; exact⟨k,a,b⟩) ho
   have g:Grow H2 (BK H2 l (.lst (ix.map λi=>us.getD i .non))):=BH hn;refine q _ _ (.lst (ix.map λi=>xs.getD i .non)) n1 ((e1.trans ex).trans g.ext) (fd2.grow g) (VR.back (e1.trans ex) ?_) (w _ o1 o2);exact Fh hn ((hs.pres (R1.pres ex)).pick ix)
def Zj:Key->D
 | .inl i=>.int i
 | .inr x=>.str x
def RW:Key->Prop
 | .inl _=>True
 | .inr x=>x.length<=sizeLine
theorem ZK{K:Frag}{M:Ch->Prop}{H:Hp}{k:Key}(h:RW k):At K M H (Zj k) (kOf k):=by
 cases k with
 | inl i=>exact rfl
 | inr x=>exact⟨rfl,h⟩
end
end Dp
namespace L2
section
open PySem.MeetsSeq
open PySem.AutoSeq1 (wpAny_loadPart')
theorem US(l:Ch)(items:Array Ev)(n:Nat)(x:Ev)(e:Ev->Bool)(j:Nat)(hj:j<items.size)(hit:e items[j]=true)(hs1:items.size<=sizeLine)(prog:dZ)(w:dh)(A:eC)(R:Result->Op->Prop)(hp:dL)(g:Array GenState)(d:Drawn)(tk:Nat)(os:_)
  (hl:hp.get? l=some { cls:=.type "list",dict:=none,data:=.seq items n,slots:=#[] }) (he:∀y,y∈items->PySem.SeqAt.EqAt A.in1 ⟨hp,g,d,tk,os⟩ y x (e y)) (h:R (.ok (.ret .none)) ⟨hp.update l (eB λxs=>xs.eraseIdxIfInBounds j),g,d,tk,os⟩) :
  ∀k i:Nat,j - i=k->i<=j->(∀m (hm:m<items.size),i<=m->m<j->e items[m]=false) ->
   wpAny (model prog w) A.in1 (fq.«list.remove.loop» ⟨[.ref l,x,rawInt i],[]⟩) (λfin s'=>match fin with | .done f=>R (.ok f) s' | .again c'=>c'.quiet=true/\codeAny (model prog w) A c' R s') (λe s'=>R (.error e) s') ⟨hp,g,d,tk,os⟩:=by
 intro k
 induction k with
 | zero =>
  intro i hk hij hno;have hij':i=j:=by omega
  subst hij'
  wp_walk using eX hl
  have hi:items[((i:Nat):Int).toNat]?=some items[i]:=by simp [hj]
  rw [hi];refine Db (he _ (jS hj) prog w _ _ ?_);rw [hit];have hz':(items.eraseIdxIfInBounds i).size<=sizeLine+1:=de (size_erased items _) (Nat.le_succ_of_le hs1)
  wp_walk using (ik hl rfl (hz:=hs1) (_hz':=hz')),eX hl
  simpa using h
 | succ k ih =>
  intro i hk hij hno;have hlt:i<items.size:=by omega
  wp_walk using eX hl
  have hi:items[((i:Nat):Int).toNat]?=some items[i]:=by simp [hlt]
  have hc:((i:Int)+1)=((i+1:Nat):Int):=by push_cast; rfl
  rw [hi];refine Db (he _ (jS hlt) prog w _ _ ?_);rw [hno i hlt (Sc _) (by omega)]
  wp_walk
  rw [hc]
  exact⟨fD plain_remove_loop _,eY entry_remove_loop (by
   rw [eL plain_remove_loop _];exact ih (i+1) (by omega) (by omega) (λm hm h1 h2=>hno m hm (by omega) h2))⟩
theorem UT{prog:dZ}{w:dh}{A:eC}{E:Ev->Op->Prop}{s:Op}{Q:Ev->Op->Prop}(l:Ch)(items:Array Ev)(n:Nat)(x:Ev)(e:Ev->Bool)(j:Nat)(hj:j<items.size)(hit:e items[j]=true)(hno:∀m (hm:m<items.size),m<j->e items[m]=false)
  (hs1:items.size<=sizeLine) (hl:s.heap.get? l=some { cls:=.type "list",dict:=none,data:=.seq items n,slots:=#[] }) (he:∀y,y∈items->PySem.SeqAt.EqAt A.in1 s y x (e y))
  (h:Q .none { s with heap:=s.heap.update l (eB λxs=>xs.eraseIdxIfInBounds j) }):wpAny (model prog w) A (call (.builtin "list.remove") [.ref l,x]) Q E s:=by
 have key:wpAny (model prog w) A.in1 (fq.«list.remove» ⟨[.ref l,x],[]⟩) (λfin s'=>match fin with | .done f=>wants Q E (.ok f) s' | .again c'=>c'.quiet=true/\codeAny (model prog w) A c' (wants Q E) s') (λe s'=>wants Q E (.error e) s') s:=by
  obtain⟨hp,g,d,tk,os⟩:=s
  wp_walk using eX hl
  exact⟨fD plain_remove_loop _,eY entry_remove_loop (by
   rw [eL plain_remove_loop _];exact US l items n x e j hj hit hs1 prog w A (wants Q E) hp g d tk os hl he h _ 0 rfl (dD _) (λm hm _ h2=>hno m hm h2))⟩
 exact wpAny_call (codeAny_call_builtin PySem.F.slot_list_remove.plain PySem.F.entry_list_remove (PySem.F.slot_list_remove.check _ _ _ _ _ _ _ _ ⟨_,hl,rfl⟩ (PySem.F.args_list_remove_2 _ _) key))
end
section
variable {X:Cx}
def RB:V->List V->Hp->VK->Prop:=λx vs H Q=>∃(l:Ch) (xs:List V) (y:V) (ds:List gT) (d:gT) (j:Nat),x=.ref l/\vs=[y]/\H l=some (.lst xs)/\RVs H ds xs/\RV H d y/\fF ds=true/\d.canLay0=true/\d.depth<=100 /\
 (∃dj,ds[j]?=some dj/\eN dj d=true)/\(∀m dm,m<j->ds[m]?=some dm->eN dm d=false)/\Q .non (BK H l (.lst (xs.eraseIdx j)))
theorem S7{k:Nat}(hr:Room k X.A):Zc X "list.remove" RB:=by
 intro zG s Z H x vs v us Q I rx rv h;obtain⟨l,xs,y,ds,d,j,rfl,rfl,hH,hds,hd,c1,c2,dd,⟨dj,hj,hit⟩,hno,q⟩:=h;cases rx;obtain⟨u,rfl,ru⟩:=rv.one;obtain⟨z,its,n,r,hl,e⟩:=I.lstM hH;obtain⟨as,ra⟩:=RVs.reads I hds r;obtain⟨bs,rb⟩:=RV.reads I hd ru;have hm:=PySem.SeqAt.readsAll_map ds its as c1 ra;have hlen:ds.length=its.length:=by rw [← hm,Go]
 have hu:=hr.un;have hmin:min (eO ds) d.depth<=d.depth:=gj _ _
 have at_:∀m dm,ds[m]?=some dm->∀(h:m<its.toArray.size),PySem.SeqAt.readOf s.heap its.toArray[m]=dm:=λm dm e h=>by
  rw [← hm,dC] at e;have h':m<its.length:=by simpa using h
  rw [FM h'] at e;have e:=c_ e
  simpa using e
 have hjl:j<its.length:=by rw [← hlen]; exact(c8.mp hj).1
 refine UT l its.toArray n u (λy=>eN (PySem.SeqAt.readOf s.heap y) d) j (by rw [Tk]; exact hjl) (by rw [at_ j dj hj]; exact hit) (λm hm' hlt=>?_) (by rw [Tk]; omega) e (PySem.SeqAt.items_eqAt (vs:=its.toArray) (by rw [gw]; exact ra) rb c1 c2 (by omega)) ?_
 ·have hml:m<ds.length:=by rw [hlen]; simpa using hm'
  rw [at_ m ds[m] (FM hml) hm'];exact hno m ds[m] hlt (FM hml)
 ·refine⟨.non,_,I.lset (t':=s.toks) (its':=its.eraseIdx j) hH e ?_ (r.eraseIdx j) ?_,rfl,q⟩
  ·show its.toArray.eraseIdxIfInBounds j=(its.eraseIdx j).toArray
   rw [List.eraseIdxIfInBounds_toArray]
  ·have:=MV xs j
   omega
end
end L2
namespace Dp
open L2
def ac(d:D)(ds:List D)(P:D->D->Prop):Prop:=∃(xs:List D) (y:D) (j:Nat),d=.lst xs/\ds=[y]/\Ci (.lst xs)/\Ci y/\(∃x,xs[j]?=some x/\GF x y=true)/\(∀m x,m<j->xs[m]?=some x->GF x y=false)/\P (.lst (xs.eraseIdx j)) .non
theorem aq{K:Frag}:Zb K RB ac:=by
 intro M H a d ds vs P Q m t hv w q;obtain⟨xs,y,j,rfl,rfl,⟨n1,l1,_⟩,⟨n2,l2,d2⟩,⟨x,hx,hit⟩,hno,w⟩:=w;obtain⟨us,h1,h2⟩:=t;obtain⟨u,r,rfl,hu,hr⟩:=hv;cases (show r=[] from hr)
 have get:∀(m:Nat) (p:gT),(A6 xs)[m]?=some p->∃x,xs[m]?=some x/\p=toPy x:=λm p e=>by
  rw [DV,dC] at e;obtain⟨x,e1,rfl⟩:=d6.mp e;exact⟨x,e1,rfl⟩
 refine⟨a,us,u,A6 xs,toPy y,j,rfl,rfl,h1,h2.rv n1,hu.rv n2,l1,l2,d2,⟨toPy x,by rw [DV,dC,hx]; rfl,hit⟩,λm p hm e=>?_,q _ (.lst (xs.eraseIdx j)) .non _ ⟨us.eraseIdx j,Ap,?_⟩ rfl w⟩
 ·obtain⟨x',e1,rfl⟩:=get m p e
  exact hno m x' hm e1
 ·exact(h2.eraseIdx j).pres (GB m h1)
def KJ(c:JR)(wb:Ai):Ai:=λD2 n ρ=>∃W:Nat->Nat->List Slot->Prop,(∃m,W m n ρ)/\∀m n ρ,W m n ρ ->
 c n ρ λb n1=>if b=true then ∃N:Nat->List Slot->Prop,(∀n' zY,N n' zY->∃m',m'<m/\W m' n' zY)/\wb { D2 with nx:=N,ct:=N,bk:=D2.nx } n1 ρ else D2.nx n1 ρ
section
variable {X:Cx}{κ:Kd}{c:Expr}{body:List Stmt}{wc:JR}{wb:Ai}{pos:Pos}
theorem LK(hp:jm (model X.prog X.w) X.A X.env X.xe)(hc:DT X c wc)(hb:Tx X κ body wb):DS X κ (.While c body [] pos) (KJ wc wb):=by
 obtain⟨tc,c1,c2⟩:=hc;obtain⟨tb,b1,b2⟩:=hb;refine⟨_,Uh hp c1 b1,λC M H n ρ Z D2 E R L w=>?_⟩;obtain⟨W,⟨m0,w0⟩,turn⟩:=w;refine⟨λm zZ H'=>∃M' n' zY,Rel X.K C M' H' n' zY zZ/\W m n' zY,⟨m0,M,n,ρ,R,w0⟩,?_⟩;rintro m zZ H' ⟨M',n',zY,R',w'⟩;refine c2 C M' H' n' zY zZ _ _ R' (turn m n' zY w') λb H2 n2 e f p=>?_;have R2:=R'.step e f;cases b with
 | true =>
  rw [if_pos rfl] at p ⊢;obtain⟨N,hN,p⟩:=p;refine⟨λzV H3=>∃M3 n3 zQ,Rel X.K C M3 H3 n3 zQ zV/\N n3 zQ,λzV H3 ⟨M3,n3,zQ,R3,w3⟩=>?_,?_⟩
  ·obtain⟨m',hm,w4⟩:=hN n3 zQ w3
   exact⟨m',hm,M3,n3,zQ,R3,w4⟩
  ·exact b2 C M' H2 n2 zY zZ { D2 with nx:=N,ct:=N,bk:=D2.nx } _ R2 ⟨λM4 H4 n4 zS zR R4 w4=>⟨M4,n4,zS,R4,w4⟩,L.rt,λM4 H4 n4 zS zR R4 w4=>L.nx M4 H4 n4 zS zR R4 w4,λM4 H4 n4 zS zR R4 w4=>⟨M4,n4,zS,R4,w4⟩⟩ p
 | false =>
  rw [if_neg (by decide)] at p ⊢;exact L.nx M' H2 n2 zY zZ R2 p
theorem IL{D2:E2}{n:Nat}{ρ:List Slot}(I:Nat->Nat->List Slot->Prop)(m0:Nat)(h0:I m0 n ρ)
  (hs:∀m n ρ (N:Nat->List Slot->Prop),I m n ρ->(∀m' n' zY,m'<m->I m' n' zY->N n' zY)->wc n ρ λb n1=>if b=true then wb { D2 with nx:=N,ct:=N,bk:=D2.nx } n1 ρ else D2.nx n1 ρ)
  (mono:∀n ρ (P Q:Bool->Nat->Prop),(∀b n1,P b n1->Q b n1)->wc n ρ P->wc n ρ Q):KJ wc wb D2 n ρ:=by
 refine⟨I,⟨m0,h0⟩,λm n ρ h=>?_⟩;refine mono n ρ _ _ (λb n1 p=>?_) (hs m n ρ (λn' zY=>∃m',m'<m/\I m' n' zY) h λm' n' zY hm hi=>⟨m',hm,hi⟩);cases b with
 | true=>rw [if_pos rfl] at p ⊢; exact⟨_,λ_ _ z=>z,p⟩
 | false=>exact p
end
end Dp
namespace Nt
open L2 Dp
def Zu(s t:A2):Decidable (s=t) :=
 if h:s.a=t.a/\s.b=t.b/\s.len=t.len then .isTrue (by obtain⟨a,b,l⟩:=s; obtain⟨a',b',l'⟩:=t; obtain⟨h1,h2,h3⟩:=h; simp only at h1 h2 h3; subst h1 h2 h3; rfl) else .isFalse λe=>h (by rw [e]; exact⟨rfl,rfl,rfl⟩)
instance:DecidableEq A2:=Zu
abbrev EF(Pd:D->Nat->Prop):E2:={ nx:=λn _=>Kd.fr=.sh/\Pd .non n,rt:=Pd }
def Bn(t:A2):List Key:=[.inl t.len,.inr t.a,.inr t.b]
def Ck(ts:List A2):Prop:=ts.Pairwise λs t=>BJ (Bn t) (Bn s)=false
def Oy:D->D
 | .tup [x,y,z]=>.tup [z,x,y]
 | d=>d
def bK(x:Str×Int):D:=.tup [.str x.1,.int x.2]
abbrev Mw:W2:=λss n P=>∃x y z:D,ss=[.sh (.tup [x,y,z])]/\P (.tup [z,x,y]) n
def DK:W2:=λss n P=>∃(d:D) (ts:List A2),ss=[.sh d]/\IU d=some (ts.map Aj)/\ts.length<64/\∀ts':List A2,ts'.Perm ts->Ck ts'->P (.lst (ts'.map Aj)) n
def Mn:Ai:=(Aq (Bg (AG (AS Ax (AB 0) (wC (D.int 2))) (AG (AS Ax (AB 0) (wC (D.int 0))) (AG (AS Ax (AB 0) (wC (D.int 1))) AW)))))
def LZ:Ai:=(Aq (T7 Mw (AB 0)))
theorem Oj{s t:A2}(h:Bn s=Bn t):s=t:=by
 obtain⟨a,b,l⟩:=s;obtain⟨a',b',l'⟩:=t;unfold Bn at h;simp only [List.cons.injEq,Sum.inl.injEq,Sum.inr.injEq,and_true] at h;obtain⟨rfl,rfl,rfl⟩:=h;rfl
theorem Na{α:Type}{R:α->α->Prop}(anti:∀a b,R a b->R b a->a=b):∀{l1 l2:List α},l1.Perm l2->l1.Pairwise R->l2.Pairwise R->l1=l2
 | [],l2,p,_,_=>(List.nil_perm.mp p).symm
 | a::l1,[],p,_,_=>absurd (List.perm_nil.mp p) (fb _ _)
 | a::l1,b::l2,p,h1,h2=>by
  have e:a=b:=by
   rcases T0.mp (p.mem_iff.mp On) with e | h
   ·exact e
   ·rcases T0.mp (p.mem_iff.mpr (On (a:=b) (l:=l2))) with e | h'
    ·exact e.symm
    ·exact anti a b ((eA.mp h1).1 b h') ((eA.mp h2).1 a h)
  subst e;rw [Na anti ((List.perm_cons a).mp p) (eA.mp h1).2 (eA.mp h2).2]
theorem C6{l1 l2:List A2}(p:l1.Perm l2)(h1:Ck l1)(h2:Ck l2):l1=l2:=Na (λa b x y=>Oj (Cy _ _ y x)) p h1 h2
theorem Q4{α:Type}{f:α->D}{g:D->α}(hg:∀x,g (f x)=x){xs:List D}{ts:List α}(h:xs.Perm (ts.map f)):∃ts':List α,ts'.Perm ts/\xs=ts'.map f:=by
 refine⟨xs.map g,?_,?_⟩
 ·have:=h.map g
  rw [eF,show g∘f=id from funext hg,List.map_id] at this;exact this
 ·rw [eF]
  have:∀x∈xs,(f∘g) x=x:=λx hx=>by
   obtain⟨t,_,rfl⟩:=Re.mp (h.mem_iff.mp hx);show f (g (f t))=f t;rw [hg]
  rw [gv this,List.map_id']
def ZH:D->A2
 | .tup [.str a,.str b,.int l]=>⟨a,b,l⟩
 | _=>⟨"","",0⟩
section
variable {ss:List Slot}{n:Nat}{Pd:D->Nat->Prop}
theorem QH(h:Mw ss n Pd):Mn (EE Pd) n (ss++XV 0 .no):=by
 obtain⟨x,y,z,rfl,p⟩:=h;unfold Mn;exact⟨_,AH (j:=2) rfl,_,AH (j:=0) rfl,_,AH (j:=1) rfl,z3,p⟩
theorem Uy{ts:List A2}(h:IH (λx=>C0 (Oy x)) (ts.map Aj)):Ck ts:=by
 unfold IH at h;rw [fW] at h;exact h.imp λ{s t} z=>z _ _ rfl rfl
theorem Om(h:DK ss n Pd):LZ (EF Pd) n (ss++XV 0 .no):=by
 obtain⟨d,ts,rfl,hd,h64,p⟩:=h;unfold LZ;refine⟨ts.map Aj,Oy,hd,by rw [Go]; exact h64,λx hx Q hq=>?_,⟨λx hx=>?_,λx hx y hy ka kb ea eb=>?_⟩,λxs' hp ho=>?_⟩
 ·obtain⟨t,_,rfl⟩:=Re.mp hx
  exact⟨_,_,_,rfl,hq⟩
 ·obtain⟨t,_,rfl⟩:=Re.mp hx
  exact⟨Bn t,rfl,fb _ _⟩
 ·obtain⟨t,_,rfl⟩:=Re.mp hx
  obtain⟨u,_,rfl⟩:=Re.mp hy;cases (show some (Bn t)=some ka from ea);cases (show some (Bn u)=some kb from eb);rfl
 ·obtain⟨ts',h1,rfl⟩:=Q4 (g:=ZH) (λ_=>rfl) hp
  exact p ts' h1 (Uy ho)
theorem Np{N:Net}(ok:N.Ok){x:Str}{p:Str×Int}(h:p∈DR N.ts x):p.1∈N.ps/\1<=p.2/\p.2<=1000000/\∃t∈N.ts,t.len=p.2/\((t.a=x/\t.b=p.1)\/(t.b=x/\t.a=p.1)):=by
 unfold DR at h;obtain⟨t,ht,h⟩:=fZ.mp h;obtain⟨m1,m2,m3,m4,m5⟩:=ok.tin t ht
 rcases dN.mp h with h | h
 ·split at h
  ·rename_i e
   rw [TM.mp h];exact⟨m2,m4,m5,t,ht,rfl,.inl ⟨e,rfl⟩⟩
  ·cases h
 ·split at h
  ·rename_i e
   rw [TM.mp h];exact⟨m1,m4,m5,t,ht,rfl,.inr ⟨e,rfl⟩⟩
  ·cases h
theorem TK(s t:A2):Eg (Bn s) (Bn t)=BJ (Bn s) (Bn t):=GC _ _ rfl
theorem Rn(s t:A2):GF (Aj s) (Aj t)=true↔s=t:=by
 obtain⟨a,b,l⟩:=s;obtain⟨a',b',l'⟩:=t;show (a==a'&&(b==b'&&(l==l'&&true)))=true↔_;rw [iM,UF,UF,beq_iff_eq,beq_iff_eq,beq_iff_eq];constructor
 ·rintro ⟨rfl,rfl,rfl⟩; rfl
 ·rintro h; cases h; exact⟨rfl,rfl,rfl⟩
theorem MW{xs:List D}(h:∀d∈xs,item d):Ci (.lst xs):=by
 have d1:Hk xs<=1:=dps_le.mpr λd hd=>(h d hd).2.2;exact CU (B:=1000001) (by decide) (fines_iff.mpr λd hd=>(h d hd).1) (by show Hk xs+1<=100; omega)
theorem Ma{α β:Type}(f:α->β):∀(l:List α) (i:Nat),(l.map f).eraseIdx i=(l.eraseIdx i).map f
 | [],i=>rfl
 | x::l,0=>rfl
 | x::l,i+1=>by
  show f x::(l.map f).eraseIdx i=f x::(l.eraseIdx i).map f;rw [Ma f l i]
theorem Ws{N:Net}(ok:N.Ok){x o:Str}{s t:A2}(hs:s∈N.ts)(ht:t∈N.ts)(e:Bp s t)(h1:(s.a=x/\s.b=o)\/(s.b=x/\s.a=o))(h2:(t.a=x/\t.b=o)\/(t.b=x/\t.a=o)):False:=by
 have ls:=(ok.tin s hs).2.2.1;have lt:=(ok.tin t ht).2.2.1;have irr:∀a:Str,¬cs a<cs a:=λa=>fE _
 rcases h1 with ⟨a1,b1⟩ | ⟨a1,b1⟩ <;> rcases h2 with ⟨a2,b2⟩ | ⟨a2,b2⟩ <;> rw [a1,b1] at ls <;> rw [a2,b2] at lt
 ·rcases e with e | ⟨_,e⟩
  ·rw [a1,a2] at e; exact irr _ e
  ·rw [b1,b2] at e; exact irr _ e
 ·exact irr _ (jI ls lt)
 ·exact irr _ (jI ls lt)
 ·rcases e with e | ⟨_,e⟩
  ·rw [b1,b2] at e; exact irr _ e
  ·rw [a1,a2] at e; exact irr _ e
theorem MS{N:Net}(ok:N.Ok)(x:Str):((DR N.ts x).map (·.1)).Nodup:=by
 have go:∀ts:List A2,(∀t∈ts,t∈N.ts)->ts.Pairwise Bp->((DR ts x).map (·.1)).Nodup:=by
  intro ts
  induction ts with
  | nil=>intro _ _; exact d8
  | cons t ts ih =>
   intro hin hp;have i1:=ih (λs hs=>hin s (Rs _ hs)) (eA.mp hp).2;have lt:=(ok.tin t (hin t On)).2.2.1
   have new:∀y,((t.a=x/\t.b=y)\/(t.b=x/\t.a=y))->y∉(DR ts x).map (·.1):=λy hy hm=>by
    obtain⟨s,hs,h⟩:=Nn hm;exact Ws ok (hin t On) (hin s (Rs _ hs)) ((eA.mp hp).1 s hs) hy h
   have e:DR (t::ts) x=((if t.a=x then [(t.b,t.len)] else [])++(if t.b=x then [(t.a,t.len)] else []))++DR ts x:=by
    unfold DR;rw [gF]
   rw [e]
   by_cases h1:t.a=x
   ·have h2:¬t.b=x:=λz=>by rw [h1,z] at lt; exact fE _ lt
    rw [if_pos h1,if_neg h2,dX,iP,dA,dP];exact⟨new _ (.inl ⟨h1,rfl⟩),i1⟩
   ·rw [if_neg h1,dE]
    by_cases h2:t.b=x
    ·rw [if_pos h2,iP,dA,dP]
     exact⟨new _ (.inr ⟨h2,rfl⟩),i1⟩
    ·rw [if_neg h2,dE]
     exact i1
 exact go N.ts (λ_ h=>h) ok.trise
end
theorem QA:∀c,97<=c->c<=122->gp 39 c=[c]:=by
 have:∀c<123,97<=c->gp 39 c=[c]:=by decide +kernel
 exact λc h1 h2=>this c (by omega) h1
theorem LD:∀(l:List Nat) (acc:Array Nat),(∀c∈l,97<=c/\c<=122)->(l.foldl (λout c=>out++(gp 39 c).toArray) acc).toList=acc.toList++l
 | [],acc,_=>by simp
 | c::l,acc,h=>by
  have hc:=h c On;rw [List.foldl_cons,LD l _ λd hd=>h d (Rs _ hd),QA c hc.1 hc.2];simp
theorem Bc{x:Str}(h:EA x):∀c∈cs x,97<=c/\c<=122:=λc hc=>by
 have:=h.2.2 c hc
 first | exact this | (rw [UF,decide_eq_true_eq,decide_eq_true_eq] at this; exact this)
theorem J6{x:Str}(h:EA x):cs (reprText x)=39::(cs x++[39]):=by
 have hs:=Bc h
 have hq:reprQuote x=39:=by
  unfold reprQuote
  have:x.cps.contains 39=false:=by
   rw [fX];intro hc
   have hm:39∈cs x:=by
    have:=Array.contains_iff_mem.mp hc
    exact j_.mpr this
   have:=hs 39 hm
   omega
  rw [this];rfl
 unfold reprText;rw [hq];show ((x.cps.foldl (λout c=>out++(gp 39 c).toArray) #[39]).push 39).toList=_;rw [← Array.foldl_toList,Array.toList_push,LD x.cps.toList _ hs];rfl
def Tu:List Str->List Nat->List Nat
 | [],f=>f
 | p::r,f=>44::32::39::(cs p++39::Tu r f)
theorem Vi:cs (", ":Str)=[44,32]:=by decide +kernel
theorem CI:∀(p:Str) (r:List Str) (f:List Nat),(∀q∈p::r,EA q)->cs (Str.join ", " ((p::r).map reprText))++f=39::(cs p++39::Tu r f)
 | p,[],f,h=>by
  show cs (reprText p)++f=_;rw [J6 (h p On)];simp [Tu]
 | p,q::r,f,h=>by
  show cs (reprText p ++ ", "++Str.join ", " ((q::r).map reprText))++f=_;rw [C3,C3,J6 (h p On),dg,CI q r f λz hz=>h z (Rs _ hz),Vi];simp [Tu]
theorem Ur:∀{a b r r':List Nat},(∀c∈a,97<=c/\c<=122)->(∀c∈b,97<=c/\c<=122)->a++39::r=b++39::r'->a=b/\r=r'
 | [],[],r,r',_,_,h=>⟨rfl,(em h).2⟩
 | [],c::b,r,r',_,hb,h=>by
  have:=hb c On
  have e:=(em h).1;omega
 | c::a,[],r,r',ha,_,h=>by
  have:=ha c On
  have e:=(em h).1;omega
 | c::a,d::b,r,r',ha,hb,h=>by
  have h:=em h;obtain⟨e1,e2⟩:=Ur (λz hz=>ha z (Rs _ hz)) (λz hz=>hb z (Rs _ hz)) h.2;exact⟨by rw [h.1,e1],e2⟩
def Y7(f:List Nat):Prop:=f=[41]\/f=[44,41]
theorem Q5:∀{r r':List Str} {f f':List Nat},(∀q∈r,EA q)->(∀q∈r',EA q)->Y7 f->Y7 f'->Tu r f=Tu r' f'->r=r'
 | [],[],_,_,_,_,_,_,_=>rfl
 | [],q::r',f,f',_,_,hf,_,h=>by
  have h:f=44::32::39::(cs q++39::Tu r' f'):=h
  rcases hf with e | e <;> rw [e] at h <;> simp at h
 | q::r,[],f,f',_,_,_,hf,h=>by
  have h:44::32::39::(cs q++39::Tu r f)=f':=h
  rcases hf with e | e <;> rw [e] at h <;> simp at h
 | q::r,q'::r',f,f',h1,h2,hf,hf',h=>by
  have h:44::32::39::(cs q++39::Tu r f)=44::32::39::(cs q'++39::Tu r' f'):=h;have h:cs q++39::Tu r f=cs q'++39::Tu r' f':=by injection h with _ h; injection h with _ h; injection h with _ h
  obtain⟨e1,e2⟩:=Ur (Bc (h1 q On)) (Bc (h2 q' On)) h;rw [LQ e1,Q5 (λz hz=>h1 z (Rs _ hz)) (λz hz=>h2 z (Rs _ hz)) hf hf' e2]
theorem KS:∀ps:List Str,A6 (ps.map .str)=ps.map PyData.str
 | []=>rfl
 | p::r=>by
  show PyData.str p::A6 (r.map .str)=_;rw [KS r];rfl
theorem Kb(ps:List Str):BB (.tup (ps.map .str))=tupleText (ps.map reprText):=by
 show (PyData.tuple (A6 (ps.map .str))).shown=_;rw [KS,jd,PyData.shownAll_strs]
theorem XA:cs ("(":Str)=[40]:=by decide +kernel
theorem ZO(b:Bool):cs ((if b=true then ",)" else ")" : String):Str)=if b=true then [44,41] else [41]:=by
 cases b
 ·decide +kernel
 ·decide +kernel
theorem LP(ts:List Str):cs (tupleText ts)=40::(cs (Str.join ", " ts)++(if (ts.length==1)=true then [44,41] else [41])):=by
 unfold tupleText;rw [C3,C3,XA,ZO];rfl
theorem VQ(b:Bool):Y7 (if b=true then [44,41] else [41]):=by
 cases b
 ·exact .inl rfl
 ·exact .inr rfl
theorem PB{ps qs:List Str}(h1:∀p∈ps,EA p)(h2:∀q∈qs,EA q)(h:BB (.tup (ps.map .str))=BB (.tup (qs.map .str))):ps=qs:=by
 rw [Kb,Kb] at h;have h:=congrArg cs h;rw [LP,LP,Go,Go] at h;have h:=(em h).2;cases ps with
 | nil =>
  cases qs with
  | nil=>rfl
  | cons q qs =>
   rw [CI q qs _ h2] at h;have h:[41]=39::_:=h;simp at h
 | cons p ps =>
  cases qs with
  | nil =>
   rw [CI p ps _ h1] at h;have h:39::_=[41]:=h;simp at h
  | cons q qs =>
   rw [CI q qs _ h2,CI p ps _ h1] at h;obtain⟨e1,e2⟩:=Ur (Bc (h1 p On)) (Bc (h2 q On)) (em h).2;rw [LQ e1,Q5 (λz hz=>h1 z (Rs _ hz)) (λz hz=>h2 z (Rs _ hz)) (VQ _) (VQ _) e2]
theorem Vj(n:Nat):cs ((toString (n:Int):String):Str)=(Nat.toDigits 10 n).map kB:=by
 show (eE (toString (n:Int))).cps.toList=_;rw [Str.ofString_eq_toList];show (toString (n:Int)).toList.map kB=_
 have:toString (n:Int)=Nat.repr n:=rfl
 rw [this,Nat.toList_repr]
theorem Vm{a b:Char}(h:a.toNat=b.toNat):a=b:=Char.ext (UInt32.toNat_inj.mp h)
theorem PJ:∀{a b:List Char},a.map kB=b.map kB->a=b
 | [],[],_=>rfl
 | [],_::_,h=>by cases h
 | _::_,[],h=>by cases h
 | x::a,y::b,h=>by
  have h:=em h;rw [Vm h.1,PJ h.2]
theorem TY{i j:Int}(hi:0<=i)(hj:0<=j)(h:cs ((toString i:String):Str)=cs ((toString j:String):Str)):i=j:=by
 obtain⟨n,rfl⟩:=jj hi;obtain⟨m,rfl⟩:=jj hj;rw [Vj,Vj] at h
 have:=congrArg (λl=>Nat.ofDigitChars 10 l 0) (PJ h)
 simp only [Nat.ofDigitChars_ten_toDigits] at this;rw [this]
theorem SV(t:A2):BB (Aj t)=tupleText [reprText t.a,reprText t.b,((toString t.len:String):Str)]:=by
 show (PyData.tuple [.str t.a,.str t.b,.int t.len]).shown=_;simp only [jd,PyData.shownAll]
theorem Qo{t:A2}(ha:EA t.a)(hb:EA t.b):cs (BB (Aj t))=40::39::(cs t.a++39::44::32::39::(cs t.b++39::44::32::(cs ((toString t.len:String):Str)++[41]))):=by
 rw [SV,LP];show 40::(cs (reprText t.a ++ ", "++(reprText t.b ++ ", "++((toString t.len:String):Str)))++[41])=_;rw [C3,C3,C3,C3,J6 ha,J6 hb,Vi];simp
theorem SN{s t:A2}(h1:EA s.a)(h2:EA s.b)(h3:EA t.a)(h4:EA t.b)(h5:0<=s.len)(h6:0<=t.len)(h:BB (Aj s)=BB (Aj t)):s=t:=by
 have h:=congrArg cs h;rw [Qo h1 h2,Qo h3 h4] at h;have h:=(em (em h).2).2;obtain⟨e1,e2⟩:=Ur (Bc h1) (Bc h3) h;have e2:=(em (em (em e2).2).2).2;obtain⟨e3,e4⟩:=Ur (Bc h2) (Bc h4) e2;have e4:=(em (em e4).2).2;have e5:=TY h5 h6 (List.append_cancel_right e4);obtain⟨a,b,l⟩:=s;obtain⟨a',b',l'⟩:=t;have e1:=LQ e1;have e3:=LQ e3;simp only at e1 e3 e5;rw [e1,e3,e5]
def EK(t:A2):List Key:=[.inr t.a,.inr t.b,.inl t.len]
def Td(t:A2):List Key:=[.inr t.a,.inr t.b]
def Mg(ts:List A2):Prop:=ts.Pairwise λs t=>BJ (EK t) (EK s)=false
def ON(N:Net)(d:D):Prop:=∃ts:List A2,d=.tup [.tup (N.ps.map .str),.tup (ts.map Aj)]/\(∀t∈ts,t∈N.ts)/\ts.Pairwise Bp
noncomputable def thinB(N:Net)(d:D):Bool:=@decide (ON N d) (fT _)
theorem thinB_iff{N:Net}{d:D}:thinB N d=true↔ON N d:=by
 unfold thinB;exact @decide_eq_true_iff _ (fT _)
theorem Pc{N:Net}{d:D}{b:Bool}(h:b=true↔ON N d):b=thinB N d:=by
 rw [eG,thinB_iff];exact h
def Zt(N:Net)(d:D):Prop:=∃s∈N.ts,d=Aj s
noncomputable def KR(N:Net)(d:D):Bool:=@decide (Zt N d) (fT _)
theorem tofB_iff{N:Net}{d:D}:KR N d=true↔Zt N d:=by
 unfold KR;exact @decide_eq_true_iff _ (fT _)
theorem Xm{a:Str}{x:D}(h:GF (.str a) x=true):x=.str a:=by
 cases x with
 | str b =>
  have h:(a==b)=true:=h;rw [eq_of_beq h]
 | _=>cases h
theorem ah{a:Str}{x:D}(h:GF x (.str a)=true):x=.str a:=by
 cases x with
 | str b =>
  have h:(b==a)=true:=h;rw [eq_of_beq h]
 | _=>cases h
theorem JD:∀{xs:List D} {ps:List Str},jK (A6 xs) (A6 (ps.map .str))=true->xs=ps.map .str
 | [],[],_=>rfl
 | [],_::_,h=>by cases h
 | _::_,[],h=>by cases h
 | x::xs,p::ps,h=>by
  have h:(eN (toPy x) (toPy (.str p))&&jK (A6 xs) (A6 (ps.map .str)))=true:=h;rw [UF] at h;rw [ah (a:=p) (x:=x) h.1,JD h.2];rfl
theorem eqvAll_refl:∀ps:List Str,jK (A6 (ps.map .str)) (A6 (ps.map .str))=true
 | []=>rfl
 | p::ps=>by
  show ((p==p)&&jK (A6 (ps.map .str)) (A6 (ps.map .str)))=true;rw [beq_self_eq_true,eqvAll_refl ps];rfl
theorem eqD_strs{p:D}{ps:List Str}:GF p (.tup (ps.map .str))=true↔p=.tup (ps.map .str):=by
 constructor
 ·intro h
  cases p with
  | tup xs=>rw [JD (xs:=xs) (ps:=ps) h]
  | _=>cases h
 ·rintro rfl
  exact eqvAll_refl ps
theorem Tc{s:A2}{d:D}(h:GF (Aj s) d=true):∃z,d=.tup [.str s.a,.str s.b,z]/\∀i,z=.int i->i=s.len:=by
 cases d with
 | tup xs =>
  match xs,h with
  | [x,y,z],h =>
   have h:(eN (toPy (.str s.a)) (toPy x)&&(eN (toPy (.str s.b)) (toPy y)&&(eN (.int s.len) (toPy z)&&true)))=true:=h;rw [iM,UF,UF] at h;refine⟨z,by rw [Xm (a:=s.a) (x:=x) h.1,Xm (a:=s.b) (x:=y) h.2.1],λi e=>?_⟩;subst e;have h3:(s.len==i)=true:=h.2.2;exact(eq_of_beq h3).symm
  | [],h=>cases h
  | [x],h=>exact absurd h (by show ¬((eN (toPy (.str s.a)) (toPy x)&&false)=true); simp)
  | [x,y],h=>exact absurd h (by show ¬((eN (toPy (.str s.a)) (toPy x)&&(eN (toPy (.str s.b)) (toPy y)&&false))=true); simp)
  | x::y::z::u::r,h=>exact absurd h (by show ¬((eN (toPy (.str s.a)) (toPy x)&&(eN (toPy (.str s.b)) (toPy y)&&(eN (.int s.len) (toPy z)&&false)))=true); simp)
 | _=>cases h
theorem J7{f:A2->D}{k:A2->List Key}(hk:∀s t,IJ (f s) (f t)=some (BJ (k s) (k t))):∀{ts:List A2},Lf (ts.map f)=true↔ts.Pairwise λs t=>BJ (k s) (k t)=true
 | []=>⟨λ_=>.nil,λ_=>rfl⟩
 | [t]=>⟨λ_=>iC _ _,λ_=>rfl⟩
 | s::t::r=>by
  have ih:=J7 hk (ts:=t::r);show ((IJ (f s) (f t)==some true)&&Lf ((t::r).map f))=true↔_;rw [UF,ih,hk,eA (a:=s) (l:=t::r)];constructor
  ·rintro ⟨h1,h2⟩
   have h1:BJ (k s) (k t)=true:=c_ (eq_of_beq h1);refine⟨λu hu=>?_,h2⟩
   rcases T0.mp hu with rfl | hu
   ·exact h1
   ·exact Cw _ _ _ h1 ((eA.mp h2).1 u hu)
  ·rintro ⟨h1,h2⟩
   exact⟨by rw [h1 t On]; rfl,h2⟩
theorem Qc(s t:A2):IJ (Aj s) (Aj t)=some (BJ (EK s) (EK t)):=by
 show (if (true&&(true&&(true&&true)))=true then some (Eg (EK s) (EK t)) else none)=_;rw [if_pos (show (true&&(true&&(true&&true)))=true from rfl),GC _ _ rfl]
theorem Wc(s t:A2):IJ (Fk (Aj s)) (Fk (Aj t))=some (BJ (Td s) (Td t)):=by
 show (if (true&&(true&&true))=true then some (Eg (Td s) (Td t)) else none)=_;rw [if_pos (show (true&&(true&&true))=true from rfl),GC _ _ rfl]
theorem ekey_iff{s t:A2}:BJ (Td s) (Td t)=true↔Bp s t:=by
 show (if (eh s.a:Key)=.inr t.a then (if (eh s.b:Key)=.inr t.b then false else decide (cs s.b<cs t.b)) else decide (cs s.a<cs t.a))=true↔(cs s.a<cs t.a\/(s.a=t.a/\cs s.b<cs t.b))
 by_cases h1:s.a=t.a
 ·rw [if_pos (by rw [h1])]
  by_cases h2:s.b=t.b
  ·rw [if_pos (by rw [h2]),h1,h2]
   constructor
   ·intro h; cases h
   ·rintro (h | ⟨_,h⟩)
    ·exact absurd h (Ba _)
    ·exact absurd h (Ba _)
  ·rw [if_neg (λe=>h2 (eK e)),decide_eq_true_eq,h1]
   constructor
   ·intro h; exact .inr ⟨rfl,h⟩
   ·rintro (h | ⟨_,h⟩)
    ·exact absurd h (Ba _)
    ·exact h
 ·rw [if_neg (λe=>h1 (eK e)),decide_eq_true_eq]
  constructor
  ·intro h; exact .inl h
  ·rintro (h | ⟨h,_⟩)
   ·exact h
   ·exact absurd h h1
theorem MD(s:A2):¬Bp s s:=by
 rintro (h | ⟨_,h⟩) <;> exact Ba _ h
theorem Q6{s t:A2}(h:Bp s t):BJ (EK s) (EK t)=true:=by
 show (if (eh s.a:Key)=.inr t.a then (if (eh s.b:Key)=.inr t.b then (if (gP s.len:Key)=.inl t.len then false else decide (s.len<t.len)) else decide (cs s.b<cs t.b)) else decide (cs s.a<cs t.a))=true
 rcases h with h | ⟨h,h'⟩
 ·rw [if_neg (λe=>Ba s.a (by rw [eK e] at h ⊢; exact h)),decide_eq_true h]
 ·rw [if_pos (by rw [h]),if_neg (λe=>Ba s.b (by rw [eK e] at h' ⊢; exact h')),decide_eq_true h']
theorem MP:∀{ts:List A2},ts.Pairwise Bp->∀s∈ts,∀t∈ts,s.a=t.a->s.b=t.b->s=t
 | [],_,s,hs,_,_,_,_=>by cases hs
 | x::ts,h,s,hs,t,ht,e1,e2=>by
  have h:=eA.mp h
  rcases T0.mp hs with es | hs
  ·rcases T0.mp ht with et | ht
   ·rw [es,et]
   ·rcases h.1 t ht with h | ⟨_,h⟩
    ·rw [← es,e1] at h; exact absurd h (Ba _)
    ·rw [← es,e2] at h; exact absurd h (Ba _)
  ·rcases T0.mp ht with et | ht
   ·rcases h.1 s hs with h | ⟨_,h⟩
    ·rw [← et,e1] at h; exact absurd h (Ba _)
    ·rw [← et,e2] at h; exact absurd h (Ba _)
   ·exact MP h.2 s hs t ht e1 e2
theorem Wq{N:Net}(ok:N.Ok){s t:A2}(hs:s∈N.ts)(ht:t∈N.ts)(h:BJ (EK s) (EK t)=true):Bp s t:=by
 have h:(if (eh s.a:Key)=.inr t.a then (if (eh s.b:Key)=.inr t.b then (if (gP s.len:Key)=.inl t.len then false else decide (s.len<t.len)) else decide (cs s.b<cs t.b)) else decide (cs s.a<cs t.a))=true:=h
 by_cases h1:s.a=t.a
 ·rw [if_pos (by rw [h1])] at h
  by_cases h2:s.b=t.b
  ·rw [if_pos (by rw [h2]),if_pos (by rw [MP ok.trise s hs t ht h1 h2])] at h
   cases h
  ·rw [if_neg (λe=>h2 (eK e)),decide_eq_true_eq] at h
   exact .inr ⟨h1,h⟩
 ·rw [if_neg (λe=>h1 (eK e)),decide_eq_true_eq] at h
  exact .inl h
theorem BL{ts:List A2}(h:ts.Pairwise Bp):ts.Nodup:=h.imp λ{s t} h e=>by rw [e] at h; exact MD _ h
theorem sub_len{l m:List A2}(hl:l.Nodup)(hm:m.Nodup)(h:∀t∈l,t∈m):l.length<=m.length:=by
 have:l.Perm (m.filter λt=>decide (t∈l)):=(jL hl (hm.filter _)).mpr λt=>by
  rw [gQ,decide_eq_true_eq];exact⟨λz=>⟨h t z,z⟩,λz=>z.2⟩
 rw [this.length_eq];exact iQ _ _
theorem UN{N:Net}(ok:N.Ok){ts:List A2}(h:∀t∈ts,t∈N.ts)(hp:ts.Pairwise Bp):Net.Ok ⟨N.ps,ts⟩:=⟨ok.names,ok.rise,λt ht=>ok.tin t (h t ht),hp⟩
theorem IP{P:A2->Prop}:∀{xs:List D},(∀d∈xs,∃s,P s/\d=Aj s)->∃ts:List A2,xs=ts.map Aj/\∀t∈ts,P t
 | [],_=>⟨[],rfl,λt h=>by cases h⟩
 | d::xs,h=>by
  obtain⟨s,hs,rfl⟩:=h d On;obtain⟨ts,rfl,ht⟩:=IP λe he=>h e (Rs _ he);refine⟨s::ts,rfl,λt z=>?_⟩
  rcases T0.mp z with rfl | z
  ·exact hs
  ·exact ht t z
theorem OZ{N:Net}{xs:List D}(h:xs.all (KR N)=true):∃ts:List A2,xs=ts.map Aj/\∀t∈ts,t∈N.ts :=
 IP λd hd=>by
  obtain⟨s,hs,e⟩:=tofB_iff.mp (dU.mp h d hd);exact⟨s,hs,e⟩
theorem SO{N:Net}(ok:N.Ok)(p:D)(xs:List D):(GF p (.tup (N.ps.map .str))&&(xs.all (KR N)&&Lf xs))=thinB N (.tup [p,.tup xs]):=by
 refine Pc ⟨λh=>?_,λh=>?_⟩
 ·rw [UF,UF] at h
  obtain⟨ts,rfl,hts⟩:=OZ h.2.1;refine⟨ts,by rw [eqD_strs.mp h.1],hts,?_⟩
  have:=(J7 Qc).mp h.2.2
  exact this.imp_of_mem λ{s t} hs ht z=>Wq ok (hts s hs) (hts t ht) z
 ·obtain⟨ts,e,hts,hp⟩:=h
  cases e;rw [UF,UF];refine⟨eqD_strs.mpr rfl,dU.mpr λd hd=>?_,(J7 Qc).mpr (hp.imp λ{s t} z=>Q6 z)⟩;obtain⟨t,ht,rfl⟩:=Re.mp hd;exact tofB_iff.mpr ⟨t,hts t ht,rfl⟩
theorem OY{N:Net}{d:D}(h:∀p xs,d≠.tup [p,.tup xs]):thinB N d=false:=by
 rw [fX];intro z;obtain⟨ts,e,_⟩:=thinB_iff.mp z;exact h _ _ e
theorem U5{d:D}(h:QY d=true):∃(ps:List Str) (ts:List A2),d=.tup [.tup (ps.map .str),.tup (ts.map Aj)]/\(∀p∈ps,EA p)/\ps.length<=24/\ts.length<=60/\(∀t∈ts,EA t.a/\EA t.b/\1<=t.len/\t.len<=1000000)/\ts.Pairwise Bp:=by
 cases h2:tupleOfB 2 d with
 | false=>rw [aP h2] at h; cases h
 | true =>
  obtain⟨p,t,rfl⟩:=X9 h2;have h':(Jt p&&P5 p t)=true:=h;rw [UF] at h';cases p with
  | tup xs =>
   have h1:(decide (xs.length<=24)&&(xs.all B5&&Lf xs))=true:=h'.1;rw [UF,UF,decide_eq_true_eq] at h1;obtain⟨ps,rfl,hps⟩:=PC h1.2.1;have h3:XI (strsOf (ps.map .str)) t=true:=h'.2;rw [DZ] at h3;cases t with
   | tup ys =>
    have h3:(decide (ys.length<=60)&&(ys.all IQ&&(ys.all (EW ps)&&Lf (ys.map Fk))))=true:=h3;rw [UF,UF,UF,decide_eq_true_eq] at h3
    obtain⟨ts,rfl,hts⟩:=IP (P:=λt=>EA t.a/\EA t.b/\1<=t.len/\t.len<=1000000) (xs:=ys) λd hd=>by
     obtain⟨x,y,l,rfl,hx,hy,_,l1,l2⟩:=NB (dU.mp h3.2.1 d hd);exact⟨⟨x,y,l⟩,⟨hx,hy,l1,l2⟩,rfl⟩
    refine⟨ps,ts,rfl,hps,by have:=h1.1; rw [Go] at this; exact this,by have:=h3.1; rw [Go] at this; exact this,hts,?_⟩;have h4:=h3.2.2.2;rw [eF] at h4;exact((J7 (f:=Fk∘Aj) Wc).mp h4).imp λ{s t} z=>ekey_iff.mp z
   | _=>cases h3
  | _=>cases h'.1
theorem UI{N:Net}(ok:N.Ok){ps:List Str}{ts:List A2}(hps:∀p∈ps,EA p)(hts:∀t∈ts,EA t.a/\EA t.b/\1<=t.len/\t.len<=1000000)(hp:ts.Pairwise Bp) :
  ((BB (.tup (ps.map .str))==BB (.tup (N.ps.map .str)))&&(ts.map Aj).all λd=>(N.ts.map Aj).any λe=>BB e==BB d)=thinB N (.tup [.tup (ps.map .str),.tup (ts.map Aj)]):=by
 refine Pc ⟨λh=>?_,λh=>?_⟩
 ·rw [UF] at h
  have e:=PB hps ok.names (eq_of_beq h.1);subst e;refine⟨ts,rfl,λt ht=>?_,hp⟩
  have:=dU.mp h.2 (Aj t) (Re.mpr ⟨t,ht,rfl⟩)
  obtain⟨e,he,z⟩:=ef.mp this;obtain⟨s,hs,rfl⟩:=Re.mp he;obtain⟨m1,m2,_,m3,_⟩:=ok.tin s hs;obtain⟨k1,k2,k3,_⟩:=hts t ht;rw [← SN (ok.names _ m1) (ok.names _ m2) k1 k2 (by omega) (by omega) (eq_of_beq z)];exact hs
 ·obtain⟨us,e,hus,_⟩:=h
  have e1:ps.map D.str=N.ps.map D.str:=by injection e with e; injection e with e; injection e
  have e2:ts.map Aj=us.map Aj:=by injection e with e; injection e with _ e; injection e with e; injection e
  rw [UF,e1,beq_self_eq_true];refine⟨rfl,dU.mpr λd hd=>?_⟩;rw [e2] at hd;obtain⟨u,hu,rfl⟩:=Re.mp hd;exact ef.mpr ⟨Aj u,Re.mpr ⟨u,hus u hu,rfl⟩,beq_self_eq_true _⟩
theorem UH{N:Net}{d:D}(ok:N.Ok)(l1:N.ps.length<=24)(l2:N.ts.length<=60)(h:ON N d):QY d=true:=by
 obtain⟨ts,rfl,hts,hp⟩:=h;exact U6 (N:=⟨N.ps,ts⟩) (UN ok hts hp) l1 (de (sub_len (BL hp) (BL ok.trise) hts) l2)
end Nt
namespace L2
open PySem.W
end L2
namespace Dp
open L2
end Dp
namespace Nt
open L2 Dp
def look(ts:List A2)(x y:Str):Option Int:=((DR ts x).find? λz=>decide (z.1=y)).map (·.2)
def MC(ts:List A2):Str->List Str->Int->Option Int
 | _,[],s=>some s
 | x,y::r,s=>match look ts x y with
  | some l=>MC ts y r (s+l)
  | none=>none
def YK:Option Int->D
 | some i=>.int i
 | none=>.non
def Dt:D->Bool
 | .str _=>true
 | _=>false
def Yo(N:Net):List Str->D
 | x::r=>if x∈N.ps then YK (MC N.ts x r 0) else .non
 | []=>.non
def Yp(N:Net):D->D
 | .tup xs=>if xs.all Dt then Yo N (strsOf xs) else .non
 | _=>.non
def Y8(d:D):Prop:=Fi (10 ^ 30) d/\P9 d<=60000/\Qk d<=50
abbrev Vw:W2:=λss n P=>∃(N:Net) (d:D),ss=[.sh (enc N),.sh d]/\N.Ok/\N.ps.length<=26/\N.ts.length<=60/\Y8 d/\P (Yp N d) n
def Pt:Ai:=(Ac (BA (Cp (Bh (AU (Ey "tuple" (AB 1)))) (AU (AS (G6 false) (CF D7 (AG (AB 1) AW)) (wC (D.int 0))))) (Aq (wC D.non)) Ar)
 (Ac (BA (Bh (AU (CF LI (AG (BU [none] (BF (AB 1)) (Ad 0) Bm (Ey "str" (AB 0))) AW)))) (Aq (wC D.non)) Ar)
 (Ac (A0 2 (AY OL (AD (AL (AB 0)) AZ)))
 (Ac (BA (AU (AS (Jk true) (AS Ax (AB 1) (wC (D.int 0))) (AB 2))) (Aq (wC D.non)) Ar)
 (Ac (A0 3 (wC (D.int 0)))
 (Ac (Ez (V7 (AG (AB 1) (AG (Py Fj (AB 1) (CY (wC (D.int 1))) CL) AW))) (DJ 2 (Ao (Ad 4) (Ao (Ad 5) Bu))) (Ac (BA (AU (AS (Jk true) (AB 5) (AS CH (AB 2) (AB 4)))) (Aq (wC D.non)) Ar)
 (T_ 3 (AS CH (AS CH (AB 2) (AB 4)) (AB 5)))))
 (Aq (AB 3))))))))
def Qt:Ai:=(Ac (BA (Cp (Bh (AU (Ey "tuple" (AB 1)))) (Cp (AU (AS (G6 false) (CF D7 (AG (AB 1) AW)) (wC (D.int 0)))) (AU (AS (DF false) (wC (D.bl false)) (BU [none] (BF (AB 1)) (Ad 0) Bm (Ey "str" (AB 0))))))) (Aq (wC D.non)) Ar)
 (Ac (BA (AU (AS (DF false) (wC (D.bl false)) (BU [some 0,none] (BF (AB 1)) (Ad 1) Bm (AS (DF false) (AB 1) (AS Ax (AB 0) (wC (D.int 0))))))) (Aq (wC D.non)) Ar)
 (Ac (A0 2 (wC (D.int 0)))
 (Ac (Ez (T8 (AG (wC (D.int 1)) (AG (CF D7 (AG (AB 1) AW)) AW))) (Ad 3) (Ac (Zq (Py Fj (AB 1) (CY (AS Hf (AB 3) (wC (D.int 1)))) (CY (AS A7 (AB 3) (wC (D.int 1))))) (DJ 2 (Ao (Ad 4) (Ao (Ad 5) Bu))))
 (Ac (A0 6 (BU [some 4,some 5,none] (BF (AS Ax (AB 0) (wC (D.int 1)))) (Ad 2) (KO (AU (AS (G6 true) (AB 0) (AB 1))) (KO (AU (AS (DF false) (AB 0) (Py Fj (AB 2) CL (CY (wC (D.int 2)))))) (AU (AS (DF false) (AB 1) (Py Fj (AB 2) CL (CY (wC (D.int 2)))))))) (AS Ax (AB 2) (wC (D.int 2)))))
 (Ac (BA (AU (AS Y9 (AB 6) (FO AW))) (Aq (wC D.non)) Ar)
 (A0 2 (AS A7 (AB 2) (AS Ax (AB 6) (wC (D.int 0)))))))))
 (Aq (AB 2))))))
theorem Od:∀{xs:List D},xs.all Dt=true->∃ys:List Str,xs=ys.map .str
 | [],_=>⟨[],rfl⟩
 | d::r,h=>by
  rw [fY,UF] at h;obtain⟨ys,e⟩:=Od h.2;cases d with
  | str x=>exact⟨x::ys,by rw [dA,e]⟩
  | _=>cases h.1
theorem all_strs(ys:List Str):(ys.map D.str).all Dt=true:=by rw [g_]; exact dU.mpr λ_ _=>rfl
theorem Jo{g:Str->D}{x:Str}:∀{ps:List Str},BN (ps.map .inr) (ps.map g) (.inr x)=if x∈ps then some (g x) else none
 | []=>rfl
 | p::ps=>by
  show (if (eh p:Key)=.inr x then some (g p) else BN (ps.map .inr) (ps.map g) (.inr x))=_;rw [Jo (ps:=ps)]
  by_cases e:p=x
  ·subst e; rw [if_pos rfl,if_pos On]
  ·rw [if_neg (λz=>e (eK z))]
   by_cases h:x∈ps
   ·rw [if_pos h,if_pos (Rs _ h)]
   ·rw [if_neg h,if_neg (λz=>(T0.mp z).elim (λz=>e z.symm) h)]
theorem M_{y:Str}:∀{xs:List (Str×Int)},BN (xs.map λx=>.inr x.1) (xs.map λx=>.int x.2) (.inr y)=((xs.find? λz=>decide (z.1=y)).map (·.2)).map .int
 | []=>rfl
 | p::ps=>by
  show (if (eh p.1:Key)=.inr y then some (D.int p.2) else BN (ps.map λx=>.inr x.1) (ps.map λx=>.int x.2) (.inr y))=_;rw [M_ (xs:=ps)]
  by_cases e:p.1=y
  ·rw [if_pos (by rw [e]),iI (by exact decide_eq_true e)]; rfl
  ·rw [if_neg (λz=>e (eK z)),iJ (by rw [decide_eq_true_eq]; exact e)]
theorem VA{N:Net}(ok:N.Ok){x y:Str}{l:Int}(h:look N.ts x y=some l):y∈N.ps/\1<=l/\l<=1000000:=by
 unfold look at h;cases c:(DR N.ts x).find? λz=>decide (z.1=y) with
 | none=>rw [c] at h; cases h
 | some z =>
  rw [c] at h;cases h;have h1:=jp c;have h2:=gz c;obtain⟨t,ht,hz⟩:=fZ.mp h2;obtain⟨m1,m2,_,m3,m4⟩:=ok.tin t ht;have ey:z.1=y:=of_decide_eq_true h1
  rcases dN.mp hz with hz | hz
  ·split at hz
   ·cases TM.mp hz
    exact⟨by rw [← ey]; exact m2,m3,m4⟩
   ·cases hz
  ·split at hz
   ·cases TM.mp hz
    exact⟨by rw [← ey]; exact m1,m3,m4⟩
   ·cases hz
section
variable {ss:List Slot}{n:Nat}{Pd:D->Nat->Prop}
theorem PM{N:Net}(ok:N.Ok){D2:E2}{b0 b1:Slot}:∀(r:List Str) (x:Str) (s:Int) (s4 s5:Slot),x∈N.ps->(match MC N.ts x r s with | some l=>∀s4 s5,D2.nx n [b0,b1,.sh (FS N),.sh (.int l),s4,s5] | none=>D2.rt .non n) ->
  Be (DJ 2 (Ao (Ad 4) (Ao (Ad 5) Bu))) (Ac (BA (AU (AS (Jk true) (AB 5) (AS CH (AB 2) (AB 4)))) (Aq (wC D.non)) Ar) (T_ 3 (AS CH (AS CH (AB 2) (AB 4)) (AB 5)))) D2 (Ea ((x::r).map .str) (r.map .str)) n [b0,b1,.sh (FS N),.sh (.int s),s4,s5]
 | [],x,s,s4,s5,hx,h=>h s4 s5
 | y::r,x,s,s4,s5,hx,h=>by
  have v1:BN (N.ps.map .inr) (N.ps.map (Tv N.ts)) (.inr x)=some (Tv N.ts x):=by rw [Jo,if_pos hx]
  refine⟨rfl,rfl,?_⟩;refine⟨_,_,.inr x,_,rfl,rfl,v1,_,_,.inr y,rfl,rfl,?_⟩;show if (!(BN ((DR N.ts x).map λz=>.inr z.1) ((DR N.ts x).map λz=>.int z.2) (.inr y)).isSome)=true then _ else _
  rw [M_];unfold MC at h;have hl:((DR N.ts x).find? λz=>decide (z.1=y)).map (·.2)=look N.ts x y:=rfl;rw [hl];cases c:look N.ts x y with
  | none=>rw [c] at h; exact B3 h
  | some l =>
   rw [c] at h;have v2:BN ((DR N.ts x).map λz=>.inr z.1) ((DR N.ts x).map λz=>.int z.2) (.inr y)=some (.int l):=by rw [M_,hl,c]; rfl
   refine BV ⟨s,rfl,_,_,.inr x,_,rfl,rfl,v1,_,_,.inr y,_,rfl,rfl,v2,l,rfl,?_⟩;exact PM ok r y (s+l) _ _ (VA ok c).1 h
theorem NR(h0:Vw ss n Pd):Pt (EE Pd) n (ss++XV 4 .no):=by
 obtain⟨N,d,rfl,ok,lp,lt,fd,p⟩:=h0;cases d with
 | tup xs =>
  have hl:=Q_ xs;have hz:Lp xs<=60000:=fd.2.1;have p':Pd (if xs.all Dt then Yo N (strsOf xs) else .non) n:=p;refine⟨_,_,rfl,rfl,?_⟩;show if ((xs.length:Int)==0)=true then _ else _
  cases xs with
  | nil=>exact B3 p'
  | cons x0 r0 =>
   rw [show (((x0::r0).length:Int)==0)=false from beq_eq_false_iff_ne.mpr (by rw [c6]; omega)];refine BV ⟨by omega,?_⟩;refine Av (λd=>.bl (Dt d)) (λρ=>∃s,ρ=[s]) _ _ _ _ ?_ ⟨_,rfl⟩ ?_
   ·rintro d hd ρ m nx ⟨s,rfl⟩ hnx
    have:=hnx [.sh d] ⟨_,rfl⟩
    cases d <;> exact this
   rw [dE];refine⟨_,_,rfl,Fq Dt (x0::r0),?_⟩;rw [Vq];show if (!(x0::r0).all Dt)=true then _ else _
   cases ha:(x0::r0).all Dt with
   | false=>rw [ha] at p'; exact B3 p'
   | true =>
    rw [ha] at p';obtain⟨ys,e⟩:=Od ha;rw [e,DZ] at p';cases ys with
    | nil=>cases e
    | cons y r =>
     rw [dA] at e;cases e;refine BV ⟨N,rfl,ok,by omega,by omega,?_⟩;refine⟨.str y,AH (j:=0) rfl,_,_,.inr y,rfl,rfl,?_⟩;show if (!(BN (N.ps.map .inr) (N.ps.map (Tv N.ts)) (.inr y)).isSome)=true then _ else _
     rw [Jo];have p2:Pd (if y∈N.ps then YK (MC N.ts y r 0) else .non) n:=p'
     by_cases hy:y∈N.ps
     ·rw [if_pos hy] at p2 ⊢
      refine BV ⟨_,_,(y::r).map .str,r.map .str,rfl,rfl,by show some (Dp.cutD (D.str y::r.map .str) (some 1) none)=_; rw [ZM]; rfl,?_⟩;refine PM ok r y 0 _ _ hy ?_;cases c:MC N.ts y r 0 with
      | none=>rw [c] at p2; exact p2
      | some l=>rw [c] at p2; exact λ_ _=>p2
     ·rw [if_neg hy] at p2 ⊢
      exact B3 p2
 | _=>exact p
theorem HV{b:BW}{tt:JR}{te:DW}{P:List D->Nat->Prop}(c:D->Bool)(g:D->D)(I:List Slot->Prop):∀(ds acc:List D) (n:Nat) (ρ:List Slot),
  (∀d∈ds,∀(ρ:List Slot) (n:Nat) (nx:D->Nat->List Slot->Prop) (sk:Nat->List Slot->Prop),I ρ->(∀zY,I zY->c d=true->nx (g d) n zY)->(∀zY,I zY->c d=false->sk n zY)->b d ρ λzU=>tt n zU λc n1=>if c=true then te n1 zU λy n2=>nx y n2 zU else sk n1 zU)->I ρ->P (acc++(ds.filter c).map g) n->Cr b tt te P ds acc n ρ
 | [],acc,n,ρ,_,_,h=>by rw [List.filter_nil,gf,dX] at h; exact h
 | d::ds,acc,n,ρ,ht,hρ,h=>ht d On ρ n (λy n2 zU=>Cr b tt te P ds (acc++[y]) n2 zU) (λn2 zU=>Cr b tt te P ds acc n2 zU) hρ
  (λzY hρ' hc=>HV c g I ds (acc++[g d]) n zY (λd hd=>ht d (Rs _ hd)) hρ' (by rw [iD hc] at h; rw [dg]; exact h))
  (λzY hρ' hc=>HV c g I ds acc n zY (λd hd=>ht d (Rs _ hd)) hρ' (by rw [gO (by rw [hc]; decide)] at h; exact h))
def Fg(x y:Str):D->Bool
 | .tup [.str a,.str b,_]=>!(x==y)&&((a==x||b==x)&&(a==y||b==y))
 | _=>false
def Wf:D->D
 | .tup [_,_,l]=>l
 | d=>d
theorem K7{x y:Str}:∀{ts:List A2},(∀t∈ts,t.a≠t.b)->(((ts.map Aj).filter (Fg x y)).map Wf).head?=(look ts x y).map .int
 | [],_=>rfl
 | t::ts,h=>by
  have ih:=K7 (x:=x) (y:=y) (ts:=ts) λs hs=>h s (Rs _ hs);have hab:=h t On;have ej:Fg x y (Aj t)=(!(x==y)&&((t.a==x||t.b==x)&&(t.a==y||t.b==y))):=rfl;have el:look (t::ts) x y=((((if t.a=x then [(t.b,t.len)] else [])++(if t.b=x then [(t.a,t.len)] else []))++DR ts x).find? λz=>decide (z.1=y)).map (·.2):=rfl;rw [dA,el]
  by_cases ax:t.a=x
  ·have bx:t.b≠x:=λe=>hab (ax.trans e.symm)
   rw [if_pos ax,if_neg bx,dX]
   by_cases e:t.b=y
   ·have xy:x≠y:=λz=>bx (e.trans z.symm)
    have:Fg x y (Aj t)=true:=by rw [ej,beq_eq_false_iff_ne.mpr xy,beq_iff_eq.mpr ax,beq_iff_eq.mpr e]; simp
    rw [iD this,gq,iI (by exact decide_eq_true e)];rfl
   ·have:Fg x y (Aj t)=false:=by
     rw [ej]
     by_cases xy:x=y
     ·rw [beq_iff_eq.mpr xy]; rfl
     ·rw [beq_eq_false_iff_ne.mpr e,beq_eq_false_iff_ne.mpr (show t.a≠y from λz=>xy (ax.symm.trans z))]; simp
    rw [gO (by rw [this]; decide),gq,iJ (by rw [decide_eq_true_eq]; exact e)];exact ih
  ·rw [if_neg ax,dE]
   by_cases bx:t.b=x
   ·rw [if_pos bx]
    by_cases e:t.a=y
    ·have xy:x≠y:=λz=>ax (e.trans z.symm)
     have:Fg x y (Aj t)=true:=by rw [ej,beq_eq_false_iff_ne.mpr xy,beq_iff_eq.mpr bx,beq_iff_eq.mpr e]; simp
     rw [iD this,gq,iI (by exact decide_eq_true e)];rfl
    ·have:Fg x y (Aj t)=false:=by
      rw [ej]
      by_cases xy:x=y
      ·rw [beq_iff_eq.mpr xy]; rfl
      ·rw [beq_eq_false_iff_ne.mpr e,beq_eq_false_iff_ne.mpr (show t.b≠y from λz=>xy (bx.symm.trans z))]; simp
     rw [gO (by rw [this]; decide),gq,iJ (by rw [decide_eq_true_eq]; exact e)];exact ih
   ·have:Fg x y (Aj t)=false:=by rw [ej,beq_eq_false_iff_ne.mpr ax,beq_eq_false_iff_ne.mpr bx]; simp
    rw [if_neg bx,dE,gO (by rw [this]; decide)];exact ih
theorem W_{ys:List Str}{k:Nat}{x y:Str}{r:List Str}(h:ys.drop k=x::y::r):Dp.cutD (ys.map D.str) (some (1+(k:Int) - 1)) (some (1+(k:Int)+1))=[.str x,.str y]:=by
 have hl:=congrArg fN h;rw [fm,c6,c6] at hl;unfold Dp.cutD;rw [show (1+(k:Int) - 1)=((k:Nat):Int) by omega,show (1+(k:Int)+1)=((k+2:Nat):Int) by omega,HT.sIx_nat,HT.sIx_nat,Go,ii (by omega),ii (by omega),← List.map_drop,h,show k+2 - k=2 by omega];rfl
end
def XE:W2:=λss n P=>∃(N:Net) (d:D),ss=[.sh (enc N),.sh d]/\N.Ok/\Ci d/\P (.bl (KR N d)) n
def JQ:W2:=λss n P=>∃(N:Net) (d:D),ss=[.sh (enc N),.sh d]/\N.Ok/\N.ps.length<=24/\N.ts.length<=60/\Fi (10 ^ 41) d/\P9 d<=200000/\Qk d<=90/\P (.bl (thinB N d)) n
def JL:Ai:=(Aq (HF (AS (DF false) (AB 1) (AS Ax (AB 0) (wC (D.int 1)))) (AY Ll (AD (AL (AS Ax (AB 1) (wC (D.int 2)))) AZ))))
def Mp:Ai:=(Ac (BA (Cp (Bh (AU (AY D4 (AD (AL (wC (D.int 2))) (AD (AL (AB 1)) AZ))))) (Bh (AU (Ey "tuple" (AS Ax (AB 1) (wC (D.int 1))))))) (Aq (wC (D.bl false))) Ar)
 (Aq (HF (AS Y9 (AS Ax (AB 1) (wC (D.int 0))) (AS Ax (AB 0) (wC (D.int 0)))) (HF (CF LI (AG (BU [some 0,none] (BF (AS Ax (AB 1) (wC (D.int 1)))) (Ad 1) Bm (AY XE (AD (AL (AB 0)) (AD (AL (AB 1)) AZ)))) AW)) (AY DU (AD (AL (AS Ax (AB 1) (wC (D.int 1)))) AZ))))))
def FK:Ai:=(Aq (BU [none,none,none] (BF (CF G5 (AG (BU [none] (BF (AB 0)) (Ad 0) Bm (Bg (AG (AS Ax (AB 0) (wC (D.int 2))) (AG (AS Ax (AB 0) (wC (D.int 0))) (AG (AS Ax (AB 0) (wC (D.int 1))) AW))))) AW))) (DJ 3 (Ao (Ad 0) (Ao (Ad 1) (Ao (Ad 2) Bu)))) Bm (Bg (AG (AB 1) (AG (AB 2) (AG (AB 0) AW))))))
theorem RL{ts:List A2}(h:IH C0 (ts.map Aj)):Mg ts:=by
 unfold IH at h;rw [fW] at h;exact h.imp λ{s t} z=>z _ _ rfl rfl
theorem Fd{N:Net}(ok:N.Ok){ts:List A2}(h:∀t∈ts,t∈N.ts):Ci (.tup (ts.map Aj))/\Ci (.lst (ts.map Aj)):=by
 have it:∀d∈ts.map Aj,item d:=λd hd=>by
  obtain⟨t,ht,rfl⟩:=Re.mp hd;exact K8 ok _ (Re.mpr ⟨t,h t ht,rfl⟩)
 have d1:Hk (ts.map Aj)<=1:=dps_le.mpr λd hd=>(it d hd).2.2;exact⟨CU (B:=1000001) (by decide) (fines_iff.mpr λd hd=>(it d hd).1) (by show Hk (ts.map Aj)+1<=100; omega),MW it⟩
theorem HX{N:Net}(ok:N.Ok){t:A2}(h:t∈N.ts):Ci (Aj t):=by
 have it:=K8 ok _ (Re.mpr ⟨t,h,rfl⟩);exact CU (B:=1000001) (by decide) it.1 (by have:=it.2.2; omega)
theorem GH{ts:List A2}{t:A2}:((ts.map Aj).any λy=>GF y (Aj t))=decide (t∈ts):=by
 rw [eG,ef,decide_eq_true_eq];constructor
 ·rintro ⟨d,hd,e⟩
  obtain⟨s,hs,rfl⟩:=Re.mp hd;rw [← (Rn s t).mp e];exact hs
 ·intro h
  exact⟨Aj t,Re.mpr ⟨t,h,rfl⟩,(Rn t t).mpr rfl⟩
theorem RR:∀xs:List D,xs.length<=Lp xs
 | []=>dD _
 | x::xs=>by
  have:=RR xs
  show xs.length+1<=P9 x+1+Lp xs;omega
theorem PQ:∀ts:List A2,200*ts.length<=Lp (ts.map Aj)
 | []=>dD _
 | t::ts=>by
  have:=PQ ts
  show 200*(ts.length+1)<=t.a.length+1+(t.b.length+1+(200+1+0))+1+Lp (ts.map Aj);omega
theorem Iz{t:A2}(h1:EA t.a)(h2:EA t.b):∀c∈cs (BB (Aj t)),c<1114112:=by
 rw [Qo h1 h2];intro c hc;simp only [T0,dN,dB,or_false] at hc;have a1:c∈cs t.a->c<1114112:=λh=>by have:=Bc h1 c h; omega
 have a2:c∈cs t.b->c<1114112:=λh=>by have:=Bc h2 c h; omega
 have a3:=TX t.len c
 rcases hc with h | h | h | h | h | h | h | h | h | h | h | h | h
 all_goals first | exact a1 h | exact a2 h | exact a3 h | omega
section
variable {ss:List Slot}{n:Nat}{Pd:D->Nat->Prop}
theorem NV(h:XE ss n Pd):JL (EE Pd) n (ss++XV 0 .no):=by
 obtain⟨N,d,rfl,ok,hl,p⟩:=h;unfold JL;refine⟨_,AH (j:=1) rfl,hl,(Fd ok λ_ h=>h).1,_,rfl,?_⟩;cases c:(N.ts.map Aj).any λy=>GF y d with
 | false =>
  have:KR N d=false:=by
   rw [fX];intro z;obtain⟨s,hs,rfl⟩:=tofB_iff.mp z;rw [GH,decide_eq_true hs] at c;cases c
  rw [this] at p;exact p
 | true =>
  obtain⟨e,he,q⟩:=ef.mp c;obtain⟨s,hs,rfl⟩:=Re.mp he;obtain⟨z,rfl,hz⟩:=Tc q;refine⟨_,AH (j:=2) rfl,[z],rfl,rfl,?_⟩
  have:KR N (.tup [.str s.a,.str s.b,z])=T4 z:=by
   rw [eG,tofB_iff];constructor
   ·rintro ⟨t,_,e⟩
    have e:z=.int t.len:=by injection e with e; injection e with _ e; injection e with _ e; injection e
    rw [e];rfl
   ·intro hw
    cases z with
    | int i=>exact⟨s,hs,by rw [hz i rfl]; rfl⟩
    | _=>cases hw
  rw [this] at p;exact p
theorem QL(h:JQ ss n Pd):Mp (EE Pd) n (ss++XV 0 .no):=by
 obtain⟨N,d,rfl,ok,l1,l2,hf,hs,hd,p⟩:=h;unfold Mp;refine⟨2,d,rfl,?_⟩;cases h2:tupleOfB 2 d with
 | false =>
  rw [OY (λp xs e=>by rw [e] at h2; cases h2)] at p;exact B3 p
 | true =>
  obtain⟨x,y,rfl⟩:=X9 h2;refine BV ⟨_,AH (j:=1) rfl,?_⟩;cases y with
  | tup xs =>
   rw [← SO ok] at p;have f1:Fi (10 ^ 41) x:=hf.1;have f2:Hd (10 ^ 41) xs:=hf.2.1;have hd':max (Qk x) (max (Hk xs+1) 0)+1<=90:=hd;have hs':P9 x+1+(Lp xs+1+0)<=200000:=hs;refine BV ⟨_,AH (j:=0) rfl,_,AH (j:=0) rfl,CU (B:=10 ^ 41) (by decide) f1 (by omega),Cz ok.names,?_⟩;refine Iq (b1:=GF x (.tup (N.ps.map .str))) (b2:=xs.all (KR N)&&Lf xs) (P:=Pd) (n:=n) (k:=λP=>_) (λ_ hp=>?_) p;refine⟨_,AH (j:=1) rfl,by show xs.length<=10000000; have:=RR xs; omega,?_⟩;refine Av (λd=>.bl (KR N d)) (λρ=>∃s,ρ=[.sh (enc N),s]) _ _ _ _ ?_ ⟨_,rfl⟩ ?_
   ·rintro e he ρ m nx ⟨s,rfl⟩ hnx
    have dx:Hk xs<=88:=by omega
    exact⟨N,e,rfl,ok,CU (B:=10 ^ 41) (by decide) (fines_iff.mp f2 e he) (by have:=dps_le.mp dx e he; omega),hnx _ ⟨_,rfl⟩⟩
   rw [dE];refine⟨_,_,rfl,Fq (KR N) xs,?_⟩;rw [Vq];refine Iq (b1:=xs.all (KR N)) (b2:=Lf xs) (P:=Pd) (n:=n) (k:=λP=>_) (λha hp=>?_) hp;obtain⟨ts,rfl,hts⟩:=OZ ha
   have:=PQ ts
   refine⟨_,AH (j:=1) rfl,_,_,rfl,rfl,by rw [Go]; omega,λa ha b hb=>?_,hp⟩;obtain⟨s,_,rfl⟩:=Re.mp ha;obtain⟨t,_,rfl⟩:=Re.mp hb;exact⟨_,Qc s t⟩
  | _ =>
   rw [OY (λp xs e=>by cases e)] at p;exact B3 p
theorem JW(h:DK ss n Pd):FK (EF Pd) n (ss++XV 0 .no):=by
 obtain⟨d,ts,rfl,hd,h64,p⟩:=h;have szl:=PySem.sizeLine_eq;unfold FK
 have go:(ts.map Aj).length<=10000000/\Cr (Ad 0) Bm (Bg (AG (AS Ax (AB 0) (wC (D.int 2))) (AG (AS Ax (AB 0) (wC (D.int 0))) (AG (AS Ax (AB 0) (wC (D.int 1))) AW)))) (λacc n2=>G5 [.lst acc] λz=>BF (wC z) n2 [] λds n1=>ds.length<=10000000/\Cr (DJ 3 (Ao (Ad 0) (Ao (Ad 1) (Ao (Ad 2) Bu)))) Bm (Bg (AG (AB 1) (AG (AB 2) (AG (AB 0) AW)))) (λacc n2=>Pd (.lst acc) n2) ds [] n1 [.no,.no,.no]) (ts.map Aj) [] n [.no]:=by
  refine⟨by rw [Go]; omega,?_⟩;refine Av Oy (λρ=>∃s,ρ=[s]) _ _ _ _ ?_ ⟨_,rfl⟩ ?_
  ·rintro d hd ρ m nx ⟨s,rfl⟩ hnx
   obtain⟨t,ht,rfl⟩:=Re.mp hd;exact⟨_,AH (j:=2) rfl,_,AH (j:=0) rfl,_,AH (j:=1) rfl,z3,hnx _ ⟨_,rfl⟩⟩
  rw [dE,eF];refine⟨_,_,rfl,rfl,by rw [Go]; exact h64,⟨λx hx=>?_,λx hx y hy ka kb ea eb=>?_⟩,λxs' hp ho=>?_⟩
  ·obtain⟨t,_,rfl⟩:=Re.mp hx
   exact⟨Bn t,rfl,fb _ _⟩
  ·obtain⟨t,_,rfl⟩:=Re.mp hx
   obtain⟨u,_,rfl⟩:=Re.mp hy;cases (show some (Bn t)=some ka from ea);cases (show some (Bn u)=some kb from eb);rfl
  ·obtain⟨ts',h1,rfl⟩:=Q4 (f:=Oy∘Aj) (g:=λd=>match d with | .tup [.int l,.str a,.str b]=>⟨a,b,l⟩ | _=>⟨"","",0⟩) (λ_=>rfl) hp
   have ho:Ck ts':=by
    unfold IH at ho;rw [fW] at ho;exact ho.imp λ{s t} z=>z _ _ rfl rfl
   refine⟨by show (ts'.map (Oy∘Aj)).length<=10000000; rw [Go,h1.length_eq]; omega,?_⟩;refine Av (λd=>match d with | .tup [l,a,b]=>.tup [a,b,l] | d=>d) (λρ=>∃a b c,ρ=[a,b,c]) _ _ _ _ ?_ ⟨_,_,_,rfl⟩ ?_
   ·rintro d hd ρ m nx ⟨a,b,c,rfl⟩ hnx
    obtain⟨t,ht,rfl⟩:=Re.mp hd;exact⟨rfl,rfl,z3,hnx _ ⟨_,_,_,rfl⟩⟩
   ·rw [dE,eF]
    exact p ts' h1 ho
 cases d with
 | lst ys=>cases hd; exact go
 | tup ys=>cases hd; exact go
 | _=>cases hd
end
theorem UE{s t:A2}(h:EK s=EK t):s=t:=by
 obtain⟨a,b,l⟩:=s;obtain⟨a',b',l'⟩:=t;unfold EK at h;simp only [List.cons.injEq,Sum.inl.injEq,Sum.inr.injEq,and_true] at h;obtain⟨rfl,rfl,rfl⟩:=h;rfl
theorem KW{l1 l2:List A2}(p:l1.Perm l2)(h1:Mg l1)(h2:Mg l2):l1=l2:=Na (λa b x y=>UE (Cy _ _ y x)) p h1 h2
theorem LY{ts:List A2}(h:ts.Pairwise Bp):Mg ts:=h.imp λ{s t} z=>by
 cases e:BJ (EK t) (EK s) with
 | false=>rfl
 | true =>
  have:=Cw _ _ _ (Q6 z) e
  rw [CZ] at this;cases this
def Lm:W2:=λss n P=>ss=[.fd]/\3<=n/\∀(t b:Int) (n':Nat),1<=b->b<=t->t<=1000000->n - 3<=n'->P (.tup [.int t,.int b]) n'
def GI:W2:=λss n P=>∃l t b x:Int,ss=[.sh (.int l),.sh (.tup [.int t,.int b]),.sh (.int x)]/\1<=b/\b<=1000000/\1<=t/\t<=1000000/\P (.bl (decide (l*b<=x*t))) n
def JK:Ai:=(Aq (AS N0 (AS B7 (AB 0) (AS Ax (AB 1) (wC (D.int 1)))) (AS B7 (AB 2) (AS Ax (AB 1) (wC (D.int 0))))))
def Hz:Ai:=(Ac (A0 1 (FO (AG (Bg (AG (wC (D.int 2)) (AG (wC (D.int 1)) AW))) (AG (Bg (AG (wC (D.int 3)) (AG (wC (D.int 2)) AW))) (AG (Bg (AG (wC (D.int 1)) (AG (wC (D.int 1)) AW))) (AG (Bg (AG (wC (D.int 3)) (AG (wC (D.int 1)) AW))) (AG (Bg (AG (wC (D.int 5)) (AG (wC (D.int 2)) AW))) (AG (Bg (AG (wC (D.int 1000)) (AG (wC (D.int 999)) AW))) (AG (Bg (AG (AS (OO Jm λi j=>D.int (i ^ j.toNat)) (wC (D.int 10)) (wC (D.int 6))) (AG (wC (D.int 1)) AW))) (AG (Bg (AG (AS (OO Jm λi j=>D.int (i ^ j.toNat)) (wC (D.int 10)) (wC (D.int 6))) (AG (AS (OO Jm λi j=>D.int (i ^ j.toNat)) (wC (D.int 10)) (wC (D.int 6))) AW))) AW))))))))))
 (Ac (A0 2 (AY Bl (AD (BS 0) (AD (AL (wC (D.int 12))) AZ))))
 (Ac (BA (AU (AS Dw (AB 2) (wC (D.int 8)))) (Aq (AS Ax (AB 1) (AB 2))) Ar)
 (Ac (A0 3 (AS A7 (wC (D.int 1)) (AY Bl (AD (BS 0) (AD (AL (wC (D.int 20))) AZ)))))
 (Aq (Bg (AG (AS A7 (AB 3) (AY Bl (AD (BS 0) (AD (AL (AS B7 (wC (D.int 3)) (AB 3))) AZ)))) (AG (AB 3) AW))))))))
section
variable {ss:List Slot}{n:Nat}{Pd:D->Nat->Prop}
theorem cO{i j:Int}(h0:0<=j)(h1:j<=1000000):CMul i j:=.inr ⟨by omega,by omega⟩
theorem cf{i j:Int}(h0:0<=i)(h1:i<=1000000):CMul i j:=.inl ⟨by omega,by omega⟩
theorem NU(h:GI ss n Pd):JK (EE Pd) n (ss++XV 0 .no):=by
 obtain⟨l,t,b,x,rfl,b0,b1,t0,t1,p⟩:=h;unfold JK;exact⟨_,AH (j:=1) rfl,cO (by omega) b1,_,AH (j:=0) rfl,cO (by omega) t1,p⟩
theorem NT(h:Lm ss n Pd):Hz (EE Pd) n (ss++XV 3 .no):=by
 obtain⟨rfl,hn,p⟩:=h;unfold Hz;refine⟨z2,z2,z2,z2,z2,z2,cA,z2,cA,cA,z2,(by decide:8<=sizeLine),?_⟩;refine⟨12,rfl,by decide,by decide,by omega,λr r0 r1=>?_⟩;refine D6 (λc=>?_) λc=>?_
 ·have c:r<8:=of_decide_eq_true c
  obtain⟨z,hz,t,b,rfl,b0,bt,t1⟩:=Vo (p:=λd=>∃t b:Int,d=.tup [.int t,.int b]/\1<=b/\b<=t/\t<=1000000) (xs:=[.tup [.int 2,.int 1],.tup [.int 3,.int 2],.tup [.int 1,.int 1],.tup [.int 3,.int 1],.tup [.int 5,.int 2],.tup [.int 1000,.int 999],.tup [.int ((10:Int) ^ (6:Int).toNat),.int 1],.tup [.int ((10:Int) ^ (6:Int).toNat),.int ((10:Int) ^ (6:Int).toNat)]]) (λd hd=>by
   simp only [T0,dB,or_false] at hd
   rcases hd with rfl | rfl | rfl | rfl | rfl | rfl | rfl | rfl <;> exact⟨_,_,rfl,by decide,by decide,by decide⟩) r0 (by show r<8; exact c)
  exact⟨_,hz,p t b _ b0 bt t1 (by omega)⟩
 ·refine⟨20,rfl,by decide,by decide,by omega,λs s0 s1=>?_⟩
  refine⟨cf (by decide) (by decide),_,rfl,by omega,by omega,by omega,λu u0 u1=>⟨z2,p _ _ _ (by omega) (by omega) (by omega) (by omega)⟩⟩
end
end Nt
namespace L2
open PySem.W
section
variable {prog:Program}{w:World}{A:Around}{E:Value->Shared->Prop}{R:Result->Shared->Prop}{I:Addr}{fp wr:List Addr}{n:Nat}{P:Nat->Value->Prop}{St:Nat->Heap->Prop}
def Xy(prog:dZ)(w:dh)(A:eC)(op:CmpOp)(P:Nat->Ev->Prop)(Cm:dL->Prop)(bt:Nat->Nat->Bool):Prop :=
 ∀i j vi vj (s:Op) (Q:Ev->Op->Prop) (E:Ev->Op->Prop),Cm s.heap->P i vi->P j vj->Q (.bool (bt i j)) s->wpAny (model prog w) A (richCompare op vi vj) Q E s
theorem S8(W:Walks prog w A.in1 I fp wr n P St)(bt:Nat->Nat->Bool)(Cm:dL->Prop)(hcmp:Xy prog w A.in1 .Lt P Cm bt)(S:Ch)(hSf:S∉fp)(hmono:∀h h':dL,Cm h->(∀b o,b∉wr->b≠S->h.get? b=some o->h'.get? b=some o)->Cm h') :
  ∀(k j:Nat) (s:Op) (vb:Ev) (c:Nat),n - (j+1)=k->j+1<=n->St (j+1) s.heap->Cm s.heap->P (argBest bt j) vb ->
  s.heap.get? S=some { cls:=.type "list",dict:=none,data:=.seq #[vb,vb] c,slots:=#[] } ->
  (∀v h' tk,P (argBest bt (n - 1)) v->(∀b o,b∉wr->b≠S->s.heap.get? b=some o->h'.get? b=some o)->R (.ok (.ret v)) { s with heap:=h',toks:=tk }) ->
  codeAny (model prog w) A (.builtin "min.loop" ⟨[.ref I,.none,.ref S],[]⟩) R s:=by
 have hSw:S∉wr:=λh=>hSf (W.sub _ h);have hname:(toString "min"++toString ".loop" : String) = "min.loop":=by decide
 intro k
 induction k with
 | zero =>
  intro j s vb c hk hj hst hcm hPb hS hR;have hin:j+1=n:=by omega
  refine eY PySem.F.entry_min_loop ?_;rw [eL PySem.F.plain_min_loop _];show wpAny _ A.in1 (seqItems? (.ref S) >>= _) _ _ s;refine Db (fA hS rfl ?_);show wpAny _ A.in1 (tryCatch (pyNext (.ref I)) _ >>= _) _ _ s;refine Db (iA (W.done s _ _ (hin▸hst) λh' tk hk'=>?_));have hS':=hk' S _ hSw hS;show wpAny _ A.in1 (updateSeq S (λ_=>#[]) >>= _) _ _ _;refine Db ?_;refine ik hS' rfl (Db (gX (TW ?_)));refine hR vb _ tk (by rw [← hin]; exact hPb) λb o hbw hbS e=>(dM _ _ (eW hbS)).trans (hk' b o hbw e)
 | succ k ih =>
  intro j s vb c hk hj hst hcm hPb hS hR;have hlt:j+1<n:=by omega
  refine eY PySem.F.entry_min_loop ?_;rw [eL PySem.F.plain_min_loop _];show wpAny _ A.in1 (seqItems? (.ref S) >>= _) _ _ s;refine Db (fA hS rfl ?_);show wpAny _ A.in1 (tryCatch (pyNext (.ref I)) _ >>= _) _ _ s;refine Db (iA (W.item (j+1) s _ _ hlt hst λv h' tk hP hst' hk'=>?_));have hS':=hk' S _ hSw hS;have hcm':Cm h':=hmono _ _ hcm λb o h1 _ e=>hk' b o h1 e;show wpAny _ A.in1 (tryCatch (holding [v,v] (richCompare .Lt v vb >>= _)) _ >>= _) _ _ _;refine Db (iA (e_ (Db (hcmp (j+1) (argBest bt j) v vb _ _ _ hcm' hP hPb ?_))));refine Db (e_ (e8 ?_));refine Db (gX (TW ?_));cases hb:bt (j+1) (argBest bt j) with
  | true =>
   simp only [if_true];refine Db ?_;refine ik hS' rfl (Db (gX ?_));rw [hname]
   refine TW ⟨fD PySem.F.plain_min_loop _,ih (j+1) _ v _ (by omega) hlt (W.frame _ _ _ hst' λb hbf o e=>?_) (hmono _ _ hcm' λb o _ h2 e=>(dM _ _ (eW h2)).trans e) (by simp only [argBest,hb,if_true]; exact hP) (ge _ hS' rfl)
    λv' h'' tk'' hP' hk''=>?_⟩
   ·exact(dM _ _ (λh:S=b=>hSf (by rw [h]; exact hbf))).trans e
   ·exact hR v' h'' tk'' hP' λb o hbw hbS e=>hk'' b o hbw hbS ((dM _ _ (eW hbS)).trans (hk' b o hbw e))
  | false =>
   simp only [fg,if_false];refine Db (gX ?_);rw [hname];refine TW ⟨fD PySem.F.plain_min_loop _,ih (j+1) _ vb c (by omega) hlt hst' hcm' (by simp only [argBest,hb,fg,if_false]; exact hPb) hS' λv' h'' tk'' hP' hk''=>?_⟩;exact hR v' h'' tk'' hP' λb o hbw hbS e=>hk'' b o hbw hbS (hk' b o hbw e)
theorem Qa(W:Walks prog w A.in1 I fp wr n P St)(bt:Nat->Nat->Bool)(Cm:dL->Prop)(hcmp:Xy prog w A.in1 .Lt P Cm bt)(S:Ch)(hSf:S∉fp)(hmono:∀h h':dL,Cm h->(∀b o,b∉wr->b≠S->h.get? b=some o->h'.get? b=some o)->Cm h')(hn:0<n){s:Op}{c:Nat}(hst:St 0 s.heap)(hcm:Cm s.heap)
  (hS:s.heap.get? S=some { cls:=.type "list",dict:=none,data:=.seq #[] c,slots:=#[] })
  (hR:∀v h' tk,P (argBest bt (n - 1)) v->(∀b o,b∉wr->b≠S->s.heap.get? b=some o->h'.get? b=some o)->R (.ok (.ret v)) { s with heap:=h',toks:=tk }) :
  codeAny (model prog w) A (.builtin "min.loop" ⟨[.ref I,.none,.ref S],[]⟩) R s:=by
 have hSw:S∉wr:=λh=>hSf (W.sub _ h);have hname:(toString "min"++toString ".loop" : String) = "min.loop":=by decide
 refine eY PySem.F.entry_min_loop ?_;rw [eL PySem.F.plain_min_loop _];show wpAny _ A.in1 (seqItems? (.ref S) >>= _) _ _ s;refine Db (fA hS rfl ?_);show wpAny _ A.in1 (tryCatch (pyNext (.ref I)) _ >>= _) _ _ s;refine Db (iA (W.item 0 s _ _ hn hst λv h' tk hP hst' hk'=>?_));have hS':=hk' S _ hSw hS;have hcm':Cm h':=hmono _ _ hcm λb o h1 _ e=>hk' b o h1 e;show wpAny _ A.in1 (updateSeq S (λ_=>#[v,v]) >>= _) _ _ _;refine Db ?_;refine ik hS' rfl ?_;rw [hname];refine TW ⟨fD PySem.F.plain_min_loop _,S8 W bt Cm hcmp S hSf hmono _ 0 _ v _ rfl hn (W.frame _ _ _ hst' λb hbf o e=>?_) (hmono _ _ hcm' λb o _ h2 e=>(dM _ _ (eW h2)).trans e) hP (ge _ hS' rfl) λv' h'' tk'' hP' hk''=>?_⟩
 ·exact(dM _ _ (λh:S=b=>hSf (by rw [h]; exact hbf))).trans e
 ·exact hR v' h'' tk'' hP' λb o hbw hbS e=>hk'' b o hbw hbS ((dM _ _ (eW hbS)).trans (hk' b o hbw e))
theorem min_list{s:Op}{l:Ch}{items:Array Ev}{Q:Ev->Op->Prop}(bt:Nat->Nat->Bool)(hh:A.handled=none)(hl:s.heap.IsList l items)(hn:0<items.size)
  (hcmp:∀i j vi vj (s':Op) (Q:Ev->Op->Prop) (E:Ev->Op->Prop),(∀b o,s.heap.get? b=some o->s'.heap.get? b=some o)->items[i]?=some vi->items[j]?=some vj->Q (.bool (bt i j)) s'->wpAny (model prog w) A.in1 (richCompare .Lt vi vj) Q E s')
  (h:∀v h' tk,items[argBest bt (items.size - 1)]?=some v->(∀b o,s.heap.get? b=some o->h'.get? b=some o)->Q v { s with heap:=h',toks:=tk }):wpAny (model prog w) A (call (.builtin "min") [.ref l]) Q E s:=by
 have hname:(toString "min"++toString ".loop" : String) = "min.loop":=by decide
 have hlt:l<s.heap.objs.size:=by obtain⟨_,e,_⟩:=hl; exact ZB e
 refine call_function_tree PySem.F.kind_min PySem.F.plain_min PySem.F.entry_min (PySem.F.args_min1 _) ?_;show wpAny _ A.in1 (jA "min" ["key","default"] 0 ⟨[],[]⟩ >>= _) _ _ s;refine Db (jv (show jA "min" ["key","default"] 0 ⟨[],[]⟩=pure [none,none] from rfl) ?_);refine Db (TW ?_);refine Db (e9 hl ?_);refine Db (eS ?_);rw [hname];have W:=Walks.list (prog:=prog) (w:=w) (A:=A.in1) hh s.heap.objs.size l (dJ hlt) items;have hs1:(s.heap.push { cls:=.type "list_iterator",data:=.fields #[.ref l,.int 0 0] }).objs.size=s.heap.objs.size+1:=fh _ _;refine TW ⟨fD PySem.F.plain_min_loop _,Qa W bt (λh'=>∀b o,s.heap.get? b=some o->h'.get? b=some o) (λi j vi vj s' Q E hc h1 h2 q=>hcmp i j vi vj s' Q E hc h1 h2 q) (s.heap.push { cls:=.type "list_iterator",data:=.fields #[.ref l,.int 0 0] }).objs.size (λhm=>?_) (λh1 h2 hc hk b o e=>hk b o (λhm=>?_) ?_ (hc b o e)) hn ⟨⟨_,No _ (c7 _ rfl),rfl,rfl⟩,(hl.push _).push _⟩ (λb o e=>No _ (No _ e)) (c7 _ rfl) λv h' tk hP hk=>?_⟩
 ·rw [hs1] at hm
  rcases T0.mp hm with e | hm
  ·exact absurd e (Nat.succ_ne_self _)
  ·rw [← TM.mp hm] at hlt
   exact absurd hlt (jT.mpr (fO _))
 ·rw [TM.mp hm] at e
  exact absurd (ZB e) (d9 _)
 ·rw [hs1]
  exact dJ (fV (ZB e))
 ·refine h v h' tk hP λb o e=>hk b o (λhm=>?_) ?_ (No _ (No _ e))
  ·rw [TM.mp hm] at e
   exact absurd (ZB e) (d9 _)
  ·rw [hs1]
   exact dJ (fV (ZB e))
end
theorem Ld(keys:List (List Key)):∀m:Nat,argBest (λi j=>BJ (keys.getD i []) (keys.getD j [])) m<=m/\∀i,i<=m->BJ (keys.getD i []) (keys.getD (argBest (λi j=>BJ (keys.getD i []) (keys.getD j [])) m) [])=false
 | 0=>⟨Sc _,λi hi=>by
  have:i=0:=by omega
  subst this;exact CZ _⟩
 | m+1=>by
  obtain⟨h1,h2⟩:=Ld keys m;unfold argBest
  by_cases c:BJ (keys.getD (m+1) []) (keys.getD (argBest (λi j=>BJ (keys.getD i []) (keys.getD j [])) m) [])=true
  ·rw [if_pos c]
   refine⟨Sc _,λi hi=>?_⟩
   by_cases e:i=m+1
   ·subst e; exact CZ _
   ·cases z:BJ (keys.getD i []) (keys.getD (m+1) []) with
    | false=>rfl
    | true =>
     have:=Cw _ _ _ z c
     rw [h2 i (by omega)] at this;cases this
  ·rw [if_neg c]
   refine⟨by omega,λi hi=>?_⟩
   by_cases e:i=m+1
   ·subst e
    cases z:BJ (keys.getD (m+1) []) (keys.getD (argBest (λi j=>BJ (keys.getD i []) (keys.getD j [])) m) []) with
    | false=>rfl
    | true=>exact absurd z c
   ·exact h2 i (by omega)
section
variable {X:Cx}
def XW(K:Frag):List V->Hp->VK->Prop:=λxs H Q=>∃(p:Ch) (vs:List V) (keys:List (List Key)),xs=[.ref p]/\SqL K H p vs/\0<vs.length/\KeysAt K H vs keys /\
 ∀j v,vs[j]?=some v->(∀i,i<vs.length->BJ (keys.getD i []) (keys.getD j [])=false)->Q v H
theorem Ti{k:Nat}(hr:Room k X.A):DB X (.builtin "min") (XW X.K):=by
 intro zG s Z H xs us Q I r h;obtain⟨p,vs,keys,rfl,hq,hn,hk,q⟩:=h;obtain⟨u,rfl,rx⟩:=vals1 r;cases rx;obtain⟨its,r',pl,hz⟩:=I.list hq;have hl:=r'.length;have tk:=hk.tups I r' λb o e=>e;have hu:=hr.un;refine min_list (λi j=>BJ (keys.getD i []) (keys.getD j [])) hr.hd pl.isList (by rw [Tk]; omega) (λi j vi vj s' Q' E' hold h1 h2 q'=>?_) λv h' tk' hv hold=>?_
 ·have hi:i<keys.length:=by rw [← hk.len,hl]; have:=(jM.mp h1).1; simpa using this
  have hj:j<keys.length:=by rw [← hk.len,hl]; have:=(jM.mp h2).1; simpa using this
  obtain⟨a,⟨cls,dd,data,sl⟩,xs,n,e1,e2,e3,e4,e5⟩:=tk.at_ i keys[i] (FM hi);obtain⟨a',⟨cls',dd',data',sl'⟩,xs',n',e1',e2',e3',e4',e5'⟩:=tk.at_ j keys[j] (FM hj);simp only at e3 e4 e3' e4';subst e3 e4 e3' e4';have e1:its.toArray[i]?=some (.ref a):=by rw [← e1]; simp
  have e1':its.toArray[j]?=some (.ref a'):=by rw [← e1']; simp
  rw [e1] at h1;rw [e1'] at h2;cases h1;cases h2;have hsm:=hk.same _ (eZ hi) _ (eZ hj);have g1:keys.getD i []=keys[i]:=by rw [dI,FM hi]; rfl
  have g2:keys.getD j []=keys[j]:=by rw [dI,FM hj]; rfl
  simp only [g1,g2] at q';rw [← GC _ _ hsm] at q'
  exact richCompare_meets_room (op:=.Lt) ⟨_,hold _ _ e2,rfl⟩ ⟨_,hold _ _ e2',rfl⟩ PySem.F.slot_tuple_lt PySem.F.entry_tuple_lt (PySem.F.args_tuple_lt_2 _ _) (GS a a' xs xs' n n' dd dd' sl sl' keys[i] keys[j] e5 e5' hsm)
   ⟨hold _ _ e2,hold _ _ e2',show hX (Eg keys[i] keys[j])≠kA/\Q' (.bool (Eg keys[i] keys[j])) s' from⟨(λx=>nomatch x),q'⟩⟩ (by show X.A.units+1<cLine; omega)
 ·obtain⟨b1,b2⟩:=Ld keys (its.toArray.size - 1)
  rw [Tk] at hv b1 b2;have hj:argBest (λi j=>BJ (keys.getD i []) (keys.getD j [])) (its.length - 1)<vs.length:=by omega
  obtain⟨u,e1,ru⟩:=r'.get (FM hj);have e2:its.toArray[argBest (λi j=>BJ (keys.getD i []) (keys.getD j [])) (its.length - 1)]?=some u:=by rw [← e1]; simp
  rw [e2] at hv;cases hv;exact⟨_,H,I.kept (t':=tk') hold,ru,q _ _ (FM hj) λi hi=>b2 i (by omega)⟩
end
end L2
namespace Dp
open L2
def Xk(ds:List D)(P:D->Prop):Prop:=∃xs,ds=[.lst xs]/\0<xs.length/\Keyed C0 xs/\∀x∈xs,(∀y∈xs,∀kx ky,C0 x=some kx->C0 y=some ky->BJ ky kx=false)->P x
theorem ZR{K:Frag}:EJ K .sh (XW K) Xk:=by
 intro U M H ds vs P Q dom vM hp w q;obtain⟨xs,rfl,hn,hK,w⟩:=w;obtain⟨v,rfl,hx⟩:=Ec hp;obtain⟨a,us,rfl,_,hq,hs⟩:=hx;obtain⟨keys,hl,hk⟩:=GD hK.1;have hlen:=hs.length;refine⟨a,us,keys,rfl,.inl hq,by omega,Im (λd k v _=>Io) hs hK hl hk,λj v hv hle=>?_⟩;have hj:j<xs.length:=by rw [← hlen]; exact(c8.mp hv).1
 obtain⟨v',e1,h1⟩:=hs.get (FM hj);rw [hv] at e1;cases e1;refine q v H xs[j] .refl h1 (w _ (eZ hj) λy hy kx ky ex ey=>?_);obtain⟨i,hi⟩:=gA.mp hy;have hil:i<xs.length:=(c8.mp hi).1;obtain⟨k1,a1,b1,_⟩:=hk i y hi;obtain⟨k2,a2,b2,_⟩:=hk j xs[j] (FM hj)
 have:=hle i (by omega)
 rw [dI,dI,a1,a2] at this;rw [ey] at b1;rw [ex] at b2;cases b1;cases b2;exact this
end Dp
namespace L2
def cJ(d:Ch)(o:Obj)(kvs:List (Key×V)):It :=
 ⟨λi H=>H d=some (.frz o (.dK kvs))/\i<kvs.length,λi H x H'=>∃T p,x=.ref T/\H T=none/\kvs[i]?=some p/\H'=BK H T (.tup [kV p.1,p.2]),λi H=>H d=some (.frz o (.dK kvs))/\kvs.length<=i⟩
theorem Yv{P:dZ}{w:dh}{k:Key}{u:Ev}(h:(BE P w).is k u=true):RelV (kV k) u:=by
 rcases BX h with ⟨i,t,rfl,rfl⟩ | ⟨x,t,rfl,rfl⟩
 ·exact⟨t,rfl⟩
 ·exact⟨t,rfl⟩
theorem N6{X:Cx}{zG:List (Ch×Obj)}{Z:L2.St}{H:Hp}{s:Op}{d:Ch}{o:Obj}{kvs:List (Key×V)}{es:Array DictEntry}{ep:Nat}(I:Inv X zG Z H s)(h:H d=some (.frz o (.dK kvs)))(hd:o.data=.dict es ep) :
  ∃ws,KV kvs ws/\s.heap.DictAt (BE X.prog X.w) d ws ep:=by
 obtain⟨e0,_,_,ws,kv,o',es',ep',e1,e2,e3,e4⟩:=(show ObjOk X.prog X.w H s.heap d (.frz o (.dK kvs)) from I.hok d _ h);rw [e0] at e1;cases e1;rw [hd] at e3;cases e3;exact⟨ws,kv,o,es,e0,e2,hd,e4⟩
theorem P4{P:dZ}{w:dh}{K:Frag}{els:List dO}{j:Nat}{pos:Pos}(d it:Ch)(o:Obj)(kvs:List (Key×V))(es:Array DictEntry)(ep:Nat)(hdat:o.data=.dict es ep) :
  Turn P w K (.Tuple els j pos) (cJ d o kvs) [it] it (λi h=>∃ok ov,IsItemIter h it d i kvs.length ep ok ov) where
 mem:=by simp
 obj:=λi h ⟨ok,ov,st⟩ c hc=>by
  rw [TM.mp hc];exact⟨_,st,λv q=>by cases q⟩
 keep:=λi h h' ⟨ok,ov,st⟩ k=>⟨ok,ov,k it (by simp) _ st⟩
 item:=by
  intro X hP hw hK hc i zG s Z H E I hf st hg;subst hP hw hK;obtain⟨hH,hi⟩:=hg;obtain⟨ok,ov,st⟩:=st;obtain⟨ws,kv,D⟩:=N6 I hH hdat
  have hl:=kv.length;have hiw:i<ws.length:=by omega
  rw [hl] at st;obtain⟨k,v,hkv⟩:∃k v,ws[i]=(k,v):=⟨_,_,rfl⟩;have hx:ws[i]?=some (k,v):=by rw [FM hiw,hkv]
  have hp:kvs[i]?=some kvs[i]:=FM hi;obtain⟨ek,rv⟩:=O3 kv hp hx;have ek:kvs[i].1=k:=ek;refine wpAny_pyNext_items_item st D hx λkey h' hkey hout htup hsz hold=>⟨_,rfl,?_⟩;refine wpAny_letOwnedTupleGo_items hout λh2 hit2 hsame=>?_;have hT:H s.heap.objs.size=none:=I.hok.fresh (Sc _);have nit:s.heap.objs.size≠it:=g9 (ZB st)
  have kk:∀c o,c∉[it]->s.heap.get? c=some o->h2.get? c=some o:=λc o hc e=>by
   have hc:c≠it:=λz=>hc (by rw [z]; exact TM.mpr rfl);exact(hsame.2 c hc).trans (hold c o hc e)
  have I2:Inv X zG Z (BK H s.heap.objs.size (.tup [kV kvs[i].1,kvs[i].2])) { s with heap:=h2 }:=by
   refine I.turnLaid (t':=s.toks) (ch:=[it]) (λc hc=>hf c hc) kk (Sc _) ?_;exact⟨by show 2<=sizeLine; decide,[key,v],.cons (Yv (by rw [ek]; exact hkey)) (.cons rv .nil),⟨_,(hsame.2 _ nit).trans htup,rfl,_,rfl,rfl,rfl⟩⟩
  refine⟨.ref s.heap.objs.size,_,I2,rfl,⟨_,_,rfl,hT,hp,rfl⟩,⟨key,v,by rw [hl]; exact hit2⟩,λc hc=>?_⟩;rw [TM.mp hc,Aa (eW nit)];exact(hf it (by simp)).1
 done:=by
  intro X hP hw hK hc i zG s Z H E I hf st hg;subst hP hw hK;obtain⟨hH,hi⟩:=hg;obtain⟨ok,ov,st⟩:=st;obtain⟨ws,kv,D⟩:=N6 I hH hdat
  have hl:=kv.length;rw [hl] at st;refine wpAny_pyNext_items_end (I.ok.hd hc) st D (gi (by omega)) λh' ext=>⟨rfl,?_⟩;exact I.turnedL (t':=s.toks) (ch:=[it]) (λc hc=>hf c hc) λc o hc e=>ext c o (λz=>hc (by rw [z]; exact TM.mpr rfl)) e
 self:=λA i s Q E ⟨ok,ov,st⟩ h=>PySem.W.kcp_self st h
def Y3(to:TE):TI:=λZ H R=>to Z H λx H1=>∃d o kvs,x=.ref d/\H1 d=some (.frz o (.dK kvs))/\∀r,H1 r=none->R (cJ d o kvs) (BK H1 r (.ext λh=>h.IsItemsView r d))
theorem Up{X:Cx}{e:dO}{els:List dO}{j:Nat}{tpos apos cpos:Pos}{to:TE}(ho:PE X e to)(hbase:attributeBase e "items" X.env (eval e X.env)=eval e X.env:=by rfl)(hline:(apos.endLine==cpos.line)=true:=by rfl) :
  PI X (.Tuple els j tpos) (.Call (.Attribute e "items" apos) [] [] cpos) (Y3 to):=by
 intro zG s Z H R I h;refine wpAny_Call_method0_late hbase hline (thn (ho zG s Z H _ I h) λv s1 ⟨x,H1,I1,r1,d,o,kvs,ex,hd,q⟩=>?_);subst ex;cases r1;obtain⟨h1,h2,lo⟩:=Qg I1 (.inl ⟨kvs,.inr ⟨o,hd⟩⟩);obtain⟨_,_,ws,kv,D⟩:=Hm I1.hok (.inr ⟨o,hd⟩);refine⟨"dict","dict.items",PySem.F.plainAttrs_dict,PySem.F.slot_dict_items,PySem.F.type_dict_items,h1,h2,fw rfl (PySem.evalArgs_none ?_)⟩;refine iX PySem.F.slot_dict_items D.typeIs PySem.F.entry_dict_items (PySem.F.args_dict_items_1 _) (meets_dict_items (BE X.prog X.w) d lo) ⟨⟨ws,D⟩,?_⟩;have hf:H1 s1.heap.objs.size=none:=I1.fresh;have hv:(s1.heap.push { cls:=.type "dict_items",data:=.fields #[.ref d] }).IsItemsView s1.heap.objs.size d:=⟨_,c7 _ rfl,rfl,rfl⟩
 have I2:Inv X zG Z (BK H1 s1.heap.objs.size (.ext λh=>h.IsItemsView s1.heap.objs.size d)) { s1 with heap:=s1.heap.push { cls:=.type "dict_items",data:=.fields #[.ref d] } } :=
  I1.laid (t':=s1.toks) (λb o e=>No _ e) (Sc _) ⟨hv,⟨_,c7 _ rfl⟩,λh1 h2 ⟨o,e,c⟩ k=>⟨o,k o e,c⟩⟩
 have hd2:(BK H1 s1.heap.objs.size (.ext λh=>h.IsItemsView s1.heap.objs.size d)) d=some (.frz o (.dK kvs)):=by rw [Aa (Au hd hf)]; exact hd
 obtain⟨es,ep,hdat⟩:∃es ep,o.data=.dict es ep:=by
  obtain⟨e0,_,_,ws,kv,o',es',ep',e1,e2,e3,e4⟩:=(show ObjOk X.prog X.w H1 s1.heap d (.frz o (.dK kvs)) from I1.hok d _ hd);rw [e0] at e1;cases e1;exact⟨es',ep',e3⟩
 obtain⟨ws2,kv2,D2⟩:=N6 I2 hd2 hdat
 have hl:=kv2.length;refine wpAny_pyIter_items (s:={ s1 with heap:=s1.heap.push { cls:=.type "dict_items",data:=.fields #[.ref d] } }) hv D2 ?_;refine⟨_,[(s1.heap.push { cls:=.type "dict_items",data:=.fields #[.ref d] }).objs.size],_,cJ d o kvs,_,rfl,I2.kept (t':=s1.toks) (λb o e=>No _ e),P4 d _ o kvs es ep hdat,⟨.none,.none,by rw [hl]; exact c7 _ rfl⟩,λc hc=>?_,q _ hf⟩;rw [TM.mp hc];exact I2.fpOk (Sc _) I2.fresh
end L2
namespace Dp
open L2
def wItems(wa:DW):Ex:=λn ρ P=>wa n ρ λd n1=>∃ks ds,d=.fdi ks ds/\(∀k∈ks,RW k)/\P (Ea (ks.map Zj) ds) n1
theorem Yw(k:Key):kV k=kOf k:=by cases k <;> rfl
section
variable {X:Cx}{a:Expr}{zT:Kd}{wa:DW}{els:List Expr}{j:Nat}{tpos apos cpos:Pos}
theorem Vb(ha:DE X a zT wa)(hbase:attributeBase a "items" X.env (eval a X.env)=eval a X.env:=by rfl)(hline:(apos.endLine==cpos.line)=true:=by rfl):DI X (.Tuple els j tpos) (.Call (.Attribute a "items" apos) [] [] cpos) (wItems wa):=by
 obtain⟨t,a1,a2⟩:=ha;refine⟨_,Up a1 hbase hline,λC M H n ρ Z P Rr R w q=>?_⟩;refine a2 C M H n ρ Z _ _ R w λv H1 d n1 ee f1 r1 p=>?_;obtain⟨ks,ds,rfl,hfit,p⟩:=p;have R1:=R.step ee f1;obtain⟨ad,vs,rfl,⟨o,nM,hd⟩,hlen,hs⟩:∃a vs,v=.ref a/\NdF M H1 a ks vs/\ks.length=ds.length/\Ats X.K M H1 ds vs:=r1.tpOf R.dom R.vM;have hl:=hs.length;refine⟨ad,o,_,rfl,hd,λr hr=>?_⟩;have g:Grow H1 (BK H1 r (.ext λh=>h.IsItemsView r ad)):=BH hr;refine q _ _ _ n1 (ee.trans g.ext) (f1.grow g) (λi M' H' pr dom=>?_) p;have pr2:Pres M H1 M' H':=g.pres.trans pr;have hd':H' ad=some (.frz o (.dK (ks.zip vs))):=(pr2.nd nM hd).2;have zl:(ks.zip vs).length=ks.length:=by rw [im]; omega
 have zd:(Ea (ks.map Zj) ds).length=ks.length:=by unfold Ea; rw [gu,Go]; omega
 refine⟨λe he=>?_,λhle=>⟨hd',by omega⟩⟩;have hi:i<ks.length:=by rw [← zd]; exact(c8.mp he).1
 have hid:i<ds.length:=by omega
 refine⟨⟨hd',by omega⟩,λx H2 y=>?_⟩;obtain⟨T,pp,rfl,hT,hp,rfl⟩:=y;obtain⟨v',e1,h1⟩:=(hs.pres pr2).get (FM hid)
 have e2:(ks.zip vs)[i]?=some (ks[i],v'):=by
  rw [List.getElem?_zip_eq_some];exact⟨FM hi,e1⟩
 rw [e2] at hp;cases hp
 have e3:e=.tup [Zj ks[i],ds[i]]:=by
  unfold Ea at he;rw [gh,dC,FM hi,FM hid] at he;exact(c_ he).symm
 subst e3;refine⟨BH hT,Du dom hT ⟨_,_,rfl,?_,_,_,rfl,h1,rfl⟩⟩;show At X.K M' H' (Zj ks[i]) (kV ks[i]);rw [Yw];exact ZK (hfit _ (eZ hi))
end
section
variable {K:Frag}{C:Fm}{M:Addr->Prop}{H:Hp}{n:Nat}{ρ:List Slot}{Z:L2.St}
theorem Rel.hold(R:Rel K C M H n ρ Z){p:Ch}{o:HO}(hp:H p=none):Rel K C (λb=>M b\/b=p) (BK H p o) n ρ Z:=by
 have g:Grow H (BK H p o):=BH hp;have pr:Pres M H (λb=>M b\/b=p) (BK H p o):=G4 hp;refine⟨R.len,λa z=>.inl (R.sub a z),λa z=>?_,R.ext.trans g.ext,R.fU,R.uV,λa z=>.inl (R.vM a z),(R.feed.grow g).more p λf hf q=>?_,λi s q=>(R.sl i s q).pres pr (λ_ z=>.inl z) g.ext R.uV,λq hq=>(R.pin q hq).trans pr,R.br0,R.new,R.two,λq hq=>?_⟩
 ·rcases z with z | z
  ·obtain⟨u,h1⟩:=R.dom a z
   exact⟨u,g.all a u h1⟩
  ·rw [z]; exact⟨o,Ap⟩
 ·obtain⟨_,_,_,_,_,h3,_⟩:=R.feed f hf
  have:=h3.2
  rw [q,hp] at this; cases this
 ·obtain⟨h1,h2,h3,h4⟩:=R.kept q hq
  exact⟨g.all _ _ h1,.inl h2,h3,h4⟩
end
def LC(ks:List Key)(k:Key):Bool:=ks.any λk0=>decide (k0=k)
theorem hasK_iff{ks:List Key}{k:Key}:LC ks k=true↔k∈ks:=by
 unfold LC;rw [ef];exact⟨fun⟨x,hx,e⟩=>by rw [← of_decide_eq_true e]; exact hx,λh=>⟨k,h,decide_eq_true rfl⟩⟩
def DL(ks:List Key)(k:Key):List Key:=if LC ks k=true then ks else ks++[k]
def Dr{α:Type}(ks:List Key)(ds:List α)(k:Key)(d:α):List α:=if LC ks k=true then f7 (λk0 d0=>if k0=k then d else d0) ks ds else ds++[d]
theorem XB{ks:List Key}{vs:List V}(hl:ks.length=vs.length)(k:Key):((ks.zip vs).any λkv=>decide (kv.1=k))=LC ks k:=by
 rw [eG,ef,hasK_iff];constructor
 ·rintro ⟨⟨a,b⟩,hm,e⟩
  have e:a=k:=of_decide_eq_true e;rw [← e];exact(iV hm).1
 ·intro h
  obtain⟨i,hi,e⟩:=io.mp h;refine⟨(ks[i],vs[i]'(by omega)),?_,by rw [e]; exact decide_eq_true rfl⟩;exact io.mpr ⟨i,by rw [im]; omega,by rw [List.getElem_zip]⟩
theorem Ud{ks:List Key}{vs:List V}(hl:ks.length=vs.length)(k:Key)(v:V):putK (ks.zip vs) k v=(DL ks k).zip (Dr ks vs k v):=by
 unfold putK DL Dr;rw [XB hl]
 by_cases h:LC ks k=true
 ·rw [if_pos h,if_pos h,if_pos h]
  have go:∀(ks:List Key) (vs:List V),((ks.zip vs).map λkv=>if kv.1=k then (kv.1,v) else kv)=ks.zip (f7 (λk0 d0=>if k0=k then v else d0) ks vs):=by
   intro ks
   induction ks with
   | nil=>intro vs; rfl
   | cons a ks ih =>
    intro vs;cases vs with
    | nil=>rfl
    | cons b vs =>
     show (if a=k then (a,v) else (a,b))::_=(a,if a=k then v else b)::_;exact List.cons_eq_cons.mpr ⟨by split <;> rfl,ih vs⟩
  exact go ks vs
 ·rw [if_neg h,if_neg h,if_neg h,List.zip_append hl]
  rfl
theorem Ats.put{K:Frag}{M:Ch->Prop}{H:Hp}{k:Key}{d:D}{v:V}(hd:At K M H d v):∀{ks:List Key} {ds:List D} {vs:List V},Ats K M H ds vs->Ats K M H (f7 (λk0 d0=>if k0=k then d else d0) ks ds) (f7 (λk0 d0=>if k0=k then v else d0) ks vs)
 | [],ds,vs,h=>rfl
 | a::ks,[],vs,h=>by cases (show vs=[] from h); rfl
 | a::ks,e::ds,vs,h=>by
  obtain⟨u,r,rfl,h1,h2⟩:=h;refine⟨_,_,rfl,?_,Ats.put hd h2⟩;show At K M H (if a=k then d else e) (if a=k then v else u)
  by_cases e1:a=k
  ·rw [if_pos e1,if_pos e1]; exact hd
  ·rw [if_neg e1,if_neg e1]; exact h1
theorem Ats.putX{K:Frag}{M:Ch->Prop}{H:Hp}{k:Key}{d:D}{v:V}{ks:List Key}{ds:List D}{vs:List V}(hd:At K M H d v)(h:Ats K M H ds vs):Ats K M H (Dr ks ds k d) (Dr ks vs k v):=by
 unfold Dr
 split
 ·exact Ats.put hd h
 ·exact h.append (Ats.one hd)
theorem RE{α:Type}{ks:List Key}{ds:List α}{k:Key}{d:α}(hl:ks.length=ds.length):(DL ks k).length=(Dr ks ds k d).length:=by
 unfold DL Dr
 split
 ·rw [gu]; omega
 ·rw [c9,c9]; show ks.length+1=ds.length+1; omega
theorem ML:∀{ks:List Key} {ds:List D} {k:Key},k∉ks->BN ks ds k=none
 | [],ds,k,_=>by unfold BN; rfl
 | a::ks,[],k,_=>rfl
 | a::ks,d::ds,k,h=>by
  unfold BN;rw [if_neg (λe=>h (by rw [e]; exact On))];exact ML λz=>h (Rs _ z)
theorem IN:∀{ks:List Key} {ds:List D} {k:Key},ks.length=ds.length->k∈ks->∃z,BN ks ds k=some z
 | [],ds,k,_,h=>by cases h
 | a::ks,[],k,h,_=>by cases h
 | a::ks,d::ds,k,hl,h=>by
  unfold BN
  by_cases e:a=k
  ·exact⟨d,if_pos e⟩
  ·rw [if_neg e]
   exact IN (by simpa using hl) ((T0.mp h).resolve_left λz=>e z.symm)
theorem UB{ks:List Key}{ds:List D}{k:Key}{d:D}(hl:ks.length=ds.length)(j:Key):BN (DL ks k) (Dr ks ds k d) j=if j=k then some d else BN ks ds j:=by
 unfold DL Dr
 by_cases h':LC ks k=true
 ·have h:=hasK_iff.mp h'
  rw [if_pos h',if_pos h']
  have go:∀(ks:List Key) (ds:List D),ks.length=ds.length->(j=k->k∈ks)->BN ks (f7 (λk0 d0=>if k0=k then d else d0) ks ds) j=if j=k then some d else BN ks ds j:=by
   intro ks
   induction ks with
   | nil =>
    intro ds _ hm
    by_cases e:j=k
    ·exact absurd (hm e) dB
    ·rw [if_neg e]; cases ds <;> rfl
   | cons a ks ih =>
    intro ds hl hm;cases ds with
    | nil=>cases hl
    | cons e ds =>
     show (if a=j then some (if a=k then d else e) else BN ks _ j)=if j=k then some d else if a=j then some e else BN ks ds j
     by_cases e1:a=j
     ·rw [if_pos e1,if_pos e1]
      by_cases e2:j=k
      ·rw [if_pos e2,if_pos (e1.trans e2)]
      ·rw [if_neg e2,if_neg (λz=>e2 (e1.symm.trans z))]
     ·rw [if_neg e1,if_neg e1]
      refine ih ds (by simpa using hl) λz=>(T0.mp (hm z)).resolve_left λw=>e1 (w.symm.trans z.symm)
  exact go ks ds hl λ_=>h
 ·have h:k∉ks:=λz=>h' (hasK_iff.mpr z)
  rw [if_neg h',if_neg h']
  have go:∀(ks:List Key) (ds:List D),ks.length=ds.length->k∉ks->BN (ks++[k]) (ds++[d]) j=if j=k then some d else BN ks ds j:=by
   intro ks
   induction ks with
   | nil =>
    intro ds hl _;cases ds with
    | nil =>
     show (if k=j then some d else none)=if j=k then some d else none
     by_cases e:j=k
     ·rw [if_pos e,if_pos e.symm]
     ·rw [if_neg e,if_neg (λz=>e z.symm)]
    | cons e ds=>cases hl
   | cons a ks ih =>
    intro ds hl hm;cases ds with
    | nil=>cases hl
    | cons e ds =>
     show (if a=j then some e else BN (ks++[k]) (ds++[d]) j)=if j=k then some d else if a=j then some e else BN ks ds j
     rw [ih ds (by simpa using hl) λz=>hm (Rs _ z)]
     by_cases e1:a=j
     ·rw [if_pos e1,if_pos e1,if_neg (λz=>hm (by rw [← z,← e1]; exact On))]
     ·rw [if_neg e1,if_neg e1]
  exact go ks ds hl h
section
variable {X:Cx}{a b e:Expr}{κ zT zO:Kd}{wa wb:DW}{pos pos':Pos}
def P1(wk wv:DW):DW:=λn ρ P=>wk n ρ λk n1=>wv n1 ρ λd n2=>∃key,keyOf k=some key/\P (.dic [key] [d]) n2
theorem Pj(ha:DE X a zT wa)(hb:DE X b zO wb)(hk:zO≠.tp:=by intro z; cases z):DE X (.Dict [some a] [b] pos) .fr (P1 wa wb):=by
 obtain⟨t,h1,h2⟩:=ha;obtain⟨u,g1,g2⟩:=hb;refine⟨_,WP (Uk h1 g1 WL) rfl rfl (fb _ _) (by show 1<=15; decide),λC M H n ρ Z P Q R w q=>λp hp=>?_⟩;have R1:=R.hold (o:=.dK []) hp
 have np:¬C.U p:=λz=>by
  obtain⟨o,w⟩:=R.dom p (R.vM p (R.uV p z));rw [hp] at w; cases w
 refine h2 C _ _ n ρ Z _ _ R1 w λx H2 k n1 e1 f1 r1 p1=>?_;have R2:=R1.step e1 f1;refine g2 C _ _ n1 ρ Z _ _ R2 p1 λy H3 d n2 e2 f2 r2 p2=>?_;obtain⟨key,hkey,p2⟩:=p2;have R3:=R2.step e2 f2;have hat:At X.K (λb=>M b\/b=p) H3 d y:=r2.shOf R2.dom hk;have hp3:H3 p=some (.dK []):=e2.keep (e1.keep Ap np) np;have hx:x=kV key:=C7 hkey (r1.tpOf R1.dom R1.vM);refine⟨hp3,[(key,y)],by rw [hx]; rfl,by show 1<=15; decide,?_⟩;show Q (.ref p) (BK H3 p (.dK [(key,y)]));refine q _ _ (.dic [key] [d]) n2 (λb o eb=>?_) ?_ ⟨p,rfl,hp,[y],Ap,rfl,?_⟩ p2
 ·have nb:b≠p:=Au eb hp
  obtain⟨o1,z1,k1,t1⟩:=e1 b o (by rw [Aa nb]; exact eb);obtain⟨o2,z2,k2,t2⟩:=e2 b o1 z1;exact⟨o2,by rw [Aa nb]; exact z2,λnu=>(k2 nu).trans (k1 nu),λvs z=>(t2 vs ((t1 vs z).trans z)).trans (t1 vs z)⟩
 ·refine f2.pres ⟨λb o eb nb=>by rw [Aa (λz=>nb (.inr z))]; exact eb,λb z=>.inl (.inl z),λb vs eb=>by rw [Aa (λz=>by rw [z,hp3] at eb; cases eb)]; exact eb⟩ λf o hf eb=>?_
  rw [Aa (λz=>np (by rw [← z]; exact R.fU f hf))];exact eb
 ·exact⟨y,[],rfl,hat.pres (GB (.inr rfl) hp3),rfl⟩
def HE(i:Nat)(wk wv:DW):Ai:=λD2 n ρ=>∃ks ds,ρ[i]?=some (.ow (.dic ks ds))/\wv n ρ λd n1=>wk n1 ρ λk n2=>∃key,keyOf k=some key/\ks.length<sizeLine/\D2.nx n2 (ρ.set i (.ow (.dic (DL ks key) (Dr ks ds key d))))
theorem N4{i k:Nat}{x:dO}(hr:Room k X.A)(hx:PE X x (CG i))(ha:DE X a zT wa)(hb:DE X b zO wb)(hk:zO≠.tp:=by intro z; cases z)
  (hs:swapsWith b (some (.Subscript x a pos')) pos.line X.env=pure false:=by rfl):DS X κ (.Assign [.Subscript x a pos'] b pos) (HE i wa wb):=by
 obtain⟨t,h1,h2⟩:=ha;obtain⟨u,g1,g2⟩:=hb;refine⟨_,Jr (LB hr) hx h1 g1 hs,λC M H n ρ Z D2 E R L w=>?_⟩;obtain⟨ks,ds,hd,w⟩:=w;refine g2 C M H n ρ Z _ _ R w λv H1 d n1 e1 f1 r1 p=>?_;have R1:=R.step e1 f1;obtain⟨ad,ea,m,nv,tt⟩:=R1.sl i _ hd;refine⟨.ref ad,getD_some ea,?_⟩;refine h2 C M H1 n1 ρ Z _ _ R1 p λy H2 kk n2 e2 f2 r2 p=>?_;obtain⟨key,hkey,hlt,p⟩:=p;have R2:=R1.step e2 f2;obtain⟨ad',ea',m',nv',tt'⟩:=R2.sl i _ hd;rw [ea] at ea';cases ea';obtain⟨vs,hH,hl,hs'⟩:=tt';have hat:At X.K M H2 d v:=(r1.shOf R.dom hk).pres (R1.pres e2);have hvl:ks.length=vs.length:=by rw [hl,hs'.length]
 refine⟨ad,_,rfl,by rw [C7 hkey (r2.tpOf R1.dom R1.vM)]; exact DPut.k hH (by rw [im]; omega),L.nx M _ n2 _ Z (R2.mut (e:=.dic (DL ks key) (Dr ks ds key d)) hd ea ⟨Dr ks vs key v,by rw [Ap,Ud hvl],RE hl,(hs'.putX hat).pres (GB m' hH)⟩) p⟩
def Zs:D->Option Bool
 | .lst xs=>some (!xs.isEmpty)
 | .tup xs=>some (!xs.isEmpty)
 | .bl b=>some b
 | .non=>some false
 | _=>none
def X3(wa:DW):JR:=λn ρ P=>wa n ρ λd n1=>∃c,Zs d=some c/\P c n1
theorem Mq{K:Frag}{M:Ch->Prop}{H:Hp}{ds:List D}{vs:List V}(h:Ats K M H ds vs):vs.isEmpty=ds.isEmpty:=by
 have:=h.length
 cases vs <;> cases ds <;> first | rfl | cases this
theorem YA{U M:Ch->Prop}{H:Hp}{K:Frag}{d:D}{x:V}{c:Bool}(h:AtT K U M H d x)(e:Zs d=some c):ZW K x H c:=by
 cases d with
 | lst ds=>cases e; obtain⟨a,vs,rfl,_,hq,hs⟩:=h; exact .inl ⟨vs,.inl hq,by rw [Mq hs]⟩
 | tup ds=>cases e; obtain⟨a,vs,rfl,hq,hs⟩:=h; exact .inr (.inl ⟨vs,.inl (.inl hq),by rw [Mq hs]⟩)
 | bl b=>cases e; rw [h.bl]; exact rfl
 | non=>cases e; rw [show x=.non from h]; exact rfl
 | _=>cases e
theorem ZC(h:DE X e κ wa)(he:∀whole,isTrue e X.env whole=(do let v ← whole; standAt e.pos; holding [v] (truthy v)):=by intro _; rfl):DT X e (X3 wa):=by
 obtain⟨t,h1,h2⟩:=h;refine⟨_,Ue h1 he,λC M H n ρ Z P Q R w q=>?_⟩;refine h2 C M H n ρ Z _ _ R w λv H' d n' e1 f1 r1 p=>?_;obtain⟨c,hc,p⟩:=p;exact⟨c,YA (r1.tpOf R.dom R.vM) hc,q c H' n' e1 f1 p⟩
def GQ(neg:Bool)(d e:D)(P:D->Prop):Prop:=e=.non/\P (.bl (if neg then !PY d else PY d))
theorem Ms{K:Frag}:FH K .sh (λx y H Q=>y=.non/\Q (.bl (decide (x=.non))) H) (GQ false):=λU M H d e x y P Q dom vM hx hy w q=>by
 obtain⟨rfl,w⟩:=w;exact⟨hy,q _ H (.bl (PY d)) .refl (by rw [PX hx]; rfl) w⟩
theorem OI{K:Frag}:FH K .sh (λx y H Q=>y=.non/\Q (.bl (!decide (x=.non))) H) (GQ true):=λU M H d e x y P Q dom vM hx hy w q=>by
 obtain⟨rfl,w⟩:=w;exact⟨hy,q _ H (.bl (!PY d)) .refl (by rw [PX hx]; rfl) w⟩
variable {apos cpos:Pos}{f:Expr}{κf:Kd}{wf:DW}
def Q1(wa wk:DW):DW:=λn ρ P=>wa n ρ λd n1=>∃ks ds,LN d=some (ks,ds)/\wk n1 ρ λk n2=>∃key,keyOf k=some key/\P ((BN ks ds key).getD .non) n2
def OU(wa wk wx:DW):DW:=λn ρ P=>wa n ρ λd n1=>∃ks ds,LN d=some (ks,ds)/\wk n1 ρ λk n2=>wx n2 ρ λz n3=>∃key,keyOf k=some key/\P ((BN ks ds key).getD z) n3
theorem UA{U M:Ch->Prop}{H:Hp}{K:Frag}{d z:D}{x v:V}{ks:List Key}{ds:List D}{key:Key}(e:LN d=some (ks,ds))(h:AtT K U M H d x)(hz:At K M H z v):∃a o,x=.ref a/\DGet H a (kV key) o/\At K M H ((BN ks ds key).getD z) (o.getD v):=by
 obtain⟨a,vs,rfl,ha,hs⟩:=LM e h;refine⟨a,DQ (ks.zip vs) key,rfl,J1 ha,?_⟩;have h:=HH (k:=key) (ks:=ks) hs;cases c:BN ks ds key with
 | none=>rw [c] at h; rw [show DQ (ks.zip vs) key=none from h]; exact hz
 | some y=>rw [c] at h; obtain⟨u,h1,h2⟩:=h; rw [h1]; exact h2
theorem VJ{U M:Ch->Prop}{H:Hp}{K:Frag}{d:D}{x:V}{ks:List Key}{ds:List D}(e:LN d=some (ks,ds))(h:AtT K U M H d x):∃a,x=.ref a/\bO H a:=by
 obtain⟨a,vs,rfl,ha,hs⟩:=LM e h;exact⟨a,rfl,.inl ⟨_,ha⟩⟩
theorem W6{k:Nat}(hr:Room k X.A)(ha:DE X a zT wa)(hb:DE X b zO wb)(m:M1 X a "get" apos b cpos:=by exact⟨rfl,rfl,rfl,rfl⟩):DE X (.Call (.Attribute a "get" apos) [b] [] cpos) .sh (Q1 wa wb):=by
 obtain⟨t,h1,h2⟩:=ha;obtain⟨u,g1,g2⟩:=hb;refine⟨_,Uv (LB hr) h1 g1 m,λC M H n ρ Z P Q R w q=>?_⟩;refine h2 C M H n ρ Z _ _ R w λv H1 d n1 e1 f1 r1 p=>?_;obtain⟨ks,ds,hd,p⟩:=p;have R1:=R.step e1 f1;obtain⟨ad,rfl,hI⟩:=VJ hd (r1.tpOf R.dom R.vM);refine⟨ad,rfl,hI,?_⟩;refine g2 C M H1 n1 ρ Z _ _ R1 p λy H2 kk n2 e2 f2 r2 p=>?_;obtain⟨key,hkey,p⟩:=p;have R2:=R1.step e2 f2;have hat:=(r1.tpOf R.dom R.vM).pres (R1.pres e2) e2 R.uV;obtain⟨ad',o,ex,g,hz⟩:=UA (key:=key) hd hat (z:=.non) (v:=.non) rfl;cases ex;exact⟨o,by rw [C7 hkey (r2.tpOf R1.dom R1.vM)]; exact g,q _ H2 _ n2 (e1.trans e2) f2 hz p⟩
theorem Rv{k:Nat}(hr:Room k X.A)(ha:DE X a zT wa)(hb:DE X b zO wb)(hf:DE X f κf wf)(hk:κf≠.tp:=by intro z; cases z)(m:M2 X a "get" apos b f cpos:=by exact⟨rfl,rfl,rfl,rfl⟩):DE X (.Call (.Attribute a "get" apos) [b,f] [] cpos) .sh (OU wa wb wf):=by
 obtain⟨t,h1,h2⟩:=ha;obtain⟨u,g1,g2⟩:=hb;obtain⟨u2,k1,k2⟩:=hf;refine⟨_,Uu (LB hr) h1 g1 k1 m,λC M H n ρ Z P Q R w q=>?_⟩;refine h2 C M H n ρ Z _ _ R w λv H1 d n1 e1 f1 r1 p=>?_;obtain⟨ks,ds,hd,p⟩:=p;have R1:=R.step e1 f1;obtain⟨ad,rfl,hI⟩:=VJ hd (r1.tpOf R.dom R.vM);refine⟨ad,rfl,hI,?_⟩;refine g2 C M H1 n1 ρ Z _ _ R1 p λy H2 kk n2 e2 f2 r2 p=>?_;have R2:=R1.step e2 f2;refine k2 C M H2 n2 ρ Z _ _ R2 p λz H3 dz n3 e3 f3 r3 p=>?_;obtain⟨key,hkey,p⟩:=p;have R3:=R2.step e3 f3;have hat:=((r1.tpOf R.dom R.vM).pres (R1.pres e2) e2 R.uV).pres (R2.pres e3) e3 R.uV;have hy:=(r2.tpOf R1.dom R1.vM).pres (R2.pres e3) e3 R.uV;obtain⟨ad',o,ex,g,hz⟩:=UA (key:=key) hd hat (r3.shOf R2.dom hk);cases ex;exact⟨o,by rw [C7 hkey hy]; exact g,q _ H3 _ n3 ((e1.trans e2).trans e3) f3 hz p⟩
end
end Dp
namespace L2
open AutoSeq1 (wpAny_loadPart')
theorem S3:typeLookup (.type "list_reverseiterator") "__len__"=pure none:=by rw [jq,iR]; kernel_rfl
theorem VM:typeLookup (.type "list_reverseiterator") "__length_hint__"=pure (some (.builtin "list_reverseiterator.__length_hint__")):=by rw [jq,iR]; kernel_rfl
theorem boot_reversed:bootBuiltins "reversed"=some (.type "reversed"):=by decide +kernel
section
variable {prog:Program}{w:World}{A:Around}{E:Value->Shared->Prop}{s:Shared}{I:Addr}{fp wr:List Addr}{G:Array GenState->Array GenState->Prop}{n:Nat}{P:Nat->Value->Prop}{St:Nat->Shared->Prop}
theorem Pl{Q:List Ev->Op->Prop}
  (W:WalksS prog w A.in1 I fp wr G n P St) (hT:∀i s,St i s->s.TypeIs (.ref I) "list_reverseiterator") (hst:St 0 s) (hfp:∀b∈fp,b<s.heap.objs.size) (hI:I∈fp)
  (hQ:∀s' acc,Moved wr G s s'->ItemsOf P acc n->Q acc.toList s') (hn:n<=sizeLine):wpAny (model prog w) A (collect (.ref I)) Q E s:=by
 have hSf:s.heap.objs.size∉fp:=λhm=>d9 _ (hfp _ hm);have hSI:s.heap.objs.size≠I:=λe=>hSf (e▸hI);unfold collect;refine Db (wpAny_runValue (eY F.entry_proto_collect ?_));rw [eL F.plain_proto_collect _];show wpAny _ A.in1 (newList [] >>= λl=>again (.builtin "list.__iadd__" ⟨[l,.ref I],[]⟩)) _ _ s;refine Db (eS ?_);refine TW ⟨fD F.plain_list_iadd _,eY F.entry_list_iadd ?_⟩;rw [eL F.plain_list_iadd _];have hst₁:=W.frame 0 s (s.heap.push { cls:=.type "list",data:=.seq ([]:List Ev).toArray }) s.toks hst (Sc _) λb _ o e=>No _ e;have hS₁:(s.heap.push { cls:=.type "list",data:=.seq ([]:List Ev).toArray }).get? s.heap.objs.size=some { cls:=.type "list",data:=.seq ([]:List Ev).toArray }:=c7 _ rfl;have h1:jh (.ref s.heap.objs.size) (.ref I)=false:=by simp [jh,hSI]
 show wpAny _ A.in1 (f8 (.ref s.heap.objs.size) (.ref I) (.ref s.heap.objs.size)) _ _ _;unfold f8;refine Db (gM (hT 0 _ hst₁) ?_);rw [if_neg (by rw [h1]; decide)];refine Db (W.self 0 _ _ _ hst₁ ?_);refine Db (e_ ?_);unfold Builtin.List.listLengthHint;refine Db (jn (hT 0 _ hst₁) S3 ?_);show wpAny _ A.in1 (specialOf (dn I) (eE "__length_hint__") >>= _) _ _ _;refine Db (jn (hT 0 _ hst₁) VM ?_)
 (generalize hid:("list_reverseiterator.__length_hint__" : String)=id0; wp_delta; rw [show splitId id0=some ("list_reverseiterator","__length_hint__") from by subst hid; decide +kernel]; subst hid)
 refine Db (wpAny_isInstance (b:=true) (hT 0 _ hst₁) (by rw [isSubtype_type]; kernel_rfl) ?_);refine TW ?_;rw [if_neg (by decide)];refine TW ⟨fD F.plain_extend_loop _,codeAny_extend_loopS W hn _ hSf _ n 0 _ _ _ rfl (dD _) hst₁ hS₁ (ItemsOf.nil P) λs' acc' c' hm hS' hacc=>?_⟩;show wpAny _ A (load s.heap.objs.size >>= _) _ _ s';refine Db (wpAny_load hS' ?_);exact TW (hQ s' acc' (Moved.drop_new (o:={ cls:=.type "list",data:=.seq ([]:List Ev).toArray }) (tk:=s.toks) hm (Sc _)) hacc)
theorem LR{Q₁:Ev->Op->Prop}(W:WalksS prog w A.in1.in1 I fp wr G n P St)(hT:∀i s,St i s->s.TypeIs (.ref I) "list_reverseiterator")(hst:St 0 s)(hfp:∀b∈fp,b<s.heap.objs.size)(hI:I∈fp)
  (h:∀s' acc,Moved wr G s s'->ItemsOf P acc n->Q₁ (.ref s'.heap.objs.size) { s' with heap:=s'.heap.push { cls:=.type "tuple",data:=.seq acc } }) (hsz:n<=sizeLine) :
  codeAny (model prog w) A (.call (.builtin "tuple.__new__") ⟨[.type "tuple",.ref I],[]⟩) (wants Q₁ E) s:=by
 refine codeAny_of_tree ?_;show wpAny _ A.in1 (do checkBuiltinCall "tuple.__new__" ⟨[.type "tuple",.ref I],[]⟩; again (.builtin "tuple.__new__" ⟨[.type "tuple",.ref I],[]⟩)) _ _ s;refine Db (jv (F.newCall_tuple_1 _) (TW ⟨fD F.plain_tuple_new _,eY F.entry_tuple_new ?_⟩));rw [eL F.plain_tuple_new _];have hsub:=sub_tuple_self;have hinit:=init_tuple_lookup;have hmh:=madeHere_tuple;have hTI:=hT 0 s hst
 wp_walk using gM hTI,Pl (hn:=hsz) W hT hst hfp hI
 intro s' acc hm hacc;show wpAny _ _ (fL acc.toList.toArray >>= λv=>ret v) _ _ _;unfold fL;refine Db (eS ?_ (by show acc.toList.toArray.size<=sizeLine; simp only [Array.toArray_toList]; rw [hacc.1]; exact hsz));refine TW ?_;have e:acc.toList.toArray=acc:=by simp
 rw [e];exact h s' acc hm hacc
theorem LV{Q:Ev->Op->Prop}(W:WalksS prog w A.in1.in1.in1 I fp wr G n P St)(hT:∀i s,St i s->s.TypeIs (.ref I) "list_reverseiterator")(hst:St 0 s)(hfp:∀b∈fp,b<s.heap.objs.size)(hI:I∈fp)
  (hQ:∀s' acc,Moved wr G s s'->ItemsOf P acc n->Q (.ref s'.heap.objs.size) { s' with heap:=s'.heap.push { cls:=.type "tuple",data:=.seq acc } }) (hsz:n<=sizeLine) :
  wpAny (model prog w) A (call (.type "tuple") [.ref I]) Q E s:=by
 refine callType_codes (Q₁:=λobj s₁=>s₁.TypeIs obj "tuple"/\Q obj s₁) j8 (F.typeCall_tuple_1 _) F.entry_object_init
  (LR (hsz:=hsz) W hT hst hfp hI λs' acc hm hacc=>⟨⟨_,c7 _ rfl,rfl⟩,hQ s' acc hm hacc⟩) λobj s₁ h₁=>?_
 exact⟨h₁.1,F.args_object_init_2 obj _,object_init_meets j8.init.lookup j8.made (by decide) prog w A.in1 _ s₁ ⟨h₁.1,rfl,h₁.2⟩⟩
end
section
variable {X:Cx}{e:Expr}{te:TE}{p1 p2 q1 q2:Pos}
def WA(K:Frag)(te:TE):TE:=λZ H Q=>te Z H λx H1=>∃l xs,x=.ref l/\SqL K H1 l xs/\∀r,H1 r=none->Q (.ref r) (BK H1 r (.tup xs.reverse))
theorem Ss(hc:X.calm=true)(he:PE X e te)(hg1:Gl X "tuple")(hm1:X.mg "tuple"=none)(hg2:Gl X "reversed")(hm2:X.mg "reversed"=none)(h1:starEach [kO (.Name "reversed" p2) [e] [] q2] X.env=[(false,eval (kO (.Name "reversed" p2) [e] [] q2) X.env)]:=by rfl)
  (h2:starEach [e] X.env=[(false,eval e X.env)]:=by rfl):PE X (.Call (.Name "tuple" p1) [.Call (.Name "reversed" p2) [e] [] q2] [] q1) (WA X.K te):=by
 intro zG s Z H Q I h;refine fe (EV I hg1 hm1 gW ?_);refine eg ?_ h1 rfl;rw [h1];refine fc ?_;refine fe (EV I hg2 hm2 boot_reversed ?_);refine eg ?_ h2 rfl;rw [h2];refine fc (thn (he zG s Z H _ I h) λu s1 ⟨x,H1,I1,r1,l,xs,ex,hq,q⟩=>gD ?_);subst ex;cases r1;obtain⟨its,r',pl,hz⟩:=I1.list hq;have hlen:=r'.length;have hl:s1.heap.IsList l its.toArray:=pl.isList;have hlt:l<s1.heap.objs.size:=by obtain⟨_,e,_⟩:=id hl; exact ZB e
 refine call_reversed_list hl (gD ?_);have hn1:H1 s1.heap.objs.size=none:=I1.fresh;have I2:Inv X zG Z H1 { s1 with heap:=s1.heap.push (revObj l ((its.toArray.size:Int) - 1)) }:=I1.kept (t':=s1.toks) λb o e=>No _ e;have fpk:II X zG H1 s1.heap.objs.size:=I1.fpOk (Sc _) hn1;refine LV (s:={ s1 with heap:=s1.heap.push (revObj l ((its.toArray.size:Int) - 1)) }) (Walks.listRev (A:=X.A.in1.in1.in1) (I1.ok.hd hc) s1.heap.objs.size l (dJ hlt) its.toArray).toS (λi s' hs=>hs.2.1.typeIs) ⟨dD _,⟨_,c7 _ rfl,rfl,by show Data.fields _=_; simp [revObj]⟩,hl.push _⟩ (λb hb=>?_) On (λs' acc hm hacc=>?_) (by rw [Tk,← hlen]; exact hz)
 ·rcases T0.mp hb with rfl | hb
  ·exact ZB (c7 _ rfl)
  ·obtain rfl:=TM.mp hb
   exact dY hlt (by show s1.heap.objs.size<=(s1.heap.push _).objs.size; rw [size_push']; exact fO _)
 ·obtain⟨h',g',d',tk',os'⟩:=s'
  have e1:g'=s1.gens:=hm.gens;have e2:d'=s1.drawn:=hm.drawn;have e3:os'=s1.os:=hm.os;subst e1 e2 e3;have I3':=I2.turnedL (h':=h') (t':=tk') (ch:=[s1.heap.objs.size]) (λc hc=>by rw [TM.mp hc]; exact fpk) λb o hb e=>hm.heap b o hb e;have I3:Inv X zG Z H1 { s1 with heap:=h',toks:=tk' }:=I3'
  have hv:acc.toList=its.reverse:=by
   refine List.ext_getElem? λi=>?_;obtain⟨a1,a2⟩:=hacc;have e0:acc.toList[i]?=acc[i]?:=by simp
   rw [e0]
   by_cases hi:i<its.length
   ·have hi2:i<acc.size:=by rw [a1,Tk]; exact hi
    have a3:=a2 i acc[i] (g7 hi2);rw [List.getElem?_reverse hi,g7 hi2,← a3,Tk];simp
   ·rw [gi (by rw [iu]; omega)]
    exact Array.getElem?_eq_none (by rw [a1,Tk]; omega)
  have hv2:acc=its.reverse.toArray:=by rw [← hv]
  have rr:Vals xs.reverse its.reverse:=r'.reverse;refine⟨.ref h'.objs.size,BK H1 h'.objs.size (.tup xs.reverse),I3.laid (t':=tk') (λb o e=>No _ e) (Sc _) (show ObjOk X.prog X.w _ _ _ (.tup xs.reverse) from⟨by rw [iu]; exact hz,its.reverse,rr,by rw [hv2]; exact IsTupN.new _ _⟩),rfl,q _ (I3.hok.fresh (Sc _))⟩
end
end L2
namespace Dp
open L2
def Q0(wa:DW):DW:=λn ρ P=>wa n ρ λd n1=>∃xs,d=.lst xs/\P (.tup xs.reverse) n1
section
variable {X:Cx}{a:Expr}{zT:Kd}{wa:DW}{p1 p2 q1 q2:Pos}
theorem Tf(hc:X.calm=true)(ha:DE X a zT wa)(hg1:Gl X "tuple")(hm1:X.mg "tuple"=none)(hg2:Gl X "reversed")(hm2:X.mg "reversed"=none)(h1:starEach [kO (.Name "reversed" p2) [a] [] q2] X.env=[(false,eval (kO (.Name "reversed" p2) [a] [] q2) X.env)]:=by rfl)
  (h2:starEach [a] X.env=[(false,eval a X.env)]:=by rfl):DE X (.Call (.Name "tuple" p1) [.Call (.Name "reversed" p2) [a] [] q2] [] q1) .sh (Q0 wa):=by
 obtain⟨t,a1,a2⟩:=ha;refine⟨_,Ss hc a1 hg1 hm1 hg2 hm2 h1 h2,λC M H n ρ Z P Q R w q=>?_⟩;refine a2 C M H n ρ Z _ _ R w λv H1 d n1 e1 f1 r1 p=>?_;obtain⟨xs,rfl,p⟩:=p;have R1:=R.step e1 f1;obtain⟨ad,vs,rfl,nV,hq,hs⟩:=r1.tpOf R.dom R.vM;refine⟨ad,vs,rfl,.inl hq,λr hr=>?_⟩;have g:Grow H1 (BK H1 r (.tup vs.reverse)):=BH hr;exact q _ _ (.tup xs.reverse) n1 (e1.trans g.ext) (f1.grow g) (Du R1.dom hr (hs.reverse)) p
end
end Dp
namespace Nt
open L2 Dp
def Ed(N:Net)(x y:Str)(l:Int):Prop:=(y,l)∈DR N.ts x
inductive Wk (N:Net) (s:Str):Str->Int->Prop
 | nil:Wk N s s 0
 | snoc {x y:Str} {d l:Int}:Wk N s x d->Ed N x y l->Wk N s y (d+l)
def Least(N:Net)(s x:Str)(d:Int):Prop:=Wk N s x d/\∀d',Wk N s x d'->d<=d'
theorem Ed.pos{N:Net}(ok:N.Ok){x y:Str}{l:Int}(h:Ed N x y l):1<=l/\l<=1000000:=by
 obtain⟨_,h1,h2,_⟩:=Np ok h;exact⟨h1,h2⟩
theorem Ed.ins{N:Net}(ok:N.Ok){x y:Str}{l:Int}(h:Ed N x y l):y∈N.ps:=(Np ok h).1
theorem Wk.pos{N:Net}(ok:N.Ok){s x:Str}{d:Int}(h:Wk N s x d):0<=d:=by
 induction h with
 | nil=>exact gI _
 | snoc _ he ih=>have:=he.pos ok; omega
theorem Least.unique{N:Net}{s x:Str}{d d':Int}(h:Least N s x d)(h':Least N s x d'):d=d':=by
 have:=h.2 d' h'.1
 have:=h'.2 d h.1
 omega
theorem Hr{N:Net}{s:Str}{F:Str->Option Int}(h0:∃d,F s=some d/\d<=0)(hw:∀x d,F x=some d->Wk N s x d)(hc:∀x d y l,F x=some d->Ed N x y l->∃d',F y=some d'/\d'<=d+l) :
  (∀x d,F x=some d->Least N s x d)/\∀x d,Wk N s x d->F x≠none:=by
 have main:∀x d,Wk N s x d->∃d',F x=some d'/\d'<=d:=by
  intro x d h
  induction h with
  | nil=>exact h0
  | snoc _ he ih =>
   obtain⟨d1,e1,h1⟩:=ih;obtain⟨d2,e2,h2⟩:=hc _ _ _ _ e1 he;exact⟨d2,e2,by omega⟩
 refine⟨λx d e=>⟨hw x d e,λd' h=>?_⟩,λx d h e=>?_⟩
 ·obtain⟨d1,e1,h1⟩:=main x d' h
  rw [e] at e1;cases e1;exact h1
 ·obtain⟨d1,e1,_⟩:=main x d h
  rw [e] at e1;cases e1
theorem Jy{N:Net}{t:A2}(ht:t∈N.ts):Ed N t.a t.b t.len/\Ed N t.b t.a t.len:=by
 constructor
 ·exact fZ.mpr ⟨t,ht,di _ (by rw [if_pos rfl]; exact TM.mpr rfl)⟩
 ·exact fZ.mpr ⟨t,ht,dG _ (by rw [if_pos rfl]; exact TM.mpr rfl)⟩
theorem Ed.tie{N:Net}(ok:N.Ok){x y:Str}{l:Int}(h:Ed N x y l):∃t∈N.ts,t.len=l/\((t.a=x/\t.b=y)\/(t.b=x/\t.a=y)):=by
 obtain⟨_,_,_,t,ht,e,h⟩:=Np ok h;exact⟨t,ht,e,h⟩
structure Dmap (ks:List Key) (ds:List D) (enc:α->D) (F:Str->Option α):Prop where
 len:ks.length=ds.length
 at_:∀x:Str,BN ks ds (.inr x)=(F x).map enc
 dom:∀k∈ks,∃x:Str,k=.inr x
 nd:ks.Nodup
theorem Dmap.mem{α:Type}{ks:List Key}{ds:List D}{enc:α->D}{F:Str->Option α}(h:Dmap ks ds enc F)(x:Str):(.inr x∈ks)↔F x≠none:=by
 constructor
 ·intro hm e
  obtain⟨z,hz⟩:=IN h.len hm;rw [h.at_,e] at hz;cases hz
 ·intro hn
  by_cases hm:(eh x:Key)∈ks
  ·exact hm
  ·have:=ML (ds:=ds) hm
   rw [h.at_] at this;cases e:F x with
   | none=>exact absurd e hn
   | some a=>rw [e] at this; cases this
theorem Dmap.one{α:Type}{enc:α->D}{s:Str}{a:α}:Dmap [.inr s] [enc a] enc (λx=>if x=s then some a else none):=by
 refine⟨rfl,λx=>?_,λk hk=>⟨s,TM.mp hk⟩,dP.mpr ⟨dB,d8⟩⟩;show (if (eh s:Key)=.inr x then some (enc a) else none)=(if x=s then some a else none).map enc
 by_cases e:x=s
 ·rw [if_pos e,if_pos (by rw [e])]; rfl
 ·rw [if_neg e,if_neg (λz=>e (eK z).symm)]; rfl
def IT{α:Type}(F:Str->Option α)(x:Str)(a:α):Str->Option α:=λy=>if y=x then some a else F y
theorem Bj{α:Type}{F:Str->Option α}{x:Str}{a:α}:IT F x a x=some a:=if_pos rfl
theorem Bi{α:Type}{F:Str->Option α}{x y:Str}{a:α}(h:y≠x):IT F x a y=F y:=if_neg h
theorem Dmap.put{α:Type}{ks:List Key}{ds:List D}{enc:α->D}{F:Str->Option α}(h:Dmap ks ds enc F)(x:Str)(a:α):Dmap (DL ks (.inr x)) (Dr ks ds (.inr x) (enc a)) enc (IT F x a):=by
 refine⟨RE h.len,λy=>?_,λk hk=>?_,?_⟩
 ·rw [UB h.len]
  unfold IT
  by_cases e:y=x
  ·rw [if_pos e,if_pos (by rw [e])]; rfl
  ·rw [if_neg e,if_neg (λz=>e (eK z)),h.at_]
 ·unfold DL at hk
  split at hk
  ·exact h.dom k hk
  ·rcases dN.mp hk with hk | hk
   ·exact h.dom k hk
   ·exact⟨x,TM.mp hk⟩
 ·unfold DL
  split
  ·exact h.nd
  ·rename_i hn
   rw [eJ];refine⟨h.nd,dP.mpr ⟨dB,d8⟩,λa ha b hb e=>hn (hasK_iff.mpr ?_)⟩;rw [← TM.mp hb,← e];exact ha
theorem Dmap.le{α:Type}{ks:List Key}{ds:List D}{enc:α->D}{F:Str->Option α}(h:Dmap ks ds enc F){ps:List Str}(hp:∀x,F x≠none->x∈ps):ks.length<=ps.length:=by
 have:∀(ks:List Key) (ps:List Str),ks.Nodup->(∀k∈ks,∃x:Str,k=.inr x/\x∈ps)->ks.length<=ps.length:=by
  intro ks
  induction ks with
  | nil=>intro ps _ _; exact dD _
  | cons k ks ih =>
   intro ps hn hm;obtain⟨x,rfl,hx⟩:=hm k On;have hn:=dP.mp hn
   have h1:=ih (ps.erase x) hn.2 λj hj=>by
    obtain⟨y,rfl,hy⟩:=hm j (Rs _ hj);refine⟨y,rfl,(List.mem_erase_of_ne λe=>?_).mpr hy⟩;rw [e] at hj;exact hn.1 hj
   rw [hV hx] at h1
   have:=iK hx
   rw [c6];omega
 refine this ks ps h.nd λk hk=>?_;obtain⟨x,rfl⟩:=h.dom k hk;exact⟨x,rfl,hp x ((h.mem x).mp hk)⟩
abbrev OP:=Str->Option (Int×Option Str)
structure Dj (N:Net) (s:Str) (F:OP) (Wt:List Str):Prop where
 start:F s=some (0,none)
 ins:∀x,F x≠none->x∈N.ps
 wk:∀x d p,F x=some (d,p)->Wk N s x d
 prev:∀x d p,F x=some (d,p)->(p=none/\x=s)\/∃y dy q l,p=some y/\F y=some (dy,q)/\y∉Wt/\Ed N y x l/\d=dy+l
 wfound:∀x∈Wt,F x≠none
 nd:Wt.Nodup
 done:∀x d p y l,F x=some (d,p)->x∉Wt->Ed N x y l->∃dy q,F y=some (dy,q)/\dy<=d+l
 near:∀x d p y dy q,F x=some (d,p)->x∉Wt->F y=some (dy,q)->y∈Wt->d<=dy
theorem Dj.init{N:Net}{s:Str}(hs:s∈N.ps):Dj N s (λx=>if x=s then some (0,none) else none) [s]:=by
 have iff:∀x d p,(if x=s then some ((0:Int),(none:Option Str)) else none)=some (d,p)->x=s/\d=0/\p=none:=λx d p e=>by
  by_cases h:x=s
  ·rw [if_pos h] at e; cases e; exact⟨h,rfl,rfl⟩
  ·rw [if_neg h] at e; cases e
 refine⟨if_pos rfl,λx e=>?_,λx d p e=>?_,λx d p e=>?_,λx hx=>?_,dP.mpr ⟨dB,d8⟩,λx d p y l e hx=>?_,λx d p y dy q e hx=>?_⟩
 ·by_cases h:x=s
  ·rw [h]; exact hs
  ·exact absurd (if_neg h) e
 ·obtain⟨rfl,rfl,rfl⟩:=iff x d p e
  exact .nil
 ·obtain⟨rfl,rfl,rfl⟩:=iff x d p e
  exact .inl ⟨rfl,rfl⟩
 ·rw [TM.mp hx,if_pos rfl]
  intro z; cases z
 ·exact absurd (TM.mpr (iff x d p e).1) hx
 ·exact absurd (TM.mpr (iff x d p e).1) hx
structure Dm (N:Net) (s:Str) (F:OP) (Wt:List Str) (v:Str) (dv:Int) (seen:List (Str×Int)):Prop where
 start:F s=some (0,none)
 ins:∀x,F x≠none->x∈N.ps
 wk:∀x d p,F x=some (d,p)->Wk N s x d
 prev:∀x d p,F x=some (d,p)->(p=none/\x=s)\/∃y dy q l,p=some y/\F y=some (dy,q)/\y∉Wt/\Ed N y x l/\d=dy+l
 wfound:∀x∈Wt,F x≠none
 nd:Wt.Nodup
 done:∀x d p y l,F x=some (d,p)->x∉Wt->x≠v->Ed N x y l->∃dy q,F y=some (dy,q)/\dy<=d+l
 near:∀x d p y dy q,F x=some (d,p)->x∉Wt->F y=some (dy,q)->y∈Wt->d<=dy
 here:∃p,F v=some (dv,p)
 out:v∉Wt
 least:∀x d p,F x=some (d,p)->x∉Wt->d<=dv
 gone:∀y l,(y,l)∈seen->∃dy q,F y=some (dy,q)/\dy<=dv+l
theorem Dj.take{N:Net}{s:Str}{F:OP}{Wt:List Str}(h:Dj N s F Wt){v:Str}{dv:Int}{p:Option Str}(hv:v∈Wt)(e:F v=some (dv,p))(hmin:∀y∈Wt,∀dy q,F y=some (dy,q)->dv<=dy):Dm N s F (Wt.erase v) v dv []:=by
 have sub:∀x,x∈Wt.erase v->x∈Wt:=λx hx=>List.mem_of_mem_erase hx;have out:v∉Wt.erase v:=λz=>(h.nd.mem_erase_iff.mp z).1 rfl
 have back:∀x,x∉Wt.erase v->x=v\/x∉Wt:=λx hx=>by
  by_cases e:x=v
  ·exact .inl e
  ·exact .inr λz=>hx (h.nd.mem_erase_iff.mpr ⟨e,z⟩)
 refine⟨h.start,h.ins,h.wk,λx d q ex=>?_,λx hx=>h.wfound x (sub x hx),h.nd.erase v,λx d q y l ex hx nx he=>?_,λx d q y dy q2 ex hx ey hy=>?_,⟨p,e⟩,out,λx d q ex hx=>?_,λy l hy=>by cases hy⟩
 ·rcases h.prev x d q ex with z | ⟨y,dy,q2,l,e1,e2,e3,e4,e5⟩
  ·exact .inl z
  ·exact .inr ⟨y,dy,q2,l,e1,e2,λz=>e3 (sub y z),e4,e5⟩
 ·rcases back x hx with z | z
  ·exact absurd z nx
  ·exact h.done x d q y l ex z he
 ·rcases back x hx with z | z
  ·subst z
   rw [e] at ex;cases ex;exact hmin y (sub y hy) dy q2 ey
  ·exact h.near x d q y dy q2 ex z ey (sub y hy)
 ·rcases back x hx with z | z
  ·subst z
   rw [e] at ex;cases ex;exact gI _
  ·exact h.near x d q v dv p ex z e hv
theorem Dm.finish{N:Net}{s:Str}{F:OP}{Wt:List Str}{v:Str}{dv:Int}{seen:List (Str×Int)}(h:Dm N s F Wt v dv seen)(hs:∀y l,Ed N v y l->(y,l)∈seen):Dj N s F Wt:=by
 refine⟨h.start,h.ins,h.wk,h.prev,h.wfound,h.nd,λx d p y l e hx he=>?_,h.near⟩
 by_cases z:x=v
 ·subst z
  obtain⟨p',e'⟩:=h.here;rw [e'] at e;cases e;exact h.gone y l (hs y l he)
 ·exact h.done x d p y l e hx z he
theorem Dm.find{N:Net}(ok:N.Ok){s:Str}{F:OP}{Wt:List Str}{v:Str}{dv:Int}{seen:List (Str×Int)}(h:Dm N s F Wt v dv seen){y:Str}{l:Int}(he:Ed N v y l)(hy:F y=none):Dm N s (IT F y (dv+l,some v)) (Wt++[y]) v dv (seen++[(y,l)]):=by
 have hpos:=(he.pos ok).1;obtain⟨pv,ev⟩:=h.here;have ne:∀x d p,F x=some (d,p)->x≠y:=λx d p e z=>by rw [z,hy] at e; cases e
 have keep:∀x d p,F x=some (d,p)->IT F y (dv+l,some v) x=some (d,p):=λx d p e=>by rw [Bi (ne x d p e)]; exact e
 have yW:y∉Wt:=λz=>h.wfound y z hy
 have cases_:∀x d p,IT F y (dv+l,some v) x=some (d,p)->(x=y/\d=dv+l/\p=some v)\/(x≠y/\F x=some (d,p)):=λx d p e=>by
  by_cases z:x=y
  ·rw [z,Bj] at e; cases e; exact .inl ⟨z,rfl,rfl⟩
  ·rw [Bi z] at e; exact .inr ⟨z,e⟩
 have inW:∀x,x∉Wt++[y]->x∉Wt/\x≠y:=λx hx=>⟨λz=>hx (di _ z),λz=>hx (dG _ (by rw [z]; exact TM.mpr rfl))⟩
 have vW:v∉Wt++[y]:=λz=>by
  rcases dN.mp z with z | z
  ·exact h.out z
  ·exact ne v dv pv ev (TM.mp z)
 refine⟨keep _ _ _ h.start,λx hx=>?_,λx d p e=>?_,λx d p e=>?_,λx hx=>?_,?_,λx d p z l2 e hx nx he2=>?_,λx d p z dz q e hx ez hz=>?_,⟨pv,keep _ _ _ ev⟩,vW,λx d p e hx=>?_,λz l2 hz=>?_⟩
 ·by_cases z:x=y
  ·rw [z]; exact he.ins ok
  ·rw [Bi z] at hx; exact h.ins x hx
 ·rcases cases_ x d p e with ⟨rfl,rfl,_⟩ | ⟨_,e⟩
  ·exact .snoc (h.wk v dv pv ev) he
  ·exact h.wk x d p e
 ·rcases cases_ x d p e with ⟨rfl,rfl,rfl⟩ | ⟨_,e⟩
  ·exact .inr ⟨v,dv,pv,l,rfl,keep _ _ _ ev,vW,he,rfl⟩
  ·rcases h.prev x d p e with z | ⟨u,du,q,l2,e1,e2,e3,e4,e5⟩
   ·exact .inl z
   ·refine .inr ⟨u,du,q,l2,e1,keep _ _ _ e2,λz=>?_,e4,e5⟩
    rcases dN.mp z with z | z
    ·exact e3 z
    ·exact ne u du q e2 (TM.mp z)
 ·rcases dN.mp hx with hx | hx
  ·have:=h.wfound x hx
   cases e:F x with
   | none=>exact absurd e this
   | some a=>rw [keep x a.1 a.2 e]; intro z; cases z
  ·rw [TM.mp hx,Bj]; intro z; cases z
 ·rw [eJ]
  exact⟨h.nd,dP.mpr ⟨dB,d8⟩,λa ha b hb e=>yW (by rw [← TM.mp hb,← e]; exact ha)⟩
 ·obtain⟨w1,w2⟩:=inW x hx
  rcases cases_ x d p e with ⟨z,_⟩ | ⟨_,e⟩
  ·exact absurd z w2
  ·obtain⟨d3,q3,e3,h3⟩:=h.done x d p z l2 e w1 nx he2
   exact⟨d3,q3,keep _ _ _ e3,h3⟩
 ·obtain⟨w1,w2⟩:=inW x hx
  rcases cases_ x d p e with ⟨z,_⟩ | ⟨_,ex⟩
  ·exact absurd z w2
  ·rcases cases_ z dz q ez with ⟨_,e2,_⟩ | ⟨nz,ez⟩
   ·have:=h.least x d p ex w1
    omega
   ·rcases dN.mp hz with hz | hz
    ·exact h.near x d p z dz q ex w1 ez hz
    ·exact absurd (TM.mp hz) nz
 ·obtain⟨w1,w2⟩:=inW x hx
  rcases cases_ x d p e with ⟨z,_⟩ | ⟨_,e⟩
  ·exact absurd z w2
  ·exact h.least x d p e w1
 ·rcases dN.mp hz with hz | hz
  ·obtain⟨d3,q3,e3,h3⟩:=h.gone z l2 hz
   exact⟨d3,q3,keep _ _ _ e3,h3⟩
  ·cases TM.mp hz
   exact⟨_,_,Bj,gI _⟩
theorem Dm.nearer{N:Net}(ok:N.Ok){s:Str}{F:OP}{Wt:List Str}{v:Str}{dv:Int}{seen:List (Str×Int)}(h:Dm N s F Wt v dv seen){y:Str}{l dy:Int}{qy:Option Str}(he:Ed N v y l)(hy:F y=some (dy,qy))(hlt:dv+l<dy):Dm N s (IT F y (dv+l,some v)) Wt v dv (seen++[(y,l)]):=by
 have hpos:=(he.pos ok).1;obtain⟨pv,ev⟩:=h.here
 have yW:y∈Wt:=by
  by_cases z:y∈Wt
  ·exact z
  ·have:=h.least y dy qy hy z
   omega
 have vy:v≠y:=λz=>h.out (by rw [z]; exact yW);have keep:∀x,x∉Wt->IT F y (dv+l,some v) x=F x:=λx hx=>Bi λz=>hx (by rw [z]; exact yW)
 have cases_:∀x d p,IT F y (dv+l,some v) x=some (d,p)->(x=y/\d=dv+l/\p=some v)\/(x≠y/\F x=some (d,p)):=λx d p e=>by
  by_cases z:x=y
  ·rw [z,Bj] at e; cases e; exact .inl ⟨z,rfl,rfl⟩
  ·rw [Bi z] at e; exact .inr ⟨z,e⟩
 have less:∀x d p,F x=some (d,p)->∃d' q,IT F y (dv+l,some v) x=some (d',q)/\d'<=d:=λx d p e=>by
  by_cases z:x=y
  ·subst z
   rw [hy] at e;cases e;exact⟨_,_,Bj,by omega⟩
  ·exact⟨d,p,by rw [Bi z]; exact e,gI _⟩
 have sy:s≠y:=λz=>by
  have:=h.start
  rw [z,hy] at this;cases this
  have:=(h.wk v dv pv ev).pos ok
  omega
 refine⟨by rw [Bi sy]; exact h.start,λx hx=>?_,λx d p e=>?_,λx d p e=>?_,λx hx=>?_,h.nd,λx d p z l2 e hx nx he2=>?_,λx d p z dz q e hx ez hz=>?_,⟨pv,by rw [Bi vy]; exact ev⟩,h.out,λx d p e hx=>?_,λz l2 hz=>?_⟩
 ·by_cases z:x=y
  ·rw [z]; exact he.ins ok
  ·rw [Bi z] at hx; exact h.ins x hx
 ·rcases cases_ x d p e with ⟨rfl,rfl,_⟩ | ⟨_,e⟩
  ·exact .snoc (h.wk v dv pv ev) he
  ·exact h.wk x d p e
 ·rcases cases_ x d p e with ⟨rfl,rfl,rfl⟩ | ⟨_,e⟩
  ·exact .inr ⟨v,dv,pv,l,rfl,by rw [Bi vy]; exact ev,h.out,he,rfl⟩
  ·rcases h.prev x d p e with z | ⟨u,du,q,l2,e1,e2,e3,e4,e5⟩
   ·exact .inl z
   ·exact .inr ⟨u,du,q,l2,e1,by rw [keep u e3]; exact e2,e3,e4,e5⟩
 ·by_cases z:x=y
  ·rw [z,Bj]; intro w; cases w
  ·rw [Bi z]; exact h.wfound x hx
 ·rw [keep x hx] at e
  obtain⟨d3,q3,e3,h3⟩:=h.done x d p z l2 e hx nx he2;obtain⟨d4,q4,e4,h4⟩:=less z d3 q3 e3;exact⟨d4,q4,e4,by omega⟩
 ·rw [keep x hx] at e
  rcases cases_ z dz q ez with ⟨rfl,rfl,_⟩ | ⟨nz,ez⟩
  ·have:=h.least x d p e hx
   omega
  ·exact h.near x d p z dz q e hx ez hz
 ·rw [keep x hx] at e
  exact h.least x d p e hx
 ·rcases dN.mp hz with hz | hz
  ·obtain⟨d3,q3,e3,h3⟩:=h.gone z l2 hz
   obtain⟨d4,q4,e4,h4⟩:=less z d3 q3 e3;exact⟨d4,q4,e4,by omega⟩
  ·cases TM.mp hz
   exact⟨_,_,Bj,gI _⟩
theorem Dm.skip{N:Net}{s:Str}{F:OP}{Wt:List Str}{v:Str}{dv:Int}{seen:List (Str×Int)}(h:Dm N s F Wt v dv seen){y:Str}{l dy:Int}{qy:Option Str}(hy:F y=some (dy,qy))(hle:dy<=dv+l):Dm N s F Wt v dv (seen++[(y,l)]):=by
 refine⟨h.start,h.ins,h.wk,h.prev,h.wfound,h.nd,h.done,h.near,h.here,h.out,h.least,λz l2 hz=>?_⟩
 rcases dN.mp hz with hz | hz
 ·exact h.gone z l2 hz
 ·cases TM.mp hz
  exact⟨_,_,hy,hle⟩
structure Told (N:Net) (s:Str) (F:OP):Prop where
 start:F s=some (0,none)
 ins:∀x,F x≠none->x∈N.ps
 least:∀x d p,F x=some (d,p)->Least N s x d
 all:∀x d,Wk N s x d->F x≠none
 prev:∀x d p,F x=some (d,p)->(p=none/\x=s)\/∃y dy q l,p=some y/\F y=some (dy,q)/\Ed N y x l/\d=dy+l
theorem Dj.told{N:Net}{s:Str}{F:OP}(h:Dj N s F []):Told N s F:=by
 have cl:=Hr (N:=N) (s:=s) (F:=λx=>(F x).map (·.1)) ⟨0,by rw [h.start]; rfl,gI _⟩ (λx d e=>by
  obtain⟨⟨d',p⟩,e1,e2⟩:=d6.mp e;cases e2;exact h.wk x _ p e1) (λx d y l e he=>by
  obtain⟨⟨d',p⟩,e1,e2⟩:=d6.mp e;cases e2;obtain⟨dy,q,e3,h3⟩:=h.done x _ p y l e1 dB he;exact⟨dy,by rw [e3]; rfl,h3⟩)
 refine⟨h.start,h.ins,λx d p e=>cl.1 x d (by rw [e]; rfl),λx d hw e=>cl.2 x d hw (by rw [e]; rfl),λx d p e=>?_⟩
 rcases h.prev x d p e with z | ⟨y,dy,q,l,e1,e2,_,e4,e5⟩
 ·exact .inl z
 ·exact .inr ⟨y,dy,q,l,e1,e2,e4,e5⟩
abbrev Kn:=Str->Option Int
structure Bf (N:Net) (s:Str) (c:Nat) (K:Kn):Prop where
 start:∃d,K s=some d/\d<=0
 ins:∀x,K x≠none->x∈N.ps
 wk:∀x d,K x=some d->Wk N s x d
 top:∀x d,K x=some d->d<=1000000*(c:Int)
def big:Nat:=27000001
def wt(K:Kn)(x:Str):Nat:=match K x with
 | some d=>d.toNat
 | none=>big
def Tw(ps:List Str)(K:Kn):Nat:=(ps.map (wt K)).sum
theorem UM{f g:Str->Nat}:∀{ps:List Str},(∀x∈ps,f x<=g x)->(ps.map f).sum<=(ps.map g).sum
 | [],_=>Sc _
 | x::ps,h=>by
  have h1:=h x On;have h2:=UM λy hy=>h y (Rs _ hy);rw [dA,dA,iL,iL];omega
theorem UL{f g:Str->Nat}:∀{ps:List Str},(∀x∈ps,f x<=g x)->(∃x∈ps,f x<g x)->(ps.map f).sum<(ps.map g).sum
 | [],_,⟨x,hx,_⟩=>by cases hx
 | x::ps,h,⟨y,hy,hl⟩=>by
  have h1:=h x On;rw [dA,dA,iL,iL]
  rcases T0.mp hy with rfl | hy
  ·have h2:=UM λy hy=>h y (Rs _ hy)
   omega
  ·have h2:=UL (λy hy=>h y (Rs _ hy)) ⟨y,hy,hl⟩
   omega
theorem Bf.put {N : Net} (ok : N.Ok) {s : Str} {c c' : Nat} {K : Kn} (h : Bf N s c K) (hc : c' ≤ 26) (hcc : c ≤ c') {x y : Str} {d l : Int} (hx : K x = some d) (he : Ed N x y l) (hn : K y = none → c' = c + 1) (hl : ∀ d', K y = some d' → d + l < d') : Bf N s c' (IT K y (d + l)) ∧ Tw N.ps (IT K y (d + l)) < Tw N.ps K := by
  have hp := he.pos ok;have hd := (h.wk x d hx).pos ok;have hw : Wk N s y (d + l) := .snoc (h.wk x d hx) he;have td := h.top x d hx
  have ht : d + l ≤ 1000000 * (c' : Int) := by
    cases e : K y with
    | none => rw [hn e]; have : ((c + 1 : Nat) : Int) = (c : Int) + 1 := by omega
              rw [this, Int.mul_add]; omega
    | some d' =>
      have h1 := hl d' e;have h2 := h.top y d' e;have : (1000000 : Int) * (c : Int) ≤ 1000000 * (c' : Int) := ip (by omega) (by omega);omega
  refine ⟨⟨?_, λz hz => ?_, λz dz e => ?_, λz dz e => ?_⟩, UL (λz _ => ?_) ⟨y, he.ins ok, ?_⟩⟩
  · obtain ⟨d0, e0, h0⟩ := h.start
    by_cases z : s = y
    · have := hl d0 (by rw [← z]; exact e0)
      omega
    · exact ⟨d0, by rw [Bi z]; exact e0, h0⟩
  · by_cases e : z = y
    · rw [e]; exact he.ins ok
    · rw [Bi e] at hz; exact h.ins z hz
  · by_cases w : z = y
    · rw [w, Bj] at e; cases e; rw [w]; exact hw
    · rw [Bi w] at e; exact h.wk z dz e
  · by_cases w : z = y
    · rw [w, Bj] at e; cases e; exact ht
    · rw [Bi w] at e
      have h2 := h.top z dz e;have : (1000000 : Int) * (c : Int) ≤ 1000000 * (c' : Int) := ip (by omega) (by omega);omega
  · unfold wt
    by_cases w : z = y
    · rw [w, Bj]
      cases e : K y with
      | none => show (d + l).toNat ≤ big; unfold big; omega
      | some d' => show (d + l).toNat ≤ d'.toNat; have := hl d' e; omega
    · rw [Bi w]
      exact Sc _
  · unfold wt
    rw [Bj];cases e : K y with
    | none => show (d + l).toNat < big; unfold big; omega
    | some d' => show (d + l).toNat < d'.toNat; have := hl d' e; omega
theorem Bf.init{N:Net}{s:Str}(hs:s∈N.ps):Bf N s 1 (λx=>if x=s then some 0 else none):=by
 have iff:∀x d,(if x=s then some (0:Int) else none)=some d->x=s/\d=0:=λx d e=>by
  by_cases h:x=s
  ·rw [if_pos h] at e; cases e; exact⟨h,rfl⟩
  ·rw [if_neg h] at e; cases e
 refine⟨⟨0,if_pos rfl,gI _⟩,λx e=>?_,λx d e=>?_,λx d e=>?_⟩
 ·by_cases h:x=s
  ·rw [h]; exact hs
  ·exact absurd (if_neg h) e
 ·obtain⟨rfl,rfl⟩:=iff x d e
  exact .nil
 ·obtain⟨rfl,rfl⟩:=iff x d e
  decide
def KU(K:Kn)(e:Str×Str×Int):Prop:=∀d,K e.1=some d->∃d',K e.2.1=some d'/\d'<=d+e.2.2
structure LTold (N:Net) (s:Str) (K:Kn):Prop where
 ins:∀x,K x≠none->x∈N.ps
 least:∀x d,K x=some d->Least N s x d
 all:∀x d,Wk N s x d->K x≠none
 top:∀x d,K x=some d->d<=30000000
theorem Bf.told{N:Net}(ok:N.Ok){s:Str}{c:Nat}{K:Kn}(h:Bf N s c K)(hc:c<=26)(ht:∀t∈N.ts,KU K (t.a,t.b,t.len)/\KU K (t.b,t.a,t.len)):LTold N s K:=by
 have cl:=Hr h.start h.wk (λx d y l e he=>by
  obtain⟨t,hm,e1,h2⟩:=he.tie ok;subst e1
  rcases h2 with ⟨rfl,rfl⟩ | ⟨rfl,rfl⟩
  ·exact(ht t hm).1 d e
  ·exact(ht t hm).2 d e)
 exact⟨h.ins,cl.1,cl.2,λx d e=>by have:=h.top x d e; omega⟩
def walk(N:Net):List Str->Int->Prop
 | [],_=>False
 | [_],d=>d=0
 | x::y::r,d=>∃l e,Ed N x y l/\walk N (y::r) e/\d=l+e
theorem SI{N:Net}{x y:Str}{r:List Str}{d l:Int}(he:Ed N x y l)(h:walk N (y::r) d):walk N (x::y::r) (l+d):=⟨l,d,he,h,rfl⟩
def bC(N:Net)(a b:Str):Option Int->Prop
 | some d=>Least N a b d
 | none=>∀d,¬Wk N a b d
theorem Told.far{N:Net}{s:Str}{F:OP}(h:Told N s F)(x:Str):bC N s x ((F x).map (·.1)):=by
 cases e:F x with
 | none=>exact λd hw=>h.all x d hw e
 | some a=>exact h.least x a.1 a.2 e
theorem LTold.far{N:Net}{s:Str}{K:Kn}(h:LTold N s K)(x:Str):bC N s x (K x):=by
 cases e:K x with
 | none=>exact λd hw=>h.all x d hw e
 | some d=>exact h.least x d e
def Way(N:Net)(a b:Str)(o:Option (List Str)):Prop:=match o with
 | some w=>∃d r,w=a::r/\w.getLast?=some b/\walk N w d/\Least N a b d/\w.length<=30/\∀x∈w,x∈N.ps
 | none=>∀d,¬Wk N a b d
def aN:Option Str->D
 | some y=>.str y
 | none=>.non
def be:Option Int->D
 | some y=>.int y
 | none=>.non
def aM:Option (List Str)->D
 | some w=>.tup (w.map .str)
 | none=>.non
def Jl(p:Int×Option Str):D:=.tup [.int p.1,aN p.2]
def okN(N:Net):Prop:=N.Ok/\N.ps.length<=25/\N.ts.length<=60
def R9:W2:=λss n P=>∃(Wt:List Str) (ks:List Key) (ds:List D) (F:OP),ss=[.br (.lst (Wt.map .str)),.br (.dic ks ds)]/\Dmap ks ds Jl F/\(∀x∈Wt,F x≠none)/\Wt≠[]/\Wt.length<=100 /\
 ∀v∈Wt,(∀y∈Wt,∀dv pv dy py,F v=some (dv,pv)->F y=some (dy,py)->dv<=dy)->P (.str v) n
def Lo:W2:=λss n P=>∃(N:Net) (s:Str),ss=[.sh (enc N),.sh (.str s)]/\okN N/\s∈N.ps/\∀(ks:List Key) (ds:List D) (F:OP),Dmap ks ds Jl F->Told N s F->P (.dic ks ds) n
def Vu:W2:=λss n P=>∃(N:Net) (a b:Str),ss=[.sh (enc N),.sh (.str a),.sh (.str b)]/\okN N/\a∈N.ps/\b∈N.ps/\∀o,Way N a b o->P (aM o) n
def Hv:Ai:=(Aq (AS Ax (CF Xk (AG (BU [some 1,none] (BF (A4 0)) (Ad 1) Bm (Bg (AG (AS Ax (AS CH (A4 0) (AB 1)) (wC (D.int 0))) (AG (AB 1) AW)))) AW)) (wC (D.int 1))))
def Hx:Ai:=(Ac (A0 2 (AY OL (AD (AL (AB 0)) AZ)))
 (Ac (DY 3 (P1 (AB 1) (Bg (AG (wC (D.int 0)) (AG (wC D.non) AW)))))
 (Ac (DY 4 (FO (AG (AB 1) AW)))
 (Ac (KJ (X3 (A4 4)) (Ac (A0 5 (AY R9 (AD (Cs (A4 4)) (AD (Cs (A4 3)) AZ))))
 (Ac (Lr 4 "list" ac (AG (AB 5) AW))
 (Ez (wItems (AS CH (AB 2) (AB 5))) (DJ 2 (Ao (Ad 6) (Ao (Ad 7) Bu))) (Ac (A0 8 (AS A7 (AS Ax (AS CH (A4 3) (AB 5)) (wC (D.int 0))) (AB 7)))
 (BA (AU (AS (Jk true) (AB 6) (A4 3))) (Ac (Lr 4 "list" Ei (AG (AB 6) AW))
 (HE 3 (AB 6) (Bg (AG (AB 8) (AG (AB 5) AW))))) (BA (AU (AS Dw (AB 8) (AS Ax (AS CH (A4 3) (AB 6)) (wC (D.int 0))))) (HE 3 (AB 6) (Bg (AG (AB 8) (AG (AB 5) AW)))) Ar)))))))
 (OT 3)))))
def Pr:Ai:=(Ac (A0 3 (AY Lo (AD (AL (AB 0)) (AD (AL (AB 1)) AZ))))
 (Ac (BA (AU (AS (Jk true) (AB 2) (AB 3))) (Aq (wC D.non)) Ar)
 (Ac (DY 4 (FO AW))
 (Ac (A0 5 (AB 2))
 (Ac (KJ (AU (AS (GQ true) (AB 5) (wC D.non))) (Ac (Lr 4 "list" Ei (AG (AB 5) AW))
 (A0 5 (AS Ax (AS CH (AB 3) (AB 5)) (wC (D.int 1))))))
 (Aq (Q0 (A4 4))))))))
theorem cB{i j:Int}{x y:Str}(h:BJ [.inl j,.inr y] [.inl i,.inr x]=false):i<=j:=by
 have h:(if (gP j:Key)=.inl i then (if (eh y:Key)=.inr x then false else decide (y.cps.toList<x.cps.toList)) else decide (j<i))=false:=h
 by_cases e:j=i
 ·omega
 ·rw [if_neg (λz=>e (kQ z)),decide_eq_false_iff_not] at h
  omega
section
variable {ss:List Slot}{n:Nat}{Pd:D->Nat->Prop}
theorem Lz(h:R9 ss n Pd):Hv (EE Pd) n (ss++XV 0 .no):=by
 obtain⟨Wt,ks,ds,F,rfl,M,hF,hne,hl,p⟩:=h;unfold Hv;refine⟨by show (Wt.map D.str).length<=10000000; rw [Go]; omega,?_⟩
 have dist:∀x∈Wt,∃d q,F x=some (d,q):=λx hx=>by
  cases e:F x with
  | none=>exact absurd e (hF x hx)
  | some a=>exact⟨a.1,a.2,rfl⟩
 refine Av (λd=>match d with | .str x=>.tup [.int ((F x).getD (0,none)).1,.str x] | d=>d) (λρ=>∃s,ρ=[.br (.dic ks ds),s]) _ _ _ _ ?_ ⟨_,rfl⟩ ?_
 ·rintro d hd ρ m nx ⟨s,rfl⟩ hnx
  obtain⟨x,hx,rfl⟩:=Re.mp hd;obtain⟨dx,q,ex⟩:=dist x hx;refine⟨ks,ds,_,Jl (dx,q),rfl,rfl,by rw [M.at_,ex]; rfl,_,AH (j:=0) rfl,(by decide:2<=sizeLine),?_⟩;have this:nx (.tup [.int ((F x).getD (0,none)).1,.str x]) m [.br (.dic ks ds),.sh (.str x)]:=hnx [.br (.dic ks ds),.sh (.str x)] ⟨_,rfl⟩;rw [show ((F x).getD (0,none)).1=dx by rw [ex]; rfl] at this;exact this
 rw [dE,eF];refine⟨_,rfl,?_,⟨λx hx=>?_,λx hx y hy ka kb ea eb=>?_⟩,λx hx hmin=>?_⟩
 ·rw [Go]
  cases Wt with
  | nil=>exact absurd rfl hne
  | cons a r=>exact Nat.succ_pos _
 ·obtain⟨z,_,rfl⟩:=Re.mp hx
  exact⟨_,rfl,fb _ _⟩
 ·obtain⟨z,_,rfl⟩:=Re.mp hx
  obtain⟨u,_,rfl⟩:=Re.mp hy;cases (show some [gP _,eh _]=some ka from ea);cases (show some [gP _,eh _]=some kb from eb);rfl
 ·obtain⟨v,hv,rfl⟩:=Re.mp hx
  refine⟨_,AH (j:=1) rfl,p v hv λy hy dv pv dy py ev ey=>?_⟩
  have:=cB (hmin _ (Re.mpr ⟨y,hy,rfl⟩) _ _ rfl rfl)
  rw [ev,ey] at this;exact this
theorem BO(x:Str):keyOf (.str x)=some (.inr x):=rfl
theorem S6{N:Net}(ok:N.Ok){xs:List Str}(h:∀x∈xs,x∈N.ps):Ci (.lst (xs.map .str)):=by
 have it:∀d∈xs.map D.str,item d:=λd hd=>by
  obtain⟨x,hx,rfl⟩:=Re.mp hd;exact Cb (ok.names x (h x hx))
 exact MW it
theorem Pz{N:Net}{Wt:List Str}(hn:Wt.Nodup)(h:∀x∈Wt,x∈N.ps):Wt.length<=N.ps.length:=by
 have:∀(xs ps:List Str),xs.Nodup->(∀x∈xs,x∈ps)->xs.length<=ps.length:=by
  intro xs
  induction xs with
  | nil=>intro ps _ _; exact dD _
  | cons x xs ih =>
   intro ps hn hm;have hx:=hm x On;have hn:=dP.mp hn;have h1:=ih (ps.erase x) hn.2 λj hj=>(List.mem_erase_of_ne λe=>hn.1 (by rw [← e]; exact hj)).mpr (hm j (Rs _ hj));rw [hV hx] at h1
   have:=iK hx
   rw [c6];omega
 exact this Wt N.ps hn h
theorem Kq(ks:List Key)(k:Key):(DL ks k).length=if LC ks k=true then ks.length else ks.length+1:=by
 unfold DL
 split
 ·rfl
 ·rw [c9]; rfl
theorem Dmap.has{α:Type}{ks:List Key}{ds:List D}{enc:α->D}{F:Str->Option α}(h:Dmap ks ds enc F){x:Str}:(F x=none->LC ks (.inr x)=false)/\(F x≠none->LC ks (.inr x)=true):=by
 constructor
 ·intro e
  cases c:LC ks (.inr x) with
  | false=>rfl
  | true=>exact absurd e ((h.mem x).mp (hasK_iff.mp c))
 ·intro e
  exact hasK_iff.mpr ((h.mem x).mpr e)
theorem SR{N:Net}{x:Str}(hx:x∈N.ps):BN (N.ps.map .inr) (N.ps.map (Tv N.ts)) (.inr x)=some (Tv N.ts x):=by
 have go:∀ps:List Str,x∈ps->BN (ps.map .inr) (ps.map (Tv N.ts)) (.inr x)=some (Tv N.ts x):=by
  intro ps
  induction ps with
  | nil=>intro h; cases h
  | cons q ps ih =>
   intro h;show (if (eh q:Key)=.inr x then some (Tv N.ts q) else BN (ps.map .inr) (ps.map (Tv N.ts)) (.inr x))=_
   by_cases e:q=x
   ·rw [if_pos (by rw [e]),e]
   ·rw [if_neg (λz=>e (eK z))]
    exact ih ((T0.mp h).resolve_left λz=>e z.symm)
 exact go N.ps hx
theorem V4(l:List (Str×Int)):Ea ((l.map λx=>(.inr x.1:Key)).map Zj) (l.map λx=>.int x.2)=l.map bK:=by
 induction l with
 | nil=>rfl
 | cons p l ih =>
  show D.tup [.str p.1,.int p.2]::Ea _ _=bK p::l.map bK;rw [← ih];rfl
theorem L1(h:Lo ss n Pd):Hx (EF Pd) n (ss++XV 7 .no):=by
 obtain⟨N,s,rfl,⟨ok,lp,lt⟩,hs,p⟩:=h;have szl:=PySem.sizeLine_eq;unfold Hx;refine⟨N,rfl,ok,by omega,by omega,?_⟩;refine⟨(by decide:2<=sizeLine),_,BO s,(by decide:1<=sizeLine),?_⟩;refine IL (λm n' ρ=>n'=n/\∃(Wt:List Str) (ks:List Key) (ds:List D) (F:OP) (s5 s6 s7 s8:Slot),ρ=[.sh (enc N),.sh (.str s),.sh (FS N),.ow (.dic ks ds),.ow (.lst (Wt.map .str)),s5,s6,s7,s8]/\Dmap ks ds Jl F/\Dj N s F Wt/\m+ks.length=N.ps.length+Wt.length) (N.ps.length) ⟨rfl,[s],[.inr s],[Jl (0,none)],_,_,_,_,_,rfl,Dmap.one,Dj.init hs,rfl⟩ ?_ ?_
 ·rintro m n' ρ N' ⟨rfl,Wt,ks,ds,F,s5,s6,s7,s8,rfl,M,J,hm⟩ hN
  cases Wt with
  | nil =>
   exact⟨false,rfl,_,rfl,p ks ds F M J.told⟩
  | cons w0 Wr =>
   refine⟨true,rfl,?_⟩;have insW:∀x∈w0::Wr,x∈N.ps:=λx hx=>J.ins x (J.wfound x hx);have wl:=Pz J.nd insW;refine⟨w0::Wr,ks,ds,F,rfl,M,J.wfound,fb _ _,by omega,λv hv hmin=>?_⟩
   obtain⟨dv,pv,ev⟩:∃d q,F v=some (d,q):=by
    cases e:F v with
    | none=>exact absurd e (J.wfound v hv)
    | some a=>exact⟨a.1,a.2,rfl⟩
   have D0:=J.take hv ev λy hy dy q ey=>hmin y hy dv pv dy q ev ey;have hvp:=insW v hv;have hidx:(w0::Wr).idxOf v<(w0::Wr).length:=List.idxOf_lt_length_of_mem hv;have hget:(w0::Wr)[(w0::Wr).idxOf v]?=some v:=by rw [FM hidx,List.getElem_idxOf]
   have ee:((w0::Wr).map D.str).eraseIdx ((w0::Wr).idxOf v)=((w0::Wr).erase v).map D.str:=by
    rw [List.erase_eq_eraseIdx_of_idxOf (rfl:(w0::Wr).idxOf v=_),Ma]
   refine⟨_,rfl,rfl,_,_,(w0::Wr).idxOf v,rfl,rfl,S6 ok insW,Fe (ok.names v hvp),⟨.str v,by rw [dC,hget]; rfl,by show (v==v)=true; exact beq_self_eq_true v⟩,λk x hk hx=>?_,?_⟩
   ·rw [dC] at hx
    obtain⟨t,ht,rfl⟩:=d6.mp hx;have hkl:k<(w0::Wr).length:=(c8.mp ht).1;have hh:=List.not_of_lt_findIdx (p:=λy=>y==v) (xs:=w0::Wr) hk;have e2:(w0::Wr)[k]=t:=(c8.mp ht).2;have h3:((w0::Wr)[k]==v)=false:=hh;rw [e2] at h3;exact h3
   rw [ee];refine⟨_,_,_,Tv N.ts v,rfl,BO v,SR hvp,_,_,rfl,λk hk=>?_,?_⟩
   ·obtain⟨q,hq,rfl⟩:=Re.mp hk
    have:=(ok.names _ (Np ok hq).1).2.1
    show q.1.length<=sizeLine;omega
   rw [V4];have el:=hV hv
   have inner:∀(rest seen:List (Str×Int)) (Wt:List Str) (ks:List Key) (ds:List D) (F:OP) (s6 s7 s8:Slot),seen++rest=DR N.ts v->Dmap ks ds Jl F->Dm N s F Wt v dv seen->m+ks.length=N.ps.length+Wt.length+1 ->
     Be (DJ 2 (Ao (Ad 6) (Ao (Ad 7) Bu))) (Ac (A0 8 (AS A7 (AS Ax (AS CH (A4 3) (AB 5)) (wC (D.int 0))) (AB 7)))
 (BA (AU (AS (Jk true) (AB 6) (A4 3))) (Ac (Lr 4 "list" Ei (AG (AB 6) AW))
 (HE 3 (AB 6) (Bg (AG (AB 8) (AG (AB 5) AW))))) (BA (AU (AS Dw (AB 8) (AS Ax (AS CH (A4 3) (AB 6)) (wC (D.int 0))))) (HE 3 (AB 6) (Bg (AG (AB 8) (AG (AB 5) AW)))) Ar))) { EF Pd with nx:=N',ct:=N',bk:=OT 3 (EF Pd) } (rest.map bK) n' [.sh (enc N),.sh (.str s),.sh (FS N),.ow (.dic ks ds),.ow (.lst (Wt.map .str)),.sh (.str v),s6,s7,s8]:=by
    intro rest
    induction rest with
    | nil =>
     intro seen Wt ks ds F s6 s7 s8 e M D0 hm;rw [dX] at e;exact hN (m - 1) n' _ (by have:=M.le D0.ins; omega) ⟨rfl,Wt,ks,ds,F,_,_,_,_,rfl,M,D0.finish λy l hy=>by rw [e]; exact hy,by have:=M.le D0.ins; omega⟩
    | cons q rest ih =>
     intro seen Wt ks ds F s6 s7 s8 e M D0 hm;obtain⟨y,l⟩:=q;have he:Ed N v y l:=by show (y,l)∈DR N.ts v; rw [← e]; exact dG _ On
     have e':(seen++[(y,l)])++rest=DR N.ts v:=by rw [dg]; exact e
     obtain⟨pv,ev⟩:=D0.here;have kl:=M.le D0.ins;have hyp:=he.ins ok;have insW:∀x∈Wt,x∈N.ps:=λx hx=>D0.ins x (D0.wfound x hx);have wl:=Pz D0.nd insW;refine⟨rfl,rfl,?_⟩;refine⟨ks,ds,_,Jl (dv,pv),rfl,BO v,by rw [M.at_,ev]; rfl,_,AH (j:=0) rfl,?_⟩;refine⟨ks,ds,_,rfl,BO y,?_⟩;show if (!(BN ks ds (.inr y)).isSome)=true then _ else _
     cases ey:F y with
     | none =>
      have hno:=(M.has (x:=y)).1 ey;rw [M.at_,ey];refine B3 ⟨_,rfl,rfl,_,_,rfl,rfl,by rw [Go]; omega,?_⟩;refine⟨ks,ds,rfl,(by decide:2<=sizeLine),_,BO y,by omega,?_⟩
      have:=ih (seen++[(y,l)]) (Wt++[y]) (DL ks (.inr y)) (Dr ks ds (.inr y) (Jl (dv+l,some v))) _ (.sh (.str y)) (.sh (.int l)) (.sh (.int (dv+l))) e' (M.put y (dv+l,some v)) (D0.find ok he ey) (by rw [Kq,if_neg (by rw [hno]; decide),c9,dR]; omega)
      rw [dq] at this;exact this
     | some a =>
      obtain⟨dy,qy⟩:=a;have hyes:=(M.has (x:=y)).2 (by rw [ey]; intro z; cases z);rw [M.at_,ey];refine BV ⟨ks,ds,_,Jl (dy,qy),rfl,BO y,by rw [M.at_,ey]; rfl,_,AH (j:=0) rfl,?_⟩;show if decide (dv+l<dy)=true then _ else _
      by_cases c:dv+l<dy
      ·rw [decide_eq_true c]
       refine B3 ⟨ks,ds,rfl,(by decide:2<=sizeLine),_,BO y,by omega,?_⟩;exact ih (seen++[(y,l)]) Wt (DL ks (.inr y)) (Dr ks ds (.inr y) (Jl (dv+l,some v))) _ (.sh (.str y)) (.sh (.int l)) (.sh (.int (dv+l))) e' (M.put y (dv+l,some v)) (D0.nearer ok he ey c) (by rw [Kq,if_pos hyes]; omega)
      ·rw [decide_eq_false c]
       exact BV (ih (seen++[(y,l)]) Wt ks ds F (.sh (.str y)) (.sh (.int l)) (.sh (.int (dv+l))) e' M (D0.skip ey (by omega)) hm)
   exact inner (DR N.ts v) [] ((w0::Wr).erase v) ks ds F _ _ _ rfl M D0 (by have:=iK hv; omega)
 ·rintro n' ρ P Q hPQ h
  unfold X3 A4 at h ⊢
  split at h
  all_goals first
   | exact h.elim
   | (obtain⟨c,hc,h⟩:=h; exact⟨c,hc,hPQ _ _ h⟩)
end
structure WInv (N:Net) (F:OP) (b:Str) (db:Int) (acc:List Str) (pl:Option Str):Prop where
 st:(acc=[]/\pl=some b)\/∃z r dz,acc.reverse=z::r/\F z=some (dz,pl)/\walk N acc.reverse (db - dz)/\acc.reverse.getLast?=some b
 nd:acc.Nodup
 ins:∀x∈acc,x∈N.ps
 less:∀y dy q,pl=some y->F y=some (dy,q)->∀x∈acc,∃dx qx,F x=some (dx,qx)/\dy<dx
 fnd:∀y,pl=some y->F y≠none
def wm(F:OP):Option Str->Nat
 | none=>0
 | some y=>((F y).getD (0,none)).1.toNat+1
theorem WInv.step{N:Net}(ok:N.Ok){a:Str}{F:OP}(T:Told N a F){b:Str}{db:Int}{qb:Option Str}(eb:F b=some (db,qb)){acc:List Str}{y:Str}{dy:Int}{qy:Option Str}(h:WInv N F b db acc (some y))(ey:F y=some (dy,qy)):WInv N F b db (acc++[y]) qy/\wm F qy<wm F (some y):=by
 have hy0:=(T.least y dy qy ey).1.pos ok
 have nx:∀w dw q,qy=some w->F w=some (dw,q)->dw<dy:=λw dw q e ew=>by
  rcases T.prev y dy qy ey with ⟨z,_⟩ | ⟨w',dw',q',l,e1,e2,e3,e4⟩
  ·rw [e] at z; cases z
  ·rw [e] at e1
   cases e1;rw [ew] at e2;cases e2
   have:=(e3.pos ok).1
   omega
 have hf:∀w,qy=some w->F w≠none:=λw e=>by
  rcases T.prev y dy qy ey with ⟨z,_⟩ | ⟨w',dw',q',l,e1,e2,_⟩
  ·rw [e] at z; cases z
  ·rw [e] at e1
   cases e1;rw [e2];intro z; cases z
 refine⟨⟨.inr ?_,?_,λx hx=>?_,λw dw q e ew x hx=>?_,hf⟩,?_⟩
 ·rw [List.reverse_append,List.reverse_singleton,iP]
  rcases h.st with ⟨rfl,e⟩ | ⟨z,r,dz,e1,e2,e3,e4⟩
  ·cases e
   rw [eb] at ey;cases ey;exact⟨_,_,_,rfl,eb,(by show db - db=0; omega),rfl⟩
  ·refine⟨y,acc.reverse,dy,rfl,ey,?_,?_⟩
   ·rw [e1] at e3 ⊢
    rcases T.prev z dz (some y) e2 with ⟨w,_⟩ | ⟨w',dw',q',l,k1,k2,k3,k4⟩
    ·cases w
    ·cases k1
     rw [ey] at k2;cases k2
     have:=SI k3 e3
     rw [show l+(db - dz)=db - dy by omega] at this;exact this
   ·rw [e1] at e4 ⊢
    exact e4
 ·rw [eJ]
  refine⟨h.nd,dP.mpr ⟨dB,d8⟩,λx hx z hz e=>?_⟩;rw [TM.mp hz] at e;obtain⟨dx,qx,ex,hlt⟩:=h.less y dy qy rfl ey x hx;rw [e,ey] at ex;cases ex;omega
 ·rcases dN.mp hx with hx | hx
  ·exact h.ins x hx
  ·rw [TM.mp hx]
   exact T.ins y (by rw [ey]; intro z; cases z)
 ·have h1:=nx w dw q e ew
  rcases dN.mp hx with hx | hx
  ·obtain⟨dx,qx,ex,hlt⟩:=h.less y dy qy rfl ey x hx
   exact⟨dx,qx,ex,by omega⟩
  ·rw [TM.mp hx]
   exact⟨dy,qy,ey,h1⟩
 ·cases qy with
  | none=>exact Nat.succ_pos _
  | some w =>
   cases ew:F w with
   | none=>exact absurd ew (hf w rfl)
   | some p =>
    have h1:=nx w p.1 p.2 rfl ew;have h2:=(T.least w p.1 p.2 ew).1.pos ok;show ((F w).getD (0,none)).1.toNat+1<((F y).getD (0,none)).1.toNat+1;rw [ew,ey];show p.1.toNat+1<dy.toNat+1;omega
section
variable {ss:List Slot}{n:Nat}{Pd:D->Nat->Prop}
theorem Sa(h:Vu ss n Pd):Pr (EE Pd) n (ss++XV 3 .no):=by
 obtain⟨N,a,b,rfl,okn,ha,hb,p⟩:=h;have szl:=PySem.sizeLine_eq;have ok:=okn.1;unfold Pr;refine⟨N,a,rfl,okn,ha,λks ds F M T=>?_⟩;refine⟨ks,ds,_,rfl,BO b,?_⟩;show if (!(BN ks ds (.inr b)).isSome)=true then _ else _
 have hfar:=T.far b;cases eb:F b with
 | none =>
  rw [M.at_,eb];rw [eb] at hfar;exact B3 (p none hfar)
 | some x =>
  obtain⟨db,qb⟩:=x;rw [M.at_,eb];refine BV ⟨z0,?_⟩;refine IL (λm n' ρ=>n'=n/\∃(acc:List Str) (pl:Option Str),ρ=[.sh (enc N),.sh (.str a),.sh (.str b),.sh (.dic ks ds),.ow (.lst (acc.map .str)),.sh (aN pl)]/\WInv N F b db acc pl/\m=wm F pl) (wm F (some b)) ⟨rfl,[],some b,rfl,⟨.inl ⟨rfl,rfl⟩,d8,(λx hx=>by cases hx),(λ_ _ _ _ _ x hx=>by cases hx),λy e=>by cases e; rw [eb]; intro z; cases z⟩,rfl⟩ ?_ ?_
  ·rintro m n' ρ N' ⟨rfl,acc,pl,rfl,J,rfl⟩ hN
   have wl:=Pz J.nd J.ins;have l25:=okn.2.1;cases pl with
   | none =>
    refine⟨rfl,_,rfl,?_⟩
    rcases J.st with ⟨_,e⟩ | ⟨z,r,dz,e1,e2,e3,e4⟩
    ·cases e
    ·have hz:z=a:=by
      rcases T.prev z dz none e2 with ⟨_,w⟩ | ⟨w',dw',q',l,k1,_⟩
      ·exact w
      ·cases k1
     subst hz;rw [T.start] at e2;cases e2;rw [← List.map_reverse];refine p (some acc.reverse) ⟨db - 0,r,e1,e4,e3,?_,by rw [iu]; omega,λx hx=>J.ins x (List.mem_reverse.mp hx)⟩;rw [show db - 0=db by omega];exact T.least b db qb eb
   | some y =>
    cases ey:F y with
    | none=>exact absurd ey (J.fnd y rfl)
    | some q =>
     obtain⟨dy,qy⟩:=q;obtain⟨J2,lt2⟩:=J.step ok T eb ey;refine⟨rfl,?_⟩;refine⟨_,rfl,rfl,_,_,rfl,rfl,by rw [Go]; omega,?_⟩;refine⟨ks,ds,_,Jl (dy,qy),rfl,BO y,by rw [M.at_,ey]; rfl,_,AH (j:=1) rfl,?_⟩;refine hN (wm F qy) _ _ lt2 ⟨rfl,acc++[y],qy,?_,J2,rfl⟩;rw [dq];rfl
  ·rintro n' ρ P Q hPQ h
   unfold AU AS AB wC GQ at h ⊢
   split at h
   ·exact⟨h.1,hPQ _ _ h.2⟩
   ·exact h.elim
end
theorem RT{w:List Str}{b:Str}(h:w.getLast?=some b):atI (w.map D.str) (-1)=some (.str b):=by
 obtain⟨ys,rfl⟩:=List.getLast?_eq_some_iff.mp h;rw [dq];exact Vp _ _
theorem Wl{ks:List Key}{ds:List D}{K:Kn}(M:Dmap ks ds D.int K)(x:Str):(BN ks ds (.inr x)).getD .non=be (K x):=by
 rw [M.at_];cases K x <;> rfl
theorem ND{N:Net}(okn:okN N):Fi 1000001 (enc N)/\P9 (enc N)<=48000/\Qk (enc N)<=3:=X8 (Wh okn.1) (K8 okn.1) (by rw [Go]; have:=okn.2.1; omega) (by rw [Go]; have:=okn.2.2; omega)
end Nt
namespace Dp
open L2
def XH(i:Nat)(b:BW)(body:Ai):Ai:=λD2 n ρ=>∃d ds,ρ[i]?=some (.br d)/\IU d=some ds/\Be b body D2 ds n ρ
section
variable {X:Cx}{κ:Kd}{tg:Expr}{body:List Stmt}{b:BW}{wb:Ai}{pos p:Pos}{x:Str}{i:Nat}
theorem Rel.lessKp{K:Frag}{C:Fm}{q:Ch×HO}{M:Ch->Prop}{H:Hp}{n:Nat}{ρ:List Slot}{Z:L2.St}(R:Rel K { C with kp:=q::C.kp } M H n ρ Z):Rel K C M H n ρ Z :=
 ⟨R.len,R.sub,R.dom,R.ext,R.fU,R.uV,R.vM,R.feed,R.sl,R.pin,R.br0,R.new,R.two,λp hp=>R.kept p (Rs _ hp)⟩
theorem Wv(hp:jm (model X.prog X.w) X.A X.env X.xe)(hc:X.calm=true)(h:PE X (.Name x p) (CG i))(hg:DG X tg b)(hb:Tx X κ body wb)
  (hs:∀y,foldedSetIterable (.Name x p) X.env y=pure y:=by intro _; rfl):DS X κ (.For tg (.Name x p) body [] pos) (XH i b wb):=by
 obtain⟨g,g1,g2⟩:=hg;obtain⟨tb,b1,b2⟩:=hb;refine⟨_,NY hp hc (QP h) g1 b1 hs,λC M H n ρ Z D2 E R L w=>?_⟩;obtain⟨d,ds,hi,hd,w⟩:=w;obtain⟨v,e1,hAt⟩:=R.sl i _ hi;cases d with
 | tup ds' =>
  cases hd;obtain⟨a,vs,rfl,hn,hat⟩:=hAt;refine⟨.ref a,getD_some e1,.inr (.inl ⟨a,rfl,⟨vs,hn.sq⟩,?_⟩)⟩;obtain⟨kp',ek⟩:∃kp',kp'=C.kp:=⟨_,rfl⟩;have R1:Rel X.K { C with kp:=kp' } M H n ρ Z:=by rw [ek]; exact R
  have less:∀{M H n ρ Z},Rel X.K { C with kp:=kp' } M H n ρ Z->Rel X.K C M H n ρ Z:=λR=>by rw [ek] at R; exact R
  have st:∀M' H' n' zY zZ,Rel X.K { C with kp:=kp',zG:=(M,H)::C.zG } M' H' n' zY zZ->SqT X.K H' a vs:=λM' H' n' zY zZ R'=>(hn.pres (R'.pin (M,H) On)).sq;refine⟨λi m zZ H'=>m=ds.length - i/\i<=ds.length/\∃M' n' zY,Rel X.K { C with kp:=kp',zG:=(M,H)::C.zG } M' H' n' zY zZ/\Be b wb D2 (ds.drop i) n' zY,⟨ds.length,by simp,dD _,M,n,ρ,R1.pinned,w⟩,?_⟩;rintro i m zZ H' ⟨rfl,hil,M',n',zY,R',w'⟩;have pr:Pres M H M' H':=R'.pin (M,H) On;have hq:=st M' H' n' zY zZ R'
  by_cases hlt:i<ds.length
  ·have ed:ds.drop i=ds[i]::ds.drop (i+1):=e7 hlt
   rw [ed] at w';obtain⟨v,ev,hv⟩:=(hat.pres pr).get (FM hlt);refine .inr ⟨⟨vs,v,hq,ev⟩,λzN H2=>∃M2 n2 zL,Rel X.K { C with kp:=kp',zG:=(M,H)::C.zG } M2 H2 n2 zL zN/\Be b wb D2 (ds.drop (i+1)) n2 zL,λzN H2 ⟨M2,n2,zL,R2',w2⟩=>⟨ds.length - (i+1),by omega,rfl,hlt,M2,n2,zL,R2',w2⟩,λy H2 hy=>?_⟩;obtain⟨e2,hy⟩:=hy;subst e2
   have:some v=some y:=ev.symm.trans (hy vs hq)
   cases this;refine g2 _ M' H2 n' zY zZ ds[i] v _ _ R' hv w' λzQ zV R3 w3=>?_;refine b2 _ M' H2 n' zQ zV { D2 with nx:=Be b wb D2 (ds.drop (i+1)),ct:=Be b wb D2 (ds.drop (i+1)),bk:=D2.nx } _ R3 ⟨λM4 H4 n4 zS zR R4 w4=>⟨M4,n4,zS,R4,w4⟩,L.rt,λM4 H4 n4 zS zR R4 w4=>L.nx M4 H4 n4 zS zR (less R4.unpin) w4,λM4 H4 n4 zS zR R4 w4=>⟨M4,n4,zS,R4,w4⟩⟩ w3
  ·have e:i=ds.length:=by omega
   subst e;rw [gl] at w';exact .inl ⟨⟨vs,hq,by rw [hat.length]; exact Sc _⟩,L.nx M' H' n' zY zZ (less R'.unpin) w'⟩
 | lst ds' =>
  cases hd;obtain⟨a,vs,rfl,nV,hH,hat⟩:=hAt
  obtain⟨o,ho,hro⟩:∃o,H a=some o/\∀H':Hp,H' a=some o->SqL X.K H' a vs:=by
   rcases hH with z | ⟨u,z⟩
   ·exact⟨_,z,λH' e=>.inl (.inl e)⟩
   ·exact⟨_,z,λH' e=>.inl (.inr ⟨u,e⟩)⟩
  refine⟨.ref a,getD_some e1,.inl ⟨a,rfl,⟨vs,hro H ho⟩,?_⟩⟩
  obtain⟨kp',R1,less,st⟩:∃kp',Rel X.K { C with kp:=kp' } M H n ρ Z/\(∀{M H n ρ Z},Rel X.K { C with kp:=kp' } M H n ρ Z->Rel X.K C M H n ρ Z)/\(∀M' H' n' zY zZ,Rel X.K { C with kp:=kp',zG:=(M,H)::C.zG } M' H' n' zY zZ->SqL X.K H' a vs):=by
   by_cases hM:M a
   ·refine⟨(a,o)::C.kp,⟨R.len,R.sub,R.dom,R.ext,R.fU,R.uV,R.vM,R.feed,R.sl,R.pin,R.br0,R.new,R.two,λq hq=>?_⟩,λR=>R.lessKp,λM' H' n' zY zZ R'=>hro H' (R'.kept (a,o) On).1⟩
    rcases T0.mp hq with rfl | hq
    ·refine⟨ho,hM,nV,λj e q z=>?_⟩
     obtain⟨u,hu⟩:=R.br0 i _ a hi e1
     have:=(R.new j _ a q rfl z).2
     rw [hu] at this;cases this
    ·exact R.kept q hq
   ·exact⟨C.kp,R,λR=>R,λM' H' n' zY zZ R'=>hro H' ((R'.pin (M,H) On).1 a o ho hM)⟩
  refine⟨λi m zZ H'=>m=ds.length - i/\i<=ds.length/\∃M' n' zY,Rel X.K { C with kp:=kp',zG:=(M,H)::C.zG } M' H' n' zY zZ/\Be b wb D2 (ds.drop i) n' zY,⟨ds.length,by simp,dD _,M,n,ρ,R1.pinned,w⟩,?_⟩;rintro i m zZ H' ⟨rfl,hil,M',n',zY,R',w'⟩;have pr:Pres M H M' H':=R'.pin (M,H) On;have hq:=st M' H' n' zY zZ R'
  by_cases hlt:i<ds.length
  ·have ed:ds.drop i=ds[i]::ds.drop (i+1):=e7 hlt
   rw [ed] at w';obtain⟨v,ev,hv⟩:=(hat.pres pr).get (FM hlt);refine .inr ⟨⟨vs,v,hq,ev⟩,λzN H2=>∃M2 n2 zL,Rel X.K { C with kp:=kp',zG:=(M,H)::C.zG } M2 H2 n2 zL zN/\Be b wb D2 (ds.drop (i+1)) n2 zL,λzN H2 ⟨M2,n2,zL,R2',w2⟩=>⟨ds.length - (i+1),by omega,rfl,hlt,M2,n2,zL,R2',w2⟩,λy H2 hy=>?_⟩;obtain⟨e2,hy⟩:=hy;subst e2
   have:some v=some y:=ev.symm.trans (hy vs hq)
   cases this;refine g2 _ M' H2 n' zY zZ ds[i] v _ _ R' hv w' λzQ zV R3 w3=>?_;refine b2 _ M' H2 n' zQ zV { D2 with nx:=Be b wb D2 (ds.drop (i+1)),ct:=Be b wb D2 (ds.drop (i+1)),bk:=D2.nx } _ R3 ⟨λM4 H4 n4 zS zR R4 w4=>⟨M4,n4,zS,R4,w4⟩,L.rt,λM4 H4 n4 zS zR R4 w4=>L.nx M4 H4 n4 zS zR (less R4.unpin) w4,λM4 H4 n4 zS zR R4 w4=>⟨M4,n4,zS,R4,w4⟩⟩ w3
  ·have e:i=ds.length:=by omega
   subst e;rw [gl] at w';exact .inl ⟨⟨vs,hq,by rw [hat.length]; exact Sc _⟩,L.nx M' H' n' zY zZ (less R'.unpin) w'⟩
 | _=>cases hd
end
end Dp
namespace Nt
open L2 Dp
def sub(N:Net)(kept:List A2):Net:=⟨N.ps,N.ts.filter λu=>decide (u∈kept)⟩
def U8(N:Net)(t b:Int)(u:A2):Prop:=∃d,Least N u.a u.b d/\d*b<=u.len*t
noncomputable def CC(N:Net)(t b:Int)(u:A2):Bool:=@decide (U8 N t b u) (fT _)
theorem nearB_iff{N:Net}{t b:Int}{u:A2}:CC N t b u=true↔U8 N t b u:=by
 unfold CC;exact @decide_eq_true_iff _ (fT _)
noncomputable def Ag(N:Net)(t b:Int):List A2->List A2->List A2
 | kept,[]=>kept
 | kept,u::r=>if CC (sub N kept) t b u=true then Ag N t b kept r else Ag N t b (kept++[u]) r
def F6:W2:=λss n P=>∃(N:Net) (z:D) (ts:List A2),ss=[.sh (enc N),.br z]/\IU z=some (ts.map Aj)/\ts.length<64/\∀ts':List A2,ts'.Perm ts->Mg ts'->P (enc ⟨N.ps,ts'⟩) n
def Ln:W2:=λss n P=>∃(N:Net) (u:A2) (t b:Int),ss=[.sh (enc N),.sh (.tup [.int t,.int b]),.sh (Aj u)]/\okN N/\u.a∈N.ps/\u.b∈N.ps/\1<=b/\b<=1000000/\1<=t/\t<=1000000/\∀o:Option (List Str),(∀w,o=some w->Way N u.a u.b (some w)/\CC N t b u=true)->(o=none->CC N t b u=false)->P (aM o) n
def DA:W2:=λss n P=>∃(N:Net) (t b:Int),ss=[.sh (enc N),.sh (.tup [.int t,.int b])]/\okN N/\1<=b/\b<=1000000/\1<=t/\t<=1000000/\∀ord:List A2,ord.Perm N.ts->Ck ord->P (enc (sub N (Ag N t b [] ord))) n
def D5:W2:=λss n P=>∃(N:Net) (s:Str) (z:D) (us:List A2),ss=[.br z,.sh (.str s)]/\IU z=some (us.map Aj)/\(∀u,u∈us↔u∈N.ts)/\okN N/\s∈N.ps/\∀(ks:List Key) (ds:List D) (K:Kn),Dmap ks ds D.int K->LTold N s K->P (.dic ks ds) n
def Ps:Ai:=(Aq (Bg (AG (AS Ax (AB 0) (wC (D.int 0))) (AG (CF CB (AG (CF G5 (AG (A4 1) AW)) AW)) AW))))
def Hw:Ai:=(Ac (A0 3 (AY Vu (AD (AL (AB 0)) (AD (AL (AS Ax (AB 2) (wC (D.int 0)))) (AD (AL (AS Ax (AB 2) (wC (D.int 1)))) AZ)))))
 (Ac (BA (Cp (AU (AS (GQ false) (AB 3) (wC D.non))) (Bh (AU (AY GI (AD (AL (AY Vw (AD (AL (AB 0)) (AD (AL (AB 3)) AZ)))) (AD (AL (AB 1)) (AD (AL (AS Ax (AB 2) (wC (D.int 2)))) AZ))))))) (Aq (wC D.non)) Ar)
 (Aq (AB 3))))
def JJ:Ai:=(Ac (DY 2 (FO AW))
 (Ac (Ez (BF (AY DK (AD (AL (AS Ax (AB 0) (wC (D.int 1)))) AZ))) (Ad 3) (BA (AU (AS (GQ false) (AY Ln (AD (AL (AY F6 (AD (AL (AB 0)) (AD (Cs (A4 2)) AZ)))) (AD (AL (AB 1)) (AD (AL (AB 3)) AZ)))) (wC D.non))) (Lr 2 "list" Ei (AG (AB 3) AW)) Ar))
 (Aq (AY F6 (AD (AL (AB 0)) (AD (Cs (A4 2)) AZ))))))
def Fp:Ai:=(Ac (DY 2 (P1 (AB 1) (wC (D.int 0))))
 (Ac (A0 3 (wC (D.bl true)))
 (Ac (KJ (AU (AB 3)) (Ac (A0 3 (wC (D.bl false)))
 (XH 0 (DJ 3 (Ao (Ad 4) (Ao (Ad 5) (Ao (Ad 6) Bu)))) (Ez (BF (FO (AG (Bg (AG (AB 4) (AG (AB 5) AW))) (AG (Bg (AG (AB 5) (AG (AB 4) AW))) AW)))) (DJ 2 (Ao (Ad 7) (Ao (Ad 8) Bu))) (BA (AU (AS (Jk false) (AB 7) (A4 2))) (Ac (A0 9 (AS A7 (AS CH (A4 2) (AB 7)) (AB 6)))
 (BA (AU (AS Dw (AB 9) (OU (A4 2) (AB 8) (AS A7 (AB 9) (wC (D.int 1)))))) (Ac (HE 2 (AB 8) (AB 9))
 (A0 3 (wC (D.bl true)))) Ar)) Ar)))))
 (OT 2))))
def Eo:Ai:=(Ac (DY 2 (FO AW))
 (Ac (Ez (BF (AY DK (AD (AL (AS Ax (AB 0) (wC (D.int 1)))) AZ))) (Ad 3) (Ac (A0 4 (Q1 (AY D5 (AD (Cs (A4 2)) (AD (AL (AS Ax (AB 3) (wC (D.int 0)))) AZ))) (AS Ax (AB 3) (wC (D.int 1)))))
 (BA (Cp (AU (AS (GQ false) (AB 4) (wC D.non))) (AU (AS (f2 λi j=>D.bl (decide (j<i))) (AS B7 (AB 4) (AS Ax (AB 1) (wC (D.int 1)))) (AS B7 (AS Ax (AB 3) (wC (D.int 2))) (AS Ax (AB 1) (wC (D.int 0))))))) (Lr 2 "list" Ei (AG (AB 3) AW)) Ar)))
 (Aq (Bg (AG (AS Ax (AB 0) (wC (D.int 0))) (AG (CF CB (AG (CF G5 (AG (A4 2) AW)) AW)) AW))))))
theorem sub_mem{N:Net}{kept:List A2}{u:A2}:u∈(sub N kept).ts↔u∈N.ts/\u∈kept:=by
 show u∈N.ts.filter _↔_;rw [gQ,decide_eq_true_eq]
theorem B_{N:Net}(okn:okN N)(kept:List A2):okN (sub N kept):=⟨UN okn.1 (λt h=>(sub_mem.mp h).1) (okn.1.trise.filter _),okn.2.1,de (iQ _ _) okn.2.2⟩
theorem P_{N:Net}(ok:N.Ok){kept ts:List A2}(hk:∀t∈kept,t∈N.ts)(nd:kept.Nodup)(hp:ts.Perm kept)(hb:Mg ts):(⟨N.ps,ts⟩:Net)=sub N kept:=by
 unfold sub
 congr 1
 refine KW ((jL (hp.nodup_iff.mpr nd) ((BL ok.trise).filter _)).mpr λt=>?_) hb (LY (ok.trise.filter _));rw [gQ,decide_eq_true_eq,hp.mem_iff];exact⟨λh=>⟨hk t h,h⟩,λh=>h.2⟩
theorem B6{N:Net}{t b:Int}{kept r:List A2}{u:A2}:Ag N t b kept (u::r)=if CC (sub N kept) t b u=true then Ag N t b kept r else Ag N t b (kept++[u]) r:=rfl
theorem Bw{N:Net}{t b:Int}:∀{rest kept:List A2},(∀u∈kept,u∈Ag N t b kept rest)/\∀u∈Ag N t b kept rest,u∈kept\/u∈rest
 | [],kept=>⟨λu h=>h,λu h=>.inl h⟩
 | v::r,kept=>by
  unfold Ag
  split
  ·obtain⟨h1,h2⟩:=Bw (N:=N) (t:=t) (b:=b) (rest:=r) (kept:=kept)
   exact⟨h1,λu hu=>(h2 u hu).imp id λz=>Rs _ z⟩
  ·obtain⟨h1,h2⟩:=Bw (N:=N) (t:=t) (b:=b) (rest:=r) (kept:=kept++[v])
   refine⟨λu hu=>h1 u (di _ hu),λu hu=>?_⟩
   rcases h2 u hu with z | z
   ·rcases dN.mp z with z | z
    ·exact .inl z
    ·exact .inr (by rw [TM.mp z]; exact On)
   ·exact .inr (Rs _ z)
theorem Gz{α β:Type}:∀{l:List (α×β)},(l.map (·.1)).Nodup->∀{p q:α×β},p∈l->q∈l->p.1=q.1->p=q
 | a::l,nd,p,q,hp,hq,e=>by
  rw [dA,dP] at nd
  rcases T0.mp hp with hp2 | hp2 <;> rcases T0.mp hq with hq2 | hq2
  ·rw [hp2,hq2]
  ·exact absurd (Re.mpr ⟨q,hq2,by rw [← e,hp2]⟩:a.1∈l.map (·.1)) nd.1
  ·exact absurd (Re.mpr ⟨p,hp2,by rw [e,hq2]⟩:a.1∈l.map (·.1)) nd.1
  ·exact Gz nd.2 hp2 hq2 e
theorem We{N:Net}(ok:N.Ok){x y:Str}{l:Int}(h:Ed N x y l):look N.ts x y=some l:=by
 unfold look;cases e:(DR N.ts x).find? λz=>decide (z.1=y) with
 | none=>exact absurd (List.find?_eq_none.mp e (y,l) h) (by simp)
 | some q =>
  have h1:decide (q.1=y)=true:=jp (p:=λz:Str×Int=>decide (z.1=y)) e;have e1:q.1=y:=of_decide_eq_true h1;rw [Gz (MS ok x) (gz e) h e1];rfl
theorem OS{N:Net}(ok:N.Ok):∀{r:List Str} {x:Str} {s d:Int},walk N (x::r) d->MC N.ts x r s=some (s+d)
 | [],x,s,d,h=>by
  have:d=0:=h
  subst this;show some s=some (s+0);rw [Int.add_zero]
 | y::r,x,s,d,h=>by
  obtain⟨l,e,he,hw,rfl⟩:=h;show (match look N.ts x y with | some l=>MC N.ts y r (s+l) | none=>none)=_;rw [We ok he];show MC N.ts y r (s+l)=_;rw [OS ok hw,Int.add_assoc]
theorem RP{N:Net}(ok:N.Ok){x:Str}{r:List Str}{d:Int}(hx:x∈N.ps)(hw:walk N (x::r) d):Yp N (.tup ((x::r).map .str))=.int d:=by
 show (if ((x::r).map D.str).all Dt then Yo N (strsOf ((x::r).map .str)) else .non)=_;rw [if_pos (all_strs _),DZ];show (if x∈N.ps then YK (MC N.ts x r 0) else .non)=_;rw [if_pos hx,OS ok hw,Int.zero_add];rfl
theorem IK{N:Net}{B:Nat}(ok:N.Ok):∀{w:List Str},(∀x∈w,x∈N.ps)->Hd B (w.map .str)/\Lp (w.map .str)<=9*w.length/\Hk (w.map .str)<=0
 | [],_=>⟨trivial,Sc _,Sc _⟩
 | x::r,h=>by
  obtain⟨a,b,c⟩:=IK ok (w:=r) λy hy=>h y (Rs _ hy);have hx:=ok.names x (h x On);refine⟨⟨λch hc=>by have:=hx.2.2 ch hc; omega,a⟩,?_,?_⟩
  ·show x.length+1+Lp (r.map .str)<=9*(r.length+1)
   have:=hx.2.1
   omega
  ·show max 0 (Hk (r.map .str))<=0
   omega
theorem T5{N:Net}(ok:N.Ok){w:List Str}(hl:w.length<=30)(h:∀x∈w,x∈N.ps):Y8 (.tup (w.map .str)):=by
 obtain⟨a,b,c⟩:=IK ok h;exact⟨a,by show Lp (w.map .str)<=60000; omega,by show Hk (w.map .str)+1<=50; omega⟩
section
variable {ss:List Slot}{n:Nat}{Pd:D->Nat->Prop}
theorem Si(h:F6 ss n Pd):Ps (EE Pd) n (ss++XV 0 .no):=by
 obtain⟨N,z,ts,rfl,hz,h64,p⟩:=h;unfold Ps;refine⟨_,AH (j:=0) rfl,z,_,rfl,hz,by rw [Go]; exact h64,⟨λx hx=>?_,λx hx y hy ka kb ea eb=>?_⟩,λxs' hp ho=>?_⟩
 ·obtain⟨t,_,rfl⟩:=Re.mp hx
  exact⟨EK t,rfl,fb _ _⟩
 ·obtain⟨t,_,rfl⟩:=Re.mp hx
  obtain⟨u,_,rfl⟩:=Re.mp hy;cases (show some (EK t)=some ka from ea);cases (show some (EK u)=some kb from eb);rfl
 ·obtain⟨ts',h1,rfl⟩:=Q4 (g:=ZH) (λ_=>rfl) hp
  exact⟨z2,p ts' h1 (RL ho)⟩
theorem L0(h:Ln ss n Pd):Hw (EE Pd) n (ss++XV 1 .no):=by
 obtain⟨N,u,t,b,rfl,okn,ha,hb,b1,b2,t1,t2,p⟩:=h;unfold Hw;refine⟨_,AH (j:=0) rfl,_,AH (j:=1) rfl,N,u.a,u.b,rfl,okn,ha,hb,λo ho=>⟨rfl,?_⟩⟩;cases o with
 | none =>
  refine p none (λw e=>by cases e) λ_=>?_;rw [fX];intro z;obtain⟨d,hd,_⟩:=nearB_iff.mp z;exact ho d hd.1
 | some w =>
  have ho':=ho;obtain⟨d,r,rfl,hl,hw,hd,h30,hin⟩:=ho'
  have near:CC N t b u=decide (d*b<=u.len*t):=by
   rw [eG,nearB_iff,decide_eq_true_eq];exact⟨fun⟨d',hd',h2⟩=>by rw [Least.unique hd hd']; exact h2,λh2=>⟨d,hd,h2⟩⟩
  refine⟨N,.tup ((u.a::r).map .str),rfl,okn.1,by have:=okn.2.1; omega,okn.2.2,T5 okn.1 h30 hin,?_⟩;rw [RP okn.1 (hin _ On) hw];refine⟨_,AH (j:=2) rfl,d,t,b,u.len,rfl,b1,b2,t1,t2,?_⟩
  by_cases c:d*b<=u.len*t
  ·rw [decide_eq_true c]
   exact p (some _) (λw e=>by cases e; exact⟨ho,by rw [near]; exact decide_eq_true c⟩) λe=>by cases e
  ·rw [decide_eq_false c]
   exact p none (λw e=>by cases e) λ_=>by rw [near]; exact decide_eq_false c
theorem NQ(h:DA ss n Pd):JJ (EE Pd) n (ss++XV 2 .no):=by
 obtain⟨N,t,b,rfl,okn,b1,b2,t1,t2,p⟩:=h;have ok:=okn.1;have l60:=okn.2.2;have szl:=PySem.sizeLine_eq;unfold JJ;refine⟨z0,_,AH (j:=1) rfl,_,N.ts,rfl,rfl,by omega,λord o1 o2=>?_⟩;have hol:=o1.length_eq;have ndo:ord.Nodup:=o1.nodup_iff.mpr (BL ok.trise)
 have go:∀(rest done kept:List A2) (s3:Slot),done++rest=ord->(∀u∈kept,u∈done)->kept.Nodup->Ag N t b kept rest=Ag N t b [] ord ->
   Be (Ad 3) (BA (AU (AS (GQ false) (AY Ln (AD (AL (AY F6 (AD (AL (AB 0)) (AD (Cs (A4 2)) AZ)))) (AD (AL (AB 1)) (AD (AL (AB 3)) AZ)))) (wC D.non))) (Lr 2 "list" Ei (AG (AB 3) AW)) Ar) { EE Pd with nx:=Aq (AY F6 (AD (AL (AB 0)) (AD (Cs (A4 2)) AZ))) (EE Pd) } (rest.map Aj) n [.sh (enc N),.sh (.tup [.int t,.int b]),.ow (.lst (kept.map Aj)),s3]:=by
  intro rest
  induction rest with
  | nil =>
   intro done kept s3 e h1 h2 h3;rw [dX] at e;subst e;have hin:∀u∈kept,u∈N.ts:=λu hu=>o1.mem_iff.mp (h1 u hu);have hkl:=sub_len h2 (BL ok.trise) hin;refine⟨N,_,kept,rfl,rfl,by omega,λts' p1 p2=>?_⟩;rw [P_ ok hin h2 p1 p2,show kept=Ag N t b [] done from h3];exact p done o1 o2
  | cons u rest ih =>
   intro done kept s3 e h1 h2 h3;have hin:∀v∈kept,v∈N.ts:=λv hv=>o1.mem_iff.mp (by rw [← e]; exact di _ (h1 v hv));have hkl:=sub_len h2 (BL ok.trise) hin;have hu:u∈N.ts:=o1.mem_iff.mp (by rw [← e]; exact dG _ On)
   have hud:u∉done:=by
    rw [← e,eJ] at ndo;exact λz=>ndo.2.2 u z u On rfl
   have e':(done++[u])++rest=ord:=by rw [dg]; exact e
   obtain⟨m1,m2,_⟩:=ok.tin u hu;refine⟨N,_,kept,rfl,rfl,by omega,λts' p1 p2=>?_⟩;rw [P_ ok hin h2 p1 p2];refine⟨sub N kept,u,t,b,rfl,B_ okn kept,m1,m2,b1,b2,t1,t2,λo hs hn=>⟨rfl,?_⟩⟩;rw [B6] at h3;cases o with
   | some w =>
    rw [(hs w rfl).2,if_pos rfl] at h3;exact ih (done++[u]) kept _ e' (λv hv=>di _ (h1 v hv)) h2 h3
   | none =>
    rw [hn rfl,if_neg (by decide)] at h3;refine⟨_,rfl,rfl,_,_,rfl,rfl,by rw [Go]; omega,?_⟩
    have:=ih (done++[u]) (kept++[u]) (.sh (Aj u)) e' (λv hv=>by
     rcases dN.mp hv with hv | hv
     ·exact di _ (h1 v hv)
     ·exact dG _ hv) (by
     rw [eJ];exact⟨h2,dP.mpr ⟨dB,d8⟩,λx hx y hy z=>hud (by rw [← TM.mp hy,← z]; exact h1 x hx)⟩) h3
    rw [dq] at this;exact this
 exact go ord [] [] _ rfl (λu h=>by cases h) d8 rfl
end
section
variable {ss:List Slot}{n:Nat}{Pd:D->Nat->Prop}
theorem Kl(h:D5 ss n Pd):Fp (EF Pd) n (ss++XV 8 .no):=by
 obtain⟨N,s,zz,us,rfl,hzz,hus,okn,hs,p⟩:=h;have szl:=PySem.sizeLine_eq;have ok:=okn.1;have l25:=okn.2.1;unfold Fp;refine⟨_,BO s,?_⟩
 have step:∀(D3:E2) (x y:Str) (l:Int),Ed N x y l->∀(ks:List Key) (ds:List D) (K:Kn) (g:Bool) (s4 s5 s7 s8 s9:Slot),Dmap ks ds D.int K->Bf N s ks.length K ->
   (∀(ks':List Key) (ds':List D) (K':Kn) (g':Bool) (t7 t8 t9:Slot),Dmap ks' ds' D.int K'->Bf N s ks'.length K'->((g'=g/\K'=K/\KU K (x,y,l))\/(g'=true/\Tw N.ps K'<Tw N.ps K)) ->
    D3.nx n [.br zz,.sh (.str s),.ow (.dic ks' ds'),.sh (.bl g'),s4,s5,.sh (.int l),t7,t8,t9]) ->
   (BA (AU (AS (Jk false) (AB 7) (A4 2))) (Ac (A0 9 (AS A7 (AS CH (A4 2) (AB 7)) (AB 6)))
 (BA (AU (AS Dw (AB 9) (OU (A4 2) (AB 8) (AS A7 (AB 9) (wC (D.int 1)))))) (Ac (HE 2 (AB 8) (AB 9))
 (A0 3 (wC (D.bl true)))) Ar)) Ar) D3 n [.br zz,.sh (.str s),.ow (.dic ks ds),.sh (.bl g),s4,s5,.sh (.int l),.sh (.str x),.sh (.str y),s9]:=by
  intro D3 x y l he ks ds K g s4 s5 s7 s8 s9 M B hD;have kl:=M.le B.ins;refine⟨ks,ds,_,rfl,BO x,?_⟩;show if ((BN ks ds (.inr x)).isSome)=true then _ else _
  cases ex:K x with
  | none =>
   rw [M.at_,ex];exact BV (hD ks ds K g _ _ _ M B (.inl ⟨rfl,rfl,λd e=>by rw [show K x=some d from e] at ex; cases ex⟩))
  | some d =>
   rw [M.at_,ex];refine B3 ⟨ks,ds,_,_,rfl,BO x,by rw [M.at_,ex]; rfl,?_⟩;refine⟨ks,ds,rfl,_,BO y,?_⟩
   have put:(K y=none\/∃d',K y=some d'/\d+l<d')->(Ac (HE 2 (AB 8) (AB 9)) (A0 3 (wC (D.bl true)))) D3 n [.br zz,.sh (.str s),.ow (.dic ks ds),.sh (.bl g),s4,s5,.sh (.int l),.sh (.str x),.sh (.str y),.sh (.int (d+l))]:=λhy=>by
    refine⟨ks,ds,rfl,_,BO y,by omega,?_⟩;have hlen:=Kq ks (.inr y)
    have key:=B.put ok (c':=(DL ks (.inr y)).length) (by rw [hlen]; split <;> omega) (by rw [hlen]; split <;> omega) ex he (λe=>by rw [hlen,if_neg (by rw [(M.has (x:=y)).1 e]; decide)]) (λd' e=>by
     rcases hy with hy | ⟨d2,hy,hlt⟩
     ·rw [e] at hy; cases hy
     ·rw [e] at hy; cases hy; exact hlt)
    exact hD _ _ _ true _ _ _ (M.put y (d+l)) key.1 (.inr ⟨rfl,key.2⟩)
   rw [M.at_];cases ey:K y with
   | none =>
    show if decide (d+l<d+l+1)=true then _ else _
    rw [decide_eq_true (by omega)];exact B3 (put (.inl ey))
   | some d' =>
    show if decide (d+l<d')=true then _ else _
    by_cases c:d+l<d'
    ·rw [decide_eq_true c]
     exact B3 (put (.inr ⟨d',ey,c⟩))
    ·rw [decide_eq_false c]
     refine BV (hD ks ds K g _ _ _ M B (.inl ⟨rfl,rfl,λd2 e=>?_⟩));rw [show K x=some d2 from e] at ex;cases ex;exact⟨d',ey,by show d'<=d+l; omega⟩
 refine IL (λm n' ρ=>n'=n/\∃(ks:List Key) (ds:List D) (K:Kn) (g:Bool) (s4 s5 s6 s7 s8 s9:Slot),ρ=[.br zz,.sh (.str s),.ow (.dic ks ds),.sh (.bl g),s4,s5,s6,s7,s8,s9]/\Dmap ks ds D.int K/\Bf N s ks.length K/\((g=true/\m=Tw N.ps K+1)\/(g=false/\m=0/\∀t∈N.ts,KU K (t.a,t.b,t.len)/\KU K (t.b,t.a,t.len)))) _ ⟨rfl,_,_,_,true,_,_,_,_,_,_,rfl,Dmap.one (enc:=D.int) (a:=(0:Int)),Bf.init hs,.inl ⟨rfl,rfl⟩⟩ ?_ ?_
 ·rintro m n' ρ N' ⟨rfl,ks,ds,K,g,s4,s5,s6,s7,s8,s9,rfl,M,B,hg⟩ hN
  rcases hg with ⟨rfl,hm⟩ | ⟨rfl,_,ht⟩
  ·have outer:∀(rest done:List A2) (ks:List Key) (ds:List D) (K':Kn) (g:Bool) (s4 s5 s6 s7 s8 s9:Slot),done++rest=us->Dmap ks ds D.int K'->Bf N s ks.length K'->((g=true/\Tw N.ps K'<Tw N.ps K)\/(g=false/\Tw N.ps K'<=Tw N.ps K/\∀t∈done,KU K' (t.a,t.b,t.len)/\KU K' (t.b,t.a,t.len))) ->
     Be (DJ 3 (Ao (Ad 4) (Ao (Ad 5) (Ao (Ad 6) Bu)))) (Ez (BF (FO (AG (Bg (AG (AB 4) (AG (AB 5) AW))) (AG (Bg (AG (AB 5) (AG (AB 4) AW))) AW)))) (DJ 2 (Ao (Ad 7) (Ao (Ad 8) Bu))) (BA (AU (AS (Jk false) (AB 7) (A4 2))) (Ac (A0 9 (AS A7 (AS CH (A4 2) (AB 7)) (AB 6)))
 (BA (AU (AS Dw (AB 9) (OU (A4 2) (AB 8) (AS A7 (AB 9) (wC (D.int 1)))))) (Ac (HE 2 (AB 8) (AB 9))
 (A0 3 (wC (D.bl true)))) Ar)) Ar)) { EF Pd with nx:=N',ct:=N',bk:=OT 2 (EF Pd) } (rest.map Aj) n' [.br zz,.sh (.str s),.ow (.dic ks ds),.sh (.bl g),s4,s5,s6,s7,s8,s9]:=by
    intro rest
    induction rest with
    | nil =>
     intro done ks ds K' g s4 s5 s6 s7 s8 s9 e M B hg;rw [dX] at e;subst e
     rcases hg with ⟨rfl,hlt⟩ | ⟨rfl,_,ht⟩
     ·exact hN (Tw N.ps K'+1) _ _ (by omega) ⟨rfl,ks,ds,K',true,_,_,_,_,_,_,rfl,M,B,.inl ⟨rfl,rfl⟩⟩
     ·exact hN 0 _ _ (by omega) ⟨rfl,ks,ds,K',false,_,_,_,_,_,_,rfl,M,B,.inr ⟨rfl,rfl,λt h=>ht t ((hus t).mpr h)⟩⟩
    | cons t rest ih =>
     intro done ks ds K' g s4 s5 s6 s7 s8 s9 e M B hg;have hmem:t∈N.ts:=(hus t).mp (by rw [← e]; exact dG _ On);have e':(done++[t])++rest=us:=by rw [dg]; exact e
     have ed:=Jy hmem;refine⟨rfl,rfl,z2,z2,z2,?_⟩;refine⟨rfl,rfl,?_⟩;refine step _ t.a t.b t.len ed.1 ks ds K' g _ _ s7 s8 s9 M B λks1 ds1 K1 g1 t7 t8 t9 M1 B1 h1=>?_;refine⟨rfl,rfl,?_⟩;refine step _ t.b t.a t.len ed.2 ks1 ds1 K1 g1 _ _ t7 t8 t9 M1 B1 λks2 ds2 K2 g2 u7 u8 u9 M2 B2 h2=>?_;refine ih (done++[t]) ks2 ds2 K2 g2 _ _ _ _ _ _ e' M2 B2 ?_
     rcases h1 with ⟨rfl,rfl,t1⟩ | ⟨rfl,lt1⟩
     ·rcases h2 with ⟨rfl,rfl,t2⟩ | ⟨rfl,lt2⟩
      ·rcases hg with z | ⟨z1,z2,z3⟩
       ·exact .inl z
       ·refine .inr ⟨z1,z2,λu hu=>?_⟩
        rcases dN.mp hu with hu | hu
        ·exact z3 u hu
        ·rw [TM.mp hu]; exact⟨t1,t2⟩
      ·refine .inl ⟨rfl,?_⟩
       rcases hg with ⟨_,z⟩ | ⟨_,z,_⟩ <;> omega
     ·have base:Tw N.ps K1<Tw N.ps K:=by rcases hg with ⟨_,z⟩ | ⟨_,z,_⟩ <;> omega
      rcases h2 with ⟨rfl,rfl,t2⟩ | ⟨rfl,lt2⟩
      ·exact .inl ⟨rfl,base⟩
      ·exact .inl ⟨rfl,by omega⟩
   exact⟨zz,_,rfl,hzz,outer us [] ks ds K false _ _ _ _ _ _ rfl M B (.inr ⟨rfl,Sc _,λt h=>by cases h⟩)⟩
  ·exact⟨_,rfl,p ks ds K M (B.told ok (by have:=M.le B.ins; omega) ht)⟩
 ·rintro n' ρ P Q hPQ h
  unfold AU AB at h ⊢
  split at h
  ·rename_i d hd
   cases d with
   | bl b=>exact hPQ _ _ h
   | _=>exact h.elim
  ·exact h.elim
theorem Ic(h:DA ss n Pd):Eo (EE Pd) n (ss++XV 3 .no):=by
 obtain⟨N,t,b,rfl,okn,b1,b2,t1,t2,p⟩:=h;have ok:=okn.1;have l60:=okn.2.2;have szl:=PySem.sizeLine_eq;unfold Eo;refine⟨z0,_,AH (j:=1) rfl,_,N.ts,rfl,rfl,by omega,λord o1 o2=>?_⟩;have ndo:ord.Nodup:=o1.nodup_iff.mpr (BL ok.trise)
 have go:∀(rest done kept:List A2) (s3 s4:Slot),done++rest=ord->(∀u∈kept,u∈done)->kept.Nodup->Ag N t b kept rest=Ag N t b [] ord ->
   Be (Ad 3) (Ac (A0 4 (Q1 (AY D5 (AD (Cs (A4 2)) (AD (AL (AS Ax (AB 3) (wC (D.int 0)))) AZ))) (AS Ax (AB 3) (wC (D.int 1)))))
 (BA (Cp (AU (AS (GQ false) (AB 4) (wC D.non))) (AU (AS (f2 λi j=>D.bl (decide (j<i))) (AS B7 (AB 4) (AS Ax (AB 1) (wC (D.int 1)))) (AS B7 (AS Ax (AB 3) (wC (D.int 2))) (AS Ax (AB 1) (wC (D.int 0))))))) (Lr 2 "list" Ei (AG (AB 3) AW)) Ar)) { EE Pd with nx:=Aq (Bg (AG (AS Ax (AB 0) (wC (D.int 0))) (AG (CF CB (AG (CF G5 (AG (A4 2) AW)) AW)) AW))) (EE Pd) } (rest.map Aj) n [.sh (enc N),.sh (.tup [.int t,.int b]),.ow (.lst (kept.map Aj)),s3,s4]:=by
  intro rest
  induction rest with
  | nil =>
   intro done kept s3 s4 e h1 h2 h3;rw [dX] at e;subst e;have hin:∀u∈kept,u∈N.ts:=λu hu=>o1.mem_iff.mp (h1 u hu);have hkl:=sub_len h2 (BL ok.trise) hin;refine⟨_,AH (j:=0) rfl,_,_,rfl,rfl,by rw [Go]; omega,⟨λx hx=>?_,λx hx y hy ka kb ea eb=>?_⟩,λxs' hp ho=>?_⟩
   ·obtain⟨t,_,rfl⟩:=Re.mp hx
    exact⟨EK t,rfl,fb _ _⟩
   ·obtain⟨t,_,rfl⟩:=Re.mp hx
    obtain⟨u,_,rfl⟩:=Re.mp hy;cases (show some (EK t)=some ka from ea);cases (show some (EK u)=some kb from eb);rfl
   ·obtain⟨ts',p1,rfl⟩:=Q4 (g:=ZH) (λ_=>rfl) hp
    refine⟨z2,?_⟩;have es:=P_ ok hin h2 p1 (RL ho)
    have:Pd (enc (sub N kept)) n:=by rw [show kept=Ag N t b [] done from h3]; exact p done o1 o2
    rw [← es] at this;exact this
  | cons u rest ih =>
   intro done kept s3 s4 e h1 h2 h3;have hin:∀v∈kept,v∈N.ts:=λv hv=>o1.mem_iff.mp (by rw [← e]; exact di _ (h1 v hv));have hkl:=sub_len h2 (BL ok.trise) hin;have hu:u∈N.ts:=o1.mem_iff.mp (by rw [← e]; exact dG _ On)
   have hud:u∉done:=by
    rw [← e,eJ] at ndo;exact λz=>ndo.2.2 u z u On rfl
   have e':(done++[u])++rest=ord:=by rw [dg]; exact e
   obtain⟨m1,m2,_⟩:=ok.tin u hu;rw [B6] at h3;have keep:CC (sub N kept) t b u=false->∀s4',(Lr 2 "list" Ei (AG (AB 3) AW)) { nx:=Be (Ad 3) (Ac (A0 4 (Q1 (AY D5 (AD (Cs (A4 2)) (AD (AL (AS Ax (AB 3) (wC (D.int 0)))) AZ))) (AS Ax (AB 3) (wC (D.int 1)))))
 (BA (Cp (AU (AS (GQ false) (AB 4) (wC D.non))) (AU (AS (f2 λi j=>D.bl (decide (j<i))) (AS B7 (AB 4) (AS Ax (AB 1) (wC (D.int 1)))) (AS B7 (AS Ax (AB 3) (wC (D.int 2))) (AS Ax (AB 1) (wC (D.int 0))))))) (Lr 2 "list" Ei (AG (AB 3) AW)) Ar)) { EE Pd with nx:=Aq (Bg (AG (AS Ax (AB 0) (wC (D.int 0))) (AG (CF CB (AG (CF G5 (AG (A4 2) AW)) AW)) AW))) (EE Pd) } (rest.map Aj),rt:=Pd } n [.sh (enc N),.sh (.tup [.int t,.int b]),.ow (.lst (kept.map Aj)),.sh (Aj u),s4']:=λc s4'=>by
    rw [c,if_neg (by decide)] at h3;refine⟨_,rfl,rfl,_,_,rfl,rfl,by rw [Go]; omega,?_⟩
    have:=ih (done++[u]) (kept++[u]) (.sh (Aj u)) s4' e' (λv hv=>by
     rcases dN.mp hv with hv | hv
     ·exact di _ (h1 v hv)
     ·exact dG _ hv) (by
     rw [eJ];exact⟨h2,dP.mpr ⟨dB,d8⟩,λx hx y hy z=>hud (by rw [← TM.mp hy,← z]; exact h1 x hx)⟩) h3
    rw [dq] at this;exact this
   refine⟨_,AH (j:=0) rfl,sub N kept,u.a,_,kept,rfl,rfl,λv=>⟨λhv=>sub_mem.mpr ⟨hin v hv,hv⟩,λhv=>(sub_mem.mp hv).2⟩,B_ okn kept,m1,λks ds K M T=>?_⟩;refine⟨ks,ds,rfl,_,AH (j:=1) rfl,_,BO u.b,?_⟩;rw [Wl M];have hf:=T.far u.b;cases ek:K u.b with
   | none =>
    rw [ek] at hf;refine⟨rfl,?_⟩
    exact keep (by
     rw [fX];intro z;obtain⟨d,hd,_⟩:=nearB_iff.mp z;exact hf d hd.1) _
   | some d =>
    rw [ek] at hf
    have en:CC (sub N kept) t b u=decide (d*b<=u.len*t):=by
     rw [eG,nearB_iff,decide_eq_true_eq];constructor
     ·rintro ⟨d',hd',h2⟩
      rw [Least.unique (show Least (sub N kept) u.a u.b d from hf) hd'];exact h2
     ·intro h2
      exact⟨d,hf,h2⟩
    refine⟨rfl,?_⟩;refine⟨_,AH (j:=1) rfl,.inr ⟨by omega,by omega⟩,_,AH (j:=2) rfl,_,AH (j:=0) rfl,.inr ⟨by omega,by omega⟩,?_⟩;show if decide (u.len*t<d*b)=true then _ else _
    by_cases c:u.len*t<d*b
    ·rw [decide_eq_true c]
     exact B3 (keep (by rw [en]; exact decide_eq_false (by omega)) _)
    ·rw [decide_eq_false c]
     rw [en,decide_eq_true (by omega),if_pos rfl] at h3;exact BV (ih (done++[u]) kept _ _ e' (λv hv=>di _ (h1 v hv)) h2 h3)
 exact go ord [] [] _ _ rfl (λu h=>by cases h) d8 rfl
end
end Nt
namespace L2
open AutoSeq1 (wpAny_loadPart')
theorem boot_enumerate:bootBuiltins "enumerate"=some (.type "enumerate"):=by decide +kernel
section
variable {prog:Program}{w:World}{A:Around}{E:Value->Shared->Prop}{s:Shared}
theorem Te{κ:Bool}(hh:A.handled=none)(it l:Ch)(hne:l≠it)(items:Array Ev):Draws prog w A it [it,l] items.size (λi v=>items[i]?=some v) (λi h=>ItAt κ h it l i/\SqAt κ h l items) where
 live:=λ_ _ st=>let ⟨o,ho,_⟩:=st.1.lies; ⟨o,ho⟩
 frame:=λ_ _ _ st k=>⟨st.1.mv λo e=>k it (by simp) o e,st.2.mv λo e=>k l (by simp) o e⟩
 item:=λi s Q E hi st hQ=>GG st.1 st.2 (x:=items[i]) (by simp [hi]) λh' a b=>hQ _ h' s.toks (by simp [hi]) ⟨a,st.2.eb b.extBut hne⟩ b
 done:=λs Q E st hE=>Hj hh st.1 st.2 (by simp) hE
theorem Qi{κ:Bool}(hh:A.handled=none)(it l:Ch)(items:Array Ev)(k:Nat)(hk:items[k]?=none):Draws prog w A it [it,l] k (λ_ _=>True) (λi h=>ItAt κ h it l i/\SqAt κ h l items/\i=k) where
 live:=λ_ _ st=>let ⟨o,ho,_⟩:=st.1.lies; ⟨o,ho⟩
 frame:=λ_ _ _ st k=>⟨st.1.mv λo e=>k it (by simp) o e,st.2.1.mv λo e=>k l (by simp) o e,st.2.2⟩
 item:=λi s Q E hi st hQ=>absurd st.2.2 (dJ hi)
 done:=λs Q E st hE=>Hj hh st.1 st.2.1 hk hE
theorem U4(κ:Bool)(l:Ch)(items:Array Ev):Meets (fq.«enumerate.__new__» ⟨[.type "enumerate",.ref l],[]⟩) (λ_ R s=>SqAt κ s.heap l items /\
   R (.ok (.ret (.ref (s.heap.push (JA κ l)).objs.size))) { s with heap:=(s.heap.push (JA κ l)).push { cls:=.type "enumerate",data:=.fields #[.none,.bool false,.ref s.heap.objs.size,rawInt 0,.none,.none] } }) :=
 .of_wp λprog w A R s h=>by
  obtain⟨hp,g,d,tk,os⟩:=s; obtain⟨hl,h⟩:=h
  have hsub:=sub_enumerate;cases κ with
  | true =>
   have hL:jw (gY ⟨hp,g,d,tk,os⟩) l items:=hl;obtain⟨⟨c,dct,dt,sl⟩,ho,hc,n,hd⟩:=id hL;replace hc:c=.type "list":=hc;replace hd:dt=.seq items n:=hd;subst hc hd
   wp_walk using eX ho
   refine wpAny_stack_any λst=>TW ?_
   split
   ·rename_i c _ _ _ _ _
    cases (c==hZ "enumerate") <;> (wp_walk using eX ho,e9 hL; exact⟨_,rfl,h⟩)
   ·(wp_walk using eX ho,e9 hL; exact⟨_,rfl,h⟩)
  | false =>
   have hL:je (gY ⟨hp,g,d,tk,os⟩) l items:=hl;obtain⟨⟨c,dct,dt,sl⟩,ho,hc,n,hd⟩:=id hL;replace hc:c=.type "tuple":=hc;replace hd:dt=.seq items n:=hd;subst hc hd
   wp_walk using eX ho
   refine wpAny_stack_any λst=>TW ?_
   split
   ·rename_i c _ _ _ _ _
    cases (c==hZ "enumerate") <;> (wp_walk using eX ho,fK hL; exact⟨_,rfl,h⟩)
   ·(wp_walk using eX ho,fK hL; exact⟨_,rfl,h⟩)
theorem MG{κ:Bool}{l:Ch}{items:Array Ev}{Q:Ev->Op->Prop}(hl:SqAt κ s.heap l items)
  (h:∀h',IsEnum h' (s.heap.objs.size+1) s.heap.objs.size 0 .none->ItAt κ h' s.heap.objs.size l 0->(∀b o,s.heap.get? b=some o->h'.get? b=some o)->Q (.ref (s.heap.objs.size+1)) { s with heap:=h' }) :
  wpAny (model prog w) A (call (.type "enumerate") [.ref l]) Q E s:=by
 refine callType_new F.called_enumerate (by decide) (F.typeCall_enumerate_1 _) (F.newCall_enumerate_1 _) (λobj=>F.args_object_init_2 obj _) F.entry_enumerate_new (U4 κ l items) ⟨hl,?_⟩;have hz:(s.heap.push (JA κ l)).objs.size=s.heap.objs.size+1:=fh ..;have g1:((s.heap.push (JA κ l)).push { cls:=.type "enumerate",data:=.fields #[.none,.bool false,.ref s.heap.objs.size,rawInt 0,.none,.none] }).get? (s.heap.push (JA κ l)).objs.size=some _:=c7 _ rfl;rw [hz] at g1;refine⟨⟨_,by rw [hz]; exact g1,rfl⟩,?_⟩;rw [hz];exact h _ g1 ((K9 κ s.heap l).mv λo e=>No _ e) λb o e=>No _ (No _ e)
end
def Zm(K:Frag)(κ:Bool)(a:Ch)(xs:List V):It :=
 ⟨λi H=>SqK κ K H a xs/\i<xs.length,λi H x H'=>∃T p,x=.ref T/\H T=none/\H'=BK H T (.tup [.int i,p])/\xs[i]?=some p,λi H=>SqK κ K H a xs/\xs.length<=i⟩
structure Zf (κ:Bool) (e it a:Ch) (k:Nat) (h:dL):Prop where
 e:∃old,IsEnum h e it (k:Int) old
 i:ItAt κ h it a k
theorem SK{P:dZ}{w:dh}{K:Frag}{es:List dO}{j:Nat}{pos:Pos}(κ:Bool)(e it a:Ch)(xs:List V)(ei:e≠it)(ae:a≠e)(ai:a≠it) :
  Turn P w K (.Tuple es j pos) (Zm K κ a xs) [e,it] e (Zf κ e it a) where
 mem:=by simp
 obj:=λi h st c hc=>by
  simp only [T0,dB,or_false] at hc
  rcases hc with rfl | rfl
  ·obtain⟨o,q⟩:=st.e
   exact⟨_,q,λv q=>by cases q⟩
  ·exact st.i.lies
 keep:=λi h h' st k=>by
  obtain⟨o,q⟩:=st.e;exact⟨⟨o,k e (by simp) _ q⟩,st.i.mv λo e=>k it (by simp) o e⟩
 item:=by
  intro X hP hw hK hc i zG s Z H E I hf st hg;subst hP hw hK;obtain⟨ha,hi⟩:=hg;obtain⟨us,r1,q1⟩:=ha.at I;obtain⟨u,hu,ru⟩:=r1.get (FM hi);obtain⟨old,ee⟩:=st.e;have l1:=r1.length;refine wpAny_pyNext_enum_itemD (Te (κ:=κ) (A:=X.A.in1) (I.ok.hd hc) it a ai us.toArray) ee ⟨st.i,q1⟩ (by simp; omega) ei (by simp [ei,ae.symm]) λx h' tk hp a1 a2 a3 a4 a5=>⟨_,rfl,?_⟩
  have hxu:x=u:=by
   have e2:us[i]?=some x:=by simpa using hp
   rw [hu] at e2;exact(c_ e2).symm
  subst hxu;refine wpAny_letOwnedTupleGo_enum a1 λh2 b1 b2=>?_;have hT:H s.heap.objs.size=none:=I.hok.fresh (Sc _)
  have kk:∀c o,c∉[e,it]->s.heap.get? c=some o->h2.get? c=some o:=λc o hc z=>by
   simp only [T0,dB,or_false,not_or] at hc;exact b2.extBut _ _ hc.1 (a5 c o hc.1 hc.2 z)
  have I2:Inv X zG Z (BK H s.heap.objs.size (.tup [.int i,xs[i]])) { s with heap:=h2,toks:=tk+1 }:=by
   refine I.turnLaid (t':=tk+1) (ch:=[e,it]) hf kk (Sc _) ?_;have nT:s.heap.objs.size≠e:=g9 (ZB ee);exact⟨by show 2<=sizeLine; decide,[.int i tk,x],.cons ⟨_,rfl⟩ (.cons ru .nil),⟨_,b2.extBut _ _ nT a3,rfl,_,rfl,rfl,rfl⟩⟩
  refine⟨.ref s.heap.objs.size,_,I2,rfl,⟨_,_,rfl,hT,rfl,FM hi⟩,⟨⟨_,b1⟩,a2.1.eb b2.extBut ei.symm⟩,λc hc=>?_⟩;have hcn:H c=none:=(hf c hc).1
  have hlt:c≠s.heap.objs.size:=λz=>by
   obtain⟨o,ho⟩:∃o,s.heap.get? c=some o:=by
    simp only [T0,dB,or_false] at hc
    rcases hc with rfl | rfl
    ·exact⟨_,ee⟩
    ·obtain⟨o,q,_⟩:=st.i.lies; exact⟨o,q⟩
   rw [z] at ho;exact d9 _ (ZB ho)
  rw [Aa hlt]; exact hcn
 done:=by
  intro X hP hw hK hc i zG s Z H E I hf st hg;subst hP hw hK;obtain⟨ha,hi⟩:=hg;obtain⟨us,r1,q1⟩:=ha.at I;obtain⟨old,ee⟩:=st.e;have l1:=r1.length;refine wpAny_pyNext_enum_endD (Qi (κ:=κ) (A:=X.A.in1) (I.ok.hd hc) it a us.toArray i (by simp; omega)) ee ⟨st.i,q1,rfl⟩ λh' kk=>⟨rfl,?_⟩;refine I.turnedL (t':=s.toks) (ch:=[e,it]) hf λc o hc e=>?_;simp only [T0,dB,or_false,not_or] at hc;exact kk c o hc.2 e
 self:=λA i s Q E st h=>by
  obtain⟨old,ee⟩:=st.e;exact wpAny_pyIter_enum ee h
section
variable {X:Cx}{e1:Expr}{es:List Expr}{j:Nat}{tpos p pos:Pos}{te:TE}
def aU(K:Frag)(te:TE):TI:=λZ H R=>te Z H λv H1=>∃κ a xs,v=.ref a/\SqK κ K H1 a xs/\R (Zm K κ a xs) H1
theorem WO(hg:Gl X "enumerate")(hm:X.mg "enumerate"=none)(he:PE X e1 te)(hs:starEach [e1] X.env=[(false,eval e1 X.env)]:=by rfl) :
  PI X (.Tuple es j tpos) (.Call (.Name "enumerate" p) [e1] [] pos) (aU X.K te):=by
 intro zG s Z H R I h;refine fe (EV I hg hm boot_enumerate ?_);refine eg ?_ hs rfl;rw [hs];refine fc (thn (he zG s Z H _ I h) λu s1 ⟨x,H1,I1,r1,κ,a,xs,ex,hq,q⟩=>gD ?_);subst ex;cases r1;obtain⟨us,r1',q1⟩:=hq.at I1;have la:a<s1.heap.objs.size:=by obtain⟨o,e⟩:=q1.lies; exact ZB e
 refine MG q1 λh' hz hi hk=>?_;refine wpAny_pyIter_enum hz ?_;refine⟨s1.heap.objs.size+1,[s1.heap.objs.size+1,s1.heap.objs.size],_,Zm X.K κ a xs,H1,rfl,I1.kept (t':=s1.toks) hk,SK κ _ _ a xs (by show (_:Nat)≠(_:Nat); omega) (dJ (fV la)) (dJ la),⟨⟨_,hz⟩,hi⟩,λc hc=>?_,q⟩
 have hge:s1.heap.objs.size<=c:=by
  simp only [T0,dB,or_false] at hc
  rcases hc with rfl | rfl
  ·exact fO _
  ·exact Sc _
 exact I1.fpOk hge (I1.hok.fresh hge)
end
end L2
namespace Dp
open L2
def EB:Nat->List D->List D
 | _,[]=>[]
 | k,x::r=>.tup [.int (k:Int),x]::EB (k+1) r
theorem Mb:∀(k:Nat) (ds:List D),(EB k ds).length=ds.length
 | _,[]=>rfl
 | k,x::r=>by show (EB (k+1) r).length+1=r.length+1; rw [Mb (k+1) r]
theorem Mc:∀(k:Nat) (ds:List D) (i:Nat),(EB k ds)[i]?=(ds[i]?).map λx=>.tup [.int ((k+i:Nat):Int),x]
 | _,[],i=>by simp [EB]
 | k,x::r,0=>rfl
 | k,x::r,i+1=>by
  show (EB (k+1) r)[i]?=(r[i]?).map _;rw [Mc (k+1) r i,show k+1+i=k+(i+1) by omega]
section
variable {K:Frag}
theorem Pe{M:Ch->Prop}{H:Hp}{κ:Bool}{a:Ch}{vs:List V}{ds:List D}(hs:Ats K M H ds vs){i:Nat}{M':Ch->Prop}{H':Hp}(pr:Pres M H M' H')(h1:SqK κ K H' a vs)(dom:∀a,M' a->∃o,H' a=some o) :
  (∀d,(EB 0 ds)[i]?=some d->(Zm K κ a vs).go i H'/\∀x H2,(Zm K κ a vs).yld i H' x H2->Grow H' H2/\At K M' H2 d x)/\((EB 0 ds).length<=i->(Zm K κ a vs).stop i H'):=by
 have l1:=hs.length;refine⟨λd hd=>?_,λhl=>⟨h1,by rw [Mb] at hl; omega⟩⟩;rw [Mc,Nat.zero_add] at hd;cases q1:ds[i]? with
 | none=>rw [q1] at hd; cases hd
 | some d1 =>
  rw [q1] at hd;have hd':D.tup [.int (i:Int),d1]=d:=c_ hd;have i1:i<ds.length:=(c8.mp q1).1;refine⟨⟨h1,by omega⟩,λx H2 y=>?_⟩;obtain⟨T,p,rfl,hT,rfl,e1⟩:=y;obtain⟨v1,f1,a1⟩:=(hs.pres pr).get q1;rw [e1] at f1;cases f1;subst hd';exact⟨BH hT,Du dom hT ⟨.int (i:Int),[p],rfl,rfl,p,[],rfl,a1,rfl⟩⟩
end
section
variable {X:Cx}{e1:Expr}{es:List Expr}{j:Nat}{tpos p pos:Pos}{κ:Kd}{wa:DW}
def Q2(wa:DW):Ex:=λn ρ P=>wa n ρ λd n1=>∃xs,IU d=some xs/\P (EB 0 xs) n1
theorem N7(hg:Gl X "enumerate")(hm:X.mg "enumerate"=none)(h:DE X e1 κ wa)(hk:κ≠.tp:=by intro z; cases z)(hs:starEach [e1] X.env=[(false,eval e1 X.env)]:=by rfl) :
  DI X (.Tuple es j tpos) (.Call (.Name "enumerate" p) [e1] [] pos) (Q2 wa):=by
 obtain⟨t,a1,a2⟩:=h;refine⟨_,WO hg hm a1 hs,λC M H n ρ Z P Rr R w q=>?_⟩;refine a2 C M H n ρ Z _ _ R w λv H1 d n1 ee f1 r1 p=>?_;obtain⟨xs,hd,p⟩:=p;obtain⟨zX,a,us,rfl,h1,s1⟩:=QB (r1.shOf R.dom hk) hd;exact⟨zX,a,us,rfl,s1 M H1 (Pres.refl _ _),q _ H1 _ n1 ee f1 (λi M' H' pr dom=>Pe h1 pr (s1 M' H' pr) dom) p⟩
end
def M8:Ai:=λ_ _ _=>False
section
variable {X:Cx}{κ:Kd}{st:Stmt}
theorem LL:DS X κ st M8:=⟨λ_ _ _=>False,λ_ _ _ _ _ _ h=>h.elim,λ_ _ _ _ _ _ _ _ _ _ w=>w⟩
end
end Dp
namespace Nt
open L2 Dp
def thn(N:Net)(ts:List A2):Prop:=(∀t∈ts,t∈N.ts)/\ts.Pairwise Bp
abbrev Lq(w:List Str):D:=.tup (w.map .str)
def SM(t b:Int):Prop:=1<=b/\b<=1000000/\1<=t/\t<=1000000
def walkedK(k:Nat)(M:Net)(a b:Str)(w:List Str)(d:Int):Prop:=(∃r,w=a::r)/\w.getLast?=some b/\walk M w d/\w.length<=k/\∀x∈w,x∈M.ps
abbrev walked:=walkedK 1000
def SA:W2:=λss n P=>∃(M:Net) (a b:Str) (w:List Str) (d:Int),ss=[.sh (enc M),.sh (.str a),.sh (.str b),.sh (Lq w)]/\okN M/\walked M a b w d/\P (.int d) n
def J8:W2:=λss n P=>∃(M:Net) (t b:Int) (u:A2) (w:List Str) (d:Int),ss=[.sh (enc M),.sh (.tup [.int t,.int b]),.sh (Aj u),.sh (Lq w)]/\okN M/\SM t b/\walked M u.a u.b w d/\d*b<=u.len*t/\P .non n
def Dz:Ai:=(Ac (A0 4 (AY Vw (AD (AL (AB 0)) (AD (AL (AB 3)) AZ))))
 (Ac (BA (Cp (AU (AS (GQ false) (AB 4) (wC D.non))) (Cp (AU (AS (G6 true) (AS Ax (AB 3) (wC (D.int 0))) (AB 1))) (AU (AS (G6 true) (AS Ax (AB 3) (X5 (wC (D.int 1)))) (AB 2))))) (Aq (wC D.non)) Ar)
 (Aq (AB 4))))
def GZ:Ai:=(Ac (A0 4 (AY SA (AD (AL (AB 0)) (AD (AL (AS Ax (AB 2) (wC (D.int 0)))) (AD (AL (AS Ax (AB 2) (wC (D.int 1)))) (AD (AL (AB 3)) AZ))))))
 (Ac (BA (AU (AS (GQ false) (AB 4) (wC D.non))) (Aq (wC (D.str "way"))) Ar)
 (Aq (V1 (AU (AY GI (AD (AL (AB 4)) (AD (AL (AB 1)) (AD (AL (AS Ax (AB 2) (wC (D.int 2)))) AZ))))) (wC D.non) (wC (D.str "far"))))))
def Et:Ai:=(Ac (BA (Cp (Bh (AU (AY R8 (AD (AL (AB 1)) AZ)))) (AU (AS (G6 true) (CF JC (AG (AS Ax (AB 1) (wC (D.int 0))) AW)) (CF JC (AG (AS Ax (AB 0) (wC (D.int 0))) AW))))) (Aq (wC (D.bl false))) Ar)
 (Ac (A0 2 (BU [none] (BF (AS Ax (AB 0) (wC (D.int 1)))) (Ad 0) Bm (CF JC (AG (AB 0) AW))))
 (Aq (AS (DF true) (wC (D.bl false)) (BU [some 2,none] (BF (AS Ax (AB 1) (wC (D.int 1)))) (Ad 1) Bm (AS (DF false) (CF JC (AG (AB 1) AW)) (AB 0)))))))
theorem SH{N:Net}(ok:N.Ok){w:List Str}(hl:w.length<=1000)(h:∀x∈w,x∈N.ps):Y8 (.tup (w.map .str)):=by
 obtain⟨a,b,c⟩:=IK ok h;exact⟨a,by show Lp (w.map .str)<=60000; omega,by show Hk (w.map .str)+1<=50; omega⟩
theorem thn.thinB{N:Net}{ts:List A2}(h:thn N ts):thinB N (enc ⟨N.ps,ts⟩)=true:=thinB_iff.mpr ⟨ts,rfl,h.1,h.2⟩
theorem Qe{M:Net}(okm:okN M){a b:Str}{w:List Str}{d:Int}(h:walked M a b w d):Yp M (Lq w)=.int d:=by
 obtain⟨⟨r,rfl⟩,_,hw,_,hin⟩:=h;exact RP okm.1 (hin _ On) hw
section
variable {ss:List Slot}{n:Nat}{Pd:D->Nat->Prop}
theorem GP(h:SA ss n Pd):Dz (EE Pd) n (ss++XV 1 .no):=by
 obtain⟨M,a,b,w,d,rfl,okm,hw,p⟩:=h;have e:=Qe okm hw;obtain⟨⟨r,rfl⟩,hl,hwk,h30,hin⟩:=hw;unfold Dz;refine⟨M,Lq (a::r),rfl,okm.1,by have:=okm.2.1; omega,okm.2.2,SH okm.1 h30 hin,?_⟩;rw [e];refine⟨rfl,.str a,AH (j:=0) rfl,?_⟩;refine D6 (λc=>absurd c (by simp)) λ_=>?_;refine⟨1,rfl,.str b,RT hl,?_⟩;refine D6 (λc=>absurd c (by simp)) λ_=>?_;exact p
theorem Kk(h:J8 ss n Pd):GZ (EE Pd) n (ss++XV 1 .no):=by
 obtain⟨M,t,b,u,w,d,rfl,okm,⟨b1,b2,t1,t2⟩,hw,hle,p⟩:=h;unfold GZ;refine⟨_,AH (j:=0) rfl,_,AH (j:=1) rfl,M,u.a,u.b,w,d,rfl,okm,hw,⟨rfl,?_⟩⟩;refine⟨_,AH (j:=2) rfl,d,t,b,u.len,rfl,b1,b2,t1,t2,?_⟩;rw [decide_eq_true hle];exact p
theorem Ie(h:JQ ss n Pd):Et (EE Pd) n (ss++XV 1 .no):=by
 obtain⟨N,d,rfl,ok,l1,l2,hf,hs,hd,p⟩:=h;have szl:=PySem.sizeLine_eq;unfold Et;refine⟨[d],rfl,rfl,?_⟩;show if (!QY d)=true then _ else _
 cases c:QY d with
 | false =>
  have:thinB N d=false:=by
   rw [fX];intro z;rw [UH ok l1 l2 (thinB_iff.mp z)] at c;cases c
  rw [this] at p;exact B3 p
 | true =>
  obtain⟨ps,ts,rfl,hps,k1,k2,hts,hp⟩:=U5 c;rw [← UI ok hps hts hp] at p
  have ips:∀(qs:List Str),(∀q∈qs,EA q)->qs.length<=24->Kc (.tup (qs.map .str)):=λqs hq hl=>by
   have it:∀d∈qs.map D.str,item d:=λd hd=>by
    obtain⟨x,hx,rfl⟩:=Re.mp hd;exact Cb (hq x hx)
   have s1:=NC (k:=451) λd hd=>iN (it d hd).2.1;have d1:Hk (qs.map D.str)<=1:=dps_le.mpr λd hd=>(it d hd).2.2;rw [Go] at s1;exact HJ (B:=1000001) (by decide) (fines_iff.mpr λd hd=>(it d hd).1) (by show Hk (qs.map D.str)+1<=100; omega) (by show Lp (qs.map D.str)<=200000; omega)
  have its:∀t:A2,EA t.a/\EA t.b/\1<=t.len/\t.len<=1000000->Kc (Aj t):=λt ht=>by
   have it:=PV (Cb ht.1) (Cb ht.2.1) ht.1.2.1 ht.2.1.2.1 (l:=t.len) (by omega);exact HJ (B:=1000001) (by decide) it.1 (by have:=it.2.2; show Qk (Aj t)<=100; unfold Aj; omega) (by have:=it.2.1; show P9 (Aj t)<=200000; unfold Aj; omega)
  have nts:∀t∈N.ts,EA t.a/\EA t.b/\1<=t.len/\t.len<=1000000:=λt ht=>by
   obtain⟨m1,m2,_,m4,m5⟩:=ok.tin t ht;exact⟨ok.names _ m1,ok.names _ m2,m4,m5⟩
  refine BV ⟨_,AH (j:=0) rfl,_,rfl,ips ps hps k1,_,AH (j:=0) rfl,_,rfl,ips N.ps ok.names l1,?_⟩;show if (!(BB (.tup (ps.map .str))==BB (.tup (N.ps.map .str))))=true then _ else _
  cases e:BB (.tup (ps.map .str))==BB (.tup (N.ps.map .str)) with
  | false=>rw [e] at p; exact B3 p
  | true =>
   rw [e,fP] at p;refine BV ⟨_,AH (j:=1) rfl,by show (N.ts.map Aj).length<=10000000; rw [Go]; omega,?_⟩;refine Av (λd=>.str (BB d)) (λρ=>∃s,ρ=[s]) _ _ _ _ ?_ ⟨_,rfl⟩ ?_
   ·rintro d hd ρ m nx ⟨s,rfl⟩ hnx
    obtain⟨u,hu,rfl⟩:=Re.mp hd;exact⟨_,rfl,its u (nts u hu),hnx _ ⟨_,rfl⟩⟩
   rw [dE]
   have layL:Ci (.lst ((N.ts.map Aj).map λd=>.str (BB d))):=by
    refine CU (B:=0) (by decide) (fines_iff.mpr λd hd=>?_) ?_
    ·obtain⟨e,he,rfl⟩:=Re.mp hd
     obtain⟨u,hu,rfl⟩:=Re.mp he;exact Iz (nts u hu).1 (nts u hu).2.1
    ·have:Hk ((N.ts.map Aj).map λd=>D.str (BB d))<=0:=dps_le.mpr λd hd=>by
      obtain⟨e,he,rfl⟩:=Re.mp hd;exact Sc _
     show Hk _+1<=100;omega
   refine⟨_,AH (j:=1) rfl,by show (ts.map Aj).length<=10000000; rw [Go]; omega,?_⟩;refine Av (λd=>.bl ((N.ts.map Aj).any λe=>BB e==BB d)) (λρ=>∃s,ρ=[.sh (.lst ((N.ts.map Aj).map λd=>.str (BB d))),s]) _ _ _ _ ?_ ⟨_,rfl⟩ ?_
   ·rintro d hd ρ m nx ⟨s,rfl⟩ hnx
    obtain⟨t,ht,rfl⟩:=Re.mp hd;refine⟨_,rfl,its t (hts t ht),CU (B:=0) (d:=.str _) (by decide) (Iz (hts t ht).1 (hts t ht).2.1) (dD _),layL,_,rfl,?_⟩;show nx (.bl (((N.ts.map Aj).map λd=>.str (BB d)).any λy=>GF y (.str (BB (Aj t))))) m _;rw [kN];exact hnx _ ⟨_,rfl⟩
   ·rw [dE]
    refine C8 ?_;exact p
theorem Wk.cons{N:Net}{x y z:Str}{l d:Int}(e:Ed N x y l)(h:Wk N y z d):Wk N x z (l+d):=by
 induction h with
 | nil=>rw [Int.add_comm]; exact .snoc .nil e
 | snoc h f ih=>rw [← Int.add_assoc]; exact .snoc ih f
theorem RA{N:Net}(okn:okN N){ts:List A2}(h:ts.Sublist N.ts):thn N ts:=⟨λt ht=>h.subset ht,okn.1.trise.sublist h⟩
end
end Nt
namespace L2
open PySem.AutoSeq1 (wpAny_loadPart')
theorem V_{prog:dZ}{w:dh}{A:eC}{R:Result->Op->Prop}{s:Op}(t:Ch)(items:Array Ev)(n:Nat)(x:Ev)(e:Ev->Bool)(j:Nat)(hj:j<items.size)(hit:e items[j]=true)(hno:∀m (hm:m<items.size),m<j->e items[m]=false)
  (hl:s.heap.get? t=some { cls:=.type "tuple",dict:=none,data:=.seq items n,slots:=#[] }) (he:∀y,y∈items->PySem.SeqAt.EqAt A.in1 s y x (e y))
  (h:R (.ok (.ret (.int (j:Int) s.toks))) { s with toks:=s.toks+1 }) :
  wpAny (model prog w) A.in1 (fq.«tuple.index» ⟨[.ref t,x],[]⟩) (λfin s'=>match fin with | .done f=>R (.ok f) s' | .again c'=>c'.quiet=true/\codeAny (model prog w) A c' R s') (λe s'=>R (.error e) s') s:=by
 obtain⟨hp,g,d,tk,os⟩:=s
 wp_walk using eX hl
 have go:∀(Q:Option _×Unit->Op->Prop) (E:Ev->Op->Prop),(∀r,Q (some r,()) ⟨hp,g,d,tk+1,os⟩\/True)->∀(k i:Nat),i<=j->i+k=items.size ->
   (∀r:Fin,r=.done (.ret (.int (j:Int) tk))->Q (some r,()) ⟨hp,g,d,tk+1,os⟩) ->
   wpAny (model prog w) A.in1 (forIn (List.range' i k 1) ((none:Option Fin),()) (fun(i:Nat) __s=>match items[i]? with
      | some y=>do
       let __do_lift ← eqBool y x
       if __do_lift=true then do
         let __do_lift ← retInt (i:Int)
         pure (ForInStep.done (some __do_lift,()))
        else pure (fj (none,()))
      | x=>pure (fj (none,())))) Q E ⟨hp,g,d,tk,os⟩:=by
  intro Q E _ k
  induction k with
  | zero=>intro i h1 h2; omega
  | succ k ih =>
   intro i h1 h2 hQ;have hlt:i<items.size:=by omega
   rw [List.range'_succ,gy];have hi:items[i]?=some items[i]:=g7 hlt;simp only [hi];refine Db (Db (he _ (jS hlt) prog w _ _ ?_))
   by_cases c:i=j
   ·subst c
    rw [hit]
    wp_walk
    exact hQ _ rfl
   ·rw [hno i hlt (by omega)]
    wp_walk
    exact ih (i+1) (by omega) (by omega) hQ
 show wpAny (model prog w) A.in1 (forIn [:min items.size items.size] ((none:Option Fin),()) _) _ _ _;rw [Std.Legacy.Range.forIn_eq_forIn_range']
 have er:List.range' (Std.Legacy.Range.start [:min items.size items.size]) (j9 [:min items.size items.size]) (Std.Legacy.Range.step [:min items.size items.size])=List.range' 0 items.size 1:=by
  simp [j9]
 rw [er];refine go _ _ (λ_=>.inr trivial) items.size 0 (dD _) (Nat.zero_add _) λr er=>?_;subst er;exact TW h
section
variable {X:Cx}
def Z5:V->List V->Hp->VK->Prop:=λx vs H Q=>∃(a:Ch) (xs:List V) (y:V) (ds:List gT) (d:gT) (j:Nat),x=.ref a/\vs=[y]/\H a=some (.tup xs)/\RVs H ds xs/\RV H d y/\fF ds=true/\d.canLay0=true/\d.depth<=100 /\
 (∃dj,ds[j]?=some dj/\eN dj d=true)/\(∀m dm,m<j->ds[m]?=some dm->eN dm d=false)/\Q (.int (j:Int)) H
theorem Ym{k:Nat}(hr:Room k X.A):Zc X "tuple.index" Z5:=by
 intro zG s Z H x vs v us Q I rx rv h;obtain⟨l,xs,y,ds,d,j,rfl,rfl,hH,hds,hd,c1,c2,dd,⟨dj,hj,hit⟩,hno,q⟩:=h;cases rx;obtain⟨u,rfl,ru⟩:=rv.one;obtain⟨z,its,r,⟨⟨cls,dt,data,sl⟩,e,e2,n,e3,e4,e5⟩⟩:=(show ObjOk X.prog X.w H s.heap l (.tup xs) from I.hok l _ hH);simp only at e2 e3 e4 e5;subst e2 e3 e4 e5;obtain⟨as,ra⟩:=RVs.reads I hds r;obtain⟨bs,rb⟩:=RV.reads I hd ru;have hm:=PySem.SeqAt.readsAll_map ds its as c1 ra;have hlen:ds.length=its.length:=by rw [← hm,Go]
 have hu:=hr.un;have hmin:min (eO ds) d.depth<=d.depth:=gj _ _
 have at_:∀m dm,ds[m]?=some dm->∀(h:m<its.toArray.size),PySem.SeqAt.readOf s.heap its.toArray[m]=dm:=λm dm e h=>by
  rw [← hm,dC] at e;have h':m<its.length:=by simpa using h
  rw [FM h'] at e;have e:=c_ e
  simpa using e
 have hjl:j<its.length:=by rw [← hlen]; exact(c8.mp hj).1
 have key:=V_ (prog:=X.prog) (w:=X.w) (A:=X.A) (R:=wants (EP X zG Z Q) X.xe) l its.toArray n u (λy=>eN (PySem.SeqAt.readOf s.heap y) d) j (by rw [Tk]; exact hjl) (by rw [at_ j dj hj]; exact hit) (λm hm' hlt=>by
  have hml:m<ds.length:=by rw [hlen]; simpa using hm'
  rw [at_ m ds[m] (FM hml) hm'];exact hno m ds[m] hlt (FM hml)) e (PySem.SeqAt.items_eqAt (vs:=its.toArray) (by rw [gw]; exact ra) rb c1 c2 (by omega)) ⟨.int j,H,I.tok _,⟨_,rfl⟩,q⟩
 exact wpAny_call (codeAny_call_builtin PySem.F.slot_tuple_index.plain PySem.F.entry_tuple_index (PySem.F.slot_tuple_index.check _ _ _ _ _ _ _ _ ⟨_,e,rfl⟩ (PySem.F.args_tuple_index_2 _ _) key))
def bW(r:V->List V->Hp->VK->Prop)(to:TE)(t:TA):TE:=λZ H Q=>to Z H λx H1=>(∃a xs,x=.ref a/\H1 a=some (.tup xs))/\t Z H1 λxs H2=>r x xs H2 Q
theorem YX{o e:dO}{es:List dO}{to:TE}{t:TA}{name:Str}{apos cpos:Pos}{id:String}{r:V->List V->Hp->VK->Prop}(slot:Slot "tuple" name id)(hty:typeOf (.builtin id)=pure (.type "method_descriptor"))(hm:Zc X id r)(ho:PE X o to)(ha:PA X (e::es) t)
  (hbase:attributeBase o name X.env (eval o X.env)=eval o X.env:=by rfl)
  (hfew:((backTo cpos (starEach (e::es) X.env)).all (λx=>!x.1)&&(backToKw cpos (keywordEach [] X.env)).all (λx=>x.1.isSome)
   && decide ((e::es).length+([]:List gK).length+(if ([]:List gK).isEmpty then 0 else 1)<30))=true:=by rfl)
  (hline:(apos.endLine==cpos.line)=true:=by rfl) (hs:starEach (e::es) X.env=(false,eval e X.env)::starEach es X.env:=by rfl) (hplain:(backTo cpos (starEach es X.env)).any (·.1)=false:=by rfl) :
  PE X (.Call (.Attribute o name apos) (e::es) [] cpos) (bW r to t):=by
 intro zG s Z H Q I h;refine wpAny_Call_method_late hbase hfew hline rfl (thn (ho zG s Z H _ I h) λv s1 ⟨x,H1,I1,r1,⟨a,xs,ex,hx⟩,q1⟩=>?_);subst ex;have ev:v=dn a:=r1;subst ev;obtain⟨z,its,_,o,e1,e2,n,e3,e4,e5⟩:=(show ObjOk X.prog X.w H1 s1.heap a (.tup xs) from I1.hok a _ hx);refine⟨"tuple",id,PySem.F.plainAttrs_tuple,slot,hty,⟨o,e1,e2⟩,λb eb=>by cases eb; exact⟨o,e1,e4⟩,?_⟩;have hA:=ha cpos zG s1 Z H1 _ I1 q1;rw [hs] at hA ⊢;refine fw (by show (false||(backTo cpos (starEach es X.env)).any (·.1))=false; rw [hplain] <;> rfl) (gk ?_);exact thn hA λus s2 ⟨vs,H2,I2,r2,q2⟩=>hm zG s2 Z H2 (.ref a) vs (.ref a) us Q I2 r1 r2 q2
end
end L2
namespace Dp
open L2
section
variable {X:Cx}{zT:Kd}{a e:Expr}{es:List Expr}{wa:DW}{ws:Ex}
def aZ(d:D)(ds:List D)(P:D->Prop):Prop:=∃(xs:List D) (y:D) (j:Nat),d=.tup xs/\ds=[y]/\Ci (.tup xs)/\Ci y/\(∃x,xs[j]?=some x/\GF x y=true)/\(∀m x,m<j->xs[m]?=some x->GF x y=false)/\P (.int (j:Int))
def T6(wo:DW)(ws:Ex):DW:=λn ρ P=>wo n ρ λd n1=>(∃xs,d=.tup xs)/\ws n1 ρ λds n2=>aZ d ds λz=>P z n2
theorem ao{K:Frag}:cF K .sh "tuple" Z5 aZ:=by
 intro U M H d ds x vs P Q dom vM hx hp w q;obtain⟨xs,y,j,rfl,rfl,⟨n1,l1,_⟩,⟨n2,l2,d2⟩,⟨x0,hx0,hit⟩,hno,w⟩:=w;obtain⟨v,rfl,hy⟩:=Ec hp;obtain⟨a,us,rfl,hn,hs⟩:=hx.tup
 have get:∀(m:Nat) (p:gT),(A6 xs)[m]?=some p->∃x,xs[m]?=some x/\p=toPy x:=λm p e=>by
  rw [DV,dC] at e;obtain⟨x,e1,rfl⟩:=d6.mp e;exact⟨x,e1,rfl⟩
 refine⟨a,us,v,A6 xs,toPy y,j,rfl,rfl,hn,hs.rv n1,hy.rv n2,l1,l2,d2,⟨toPy x0,by rw [DV,dC,hx0]; rfl,hit⟩,λm p hm e=>?_,q _ H (.int (j:Int)) .refl rfl w⟩;obtain⟨x',e1,rfl⟩:=get m p e;exact hno m x' hm e1
theorem N9{k:Nat}{apos cpos:Pos}(hr:Room k X.A)(ho:DE X a zT wa)(ha:V3 X (e::es) ws)
  (hbase:attributeBase a "index" X.env (eval a X.env)=eval a X.env:=by rfl)
  (hfew:((backTo cpos (starEach (e::es) X.env)).all (λx=>!x.1)&&(backToKw cpos (keywordEach [] X.env)).all (λx=>x.1.isSome)
   && decide ((e::es).length+([]:List gK).length+(if ([]:List gK).isEmpty then 0 else 1)<30))=true:=by rfl)
  (hline:(apos.endLine==cpos.line)=true:=by rfl) (hs:starEach (e::es) X.env=(false,eval e X.env)::starEach es X.env:=by rfl) (hplain:(backTo cpos (starEach es X.env)).any (·.1)=false:=by rfl) :
  DE X (.Call (.Attribute a "index" apos) (e::es) [] cpos) .sh (T6 wa ws):=by
 obtain⟨t,h1,h2⟩:=ho;obtain⟨u,g1,g2⟩:=ha;refine⟨_,YX PySem.F.slot_tuple_index PySem.F.type_tuple_index (Ym hr) h1 g1 hbase hfew hline hs hplain,λC M H n ρ Z P Q R w q=>?_⟩;refine h2 C M H n ρ Z _ _ R w λx H1 d n1 e1 f1 r1 p=>?_;have R1:=R.step e1 f1;have tx:=r1.tpOf R.dom R.vM;obtain⟨⟨xs,rfl⟩,p⟩:=p;refine⟨by obtain⟨a,us,rfl,hn,hs⟩:=tx.tup; exact⟨a,us,rfl,hn⟩,?_⟩;refine g2 C M H1 n1 ρ Z _ _ R1 p λvs H2 ds n2 e2 f2 r2 p2=>?_;have R2':=R1.step e2 f2;refine ao C.V M H2 (.tup xs) ds x vs _ _ R2'.dom R2'.vM (tx.pres (R1.pres e2) e2 R.uV) r2 p2 λv H3 z g vr pz=>?_;exact q v H3 z n2 ((e1.trans e2).trans g.ext) (f2.grow g) (VR.back (e1.trans e2) vr) pz
end
end Dp
namespace L2
open PySem.W
theorem Qj:mroOf (.type "dict")=pure [.type "dict",.type "object"]:=by rw [mroOf_type]; kernel_rfl
theorem ZF:typeLookup (.type "dict") "__new__"=pure (some (.builtin "dict.__new__")):=by rw [jq,iR]; kernel_rfl
theorem dp_called:TypeCalled "dict" "dict.__new__" "dict.__init__" :=
 ⟨by decide +kernel,by decide +kernel,⟨_,_,Qj⟩,madeBy_type Qj ZF (by decide +kernel),by decide +kernel,by rw [isSubtype_type]; kernel_rfl,PySem.F.slot_dict_init⟩
theorem Wx(a:Ev):checkTypeCall "dict" ⟨[a],[]⟩=pure ():=by kernel_rfl
theorem Wy(a:Ev):checkBuiltinCall "dict.__new__" ⟨[.type "dict",a],[]⟩=pure ():=by kernel_rfl
theorem N5:entryFor table "dict.__new__"=some fq.«dict.__new__»:=entryFor_of_tree (by kernel_rfl)
theorem Hl:plainId "dict.__new__"=true:=by decide +kernel
theorem GX:entryFor table "dict.update.loop"=some fq.«dict.update.loop»:=entryFor_of_tree (by kernel_rfl)
theorem C5:plainId "dict.update.loop"=true:=by decide +kernel
theorem W1:typeLookup (.type "list") "keys"=pure none:=am_miss_of_fast (by decide +kernel)
section
variable {prog:Program}{w:World}{A:Around}{E:Value->Shared->Prop}{s:Shared}
theorem Pf(a:Ev){Q₁:Ev->Op->Prop}(h:Q₁ (.ref s.heap.objs.size) { s with heap:=s.heap.push { cls:=.type "dict",data:=.dict #[] } }) :
  codeAny (model prog w) A (.call (.builtin "dict.__new__") ⟨[.type "dict",a],[]⟩) (wants Q₁ E) s:=by
 refine codeAny_of_tree ?_;show wpAny _ A.in1 (do checkBuiltinCall "dict.__new__" ⟨[.type "dict",a],[]⟩; again (.builtin "dict.__new__" ⟨[.type "dict",a],[]⟩)) _ _ s;refine Db (jv (Wy a) (TW ⟨fD Hl _,eY N5 ?_⟩));rw [eL Hl _];unfold fq.«dict.__new__»;have hsub:=dp_called.sub;have hmro:=Qj;obtain⟨hp,g,d,tk,os⟩:=s
 wp_walk
 exact h
theorem Wz{a:Ch}{xs:Array Ev}{k:Nat}{Q:Option Ev->Op->Prop}{sl:Array (Option Ev)}(hx:s.heap.get? a=some { cls:=.type "list",dict:=none,data:=.seq xs k,slots:=sl })(hA:A.handled=none)
  (h:∀h' tk,(∀b o,s.heap.get? b=some o->h'.get? b=some o)->Q none { s with heap:=h',toks:=tk }):wpAny (model prog w) A (getAttr? (.ref a) "keys") Q E s:=by
 obtain⟨hp,g,d,tk,os⟩:=s;have hT:∀tk',(⟨hp,g,d,tk',os⟩:Op).TypeIs (.ref a) "list":=λ_=>⟨_,hx,rfl⟩;have f1:=sub_AttributeError;have f3:=PySem.F.slot_list_getattribute.lookup;have f4:=PySem.F.slot_list_getattribute.bind (.ref a);have f5:=am_list_getattr_none;unfold getAttr? getAttrBy? getAttrBy
 repeat (any_goals (first | assumption | exact hT _ | ((with_reducible show wpAny _ _ (call (Value.builtin "list.__getattribute__") _ _) _ _ _); refine call_meets PySem.F.slot_list_getattribute (hT _) am_entry_list_getattribute (PySem.F.args_list_getattribute_2 _ _) (meets_getattribute_miss_list a xs k sl "keys" _ W1 (by decide +kernel) (by decide +kernel)) ⟨hx,hA,λh' tk' e hx'=>?_⟩) | wp_step))
 obtain⟨t',u',he⟩:=hx'.there;show wpAny _ _ (getattributeRaised _ _ _ _ _ _ _) _ _ _;unfold getattributeRaised
 repeat (any_goals (first | assumption | wp_step))
 exact h _ _ hx'.keeps
end
section
variable {prog:Program}{w:World}{A:Around}{R:Result->Shared->Prop}{I:Addr}{fp wr:List Addr}{n:Nat}{P:Nat->Value->Prop}{St:Nat->Heap->Prop}{K:Type}[DecidableEq K]{knd:KeyKind prog w K}
theorem stored_new{kvs:List (K×Ev)}{k:K}{v:Ev}(h:k∉kvs.map (·.1)):stored kvs k v=kvs++[(k,v)]:=by
 unfold stored;rw [if_neg];intro z;obtain⟨p,hp,e⟩:=ef.mp z;exact h (Re.mpr ⟨p,hp,of_decide_eq_true e⟩)
theorem W0(W:Walks prog w A.in1 I fp wr n P St)(d:Ch)(hdf:d∉fp)(base:dL)(hbase:∀b,b∈wr\/b=d->base.get? b=none)(kvs:List (K×Ev))(hlen:kvs.length=n)(nd:(kvs.map (·.1)).Nodup)(hsz:n<=sizeLine)
  (hit:∀(i:Nat) (v:Ev) (p:K×Ev),P i v->kvs[i]?=some p->∃(a:Ch) (o:Obj) (key:Ev) (c:Nat),v=.ref a/\base.get? a=some o/\o.cls=.type "tuple"/\o.data=.seq #[key,p.2] c/\knd.is p.1 key=true) :
  ∀(k i:Nat) (s:Op),n - i=k->i<=n->St i s.heap->(∀b o,base.get? b=some o->s.heap.get? b=some o)->s.heap.DictOf knd d (kvs.take i) ->
   (∀h' tk,h'.DictOf knd d kvs->(∀b o,base.get? b=some o->h'.get? b=some o)->R (.ok (.ret .none)) { s with heap:=h',toks:=tk }) ->
   codeAny (model prog w) A (.builtin "dict.update.loop" ⟨[.ref d,.ref I,rawInt (i:Int),.none],[]⟩) R s:=by
 have hdw:d∉wr:=λh=>hdf (W.sub _ h);intro k
 induction k with
 | zero =>
  intro i s hk hi hst hold hD hR;have hin:i=n:=by omega
  subst hin;refine eY GX ?_;rw [eL C5 _];show wpAny _ A.in1 (pyNext (.ref I) >>= _) _ _ s;refine Db (W.done s _ _ hst λh' tk hk'=>?_);show wpAny _ A.in1 (Builtin.Dict.addKeywords d [] >>= λ_=>ret dk) _ _ _;refine Db (TW (TW (hR h' tk ?_ λb o e=>hk' b o (λz=>?_) (hold b o e))))
  ·obtain⟨o,es,ep,ho,r⟩:=hD
   rw [iG (by omega)] at r;exact⟨o,es,ep,hk' d o hdw ho,r⟩
  ·rw [hbase b (.inl z)] at e; cases e
 | succ k ih =>
  intro i s hk hi hst hold hD hR;have hlt:i<n:=by omega
  refine eY GX ?_;rw [eL C5 _];show wpAny _ A.in1 (pyNext (.ref I) >>= _) _ _ s;refine Db (W.item i s _ _ hlt hst λv h' tk hP hst' hk'=>?_);have hp:kvs[i]?=some (kvs[i]'(by omega)):=FM (by omega);generalize kvs[i]'(by omega)=p at hp;obtain⟨a,o,key,c,rfl,ha,hc,hd,his⟩:=hit i v p hP hp;have hold':∀b o,base.get? b=some o->h'.get? b=some o:=λb o e=>hk' b o (λz=>by rw [hbase b (.inl z)] at e; cases e) (hold b o e);have ha':=hold' a o ha
  have hD':h'.DictOf knd d (kvs.take i):=by
   obtain⟨o,es,ep,ho,r⟩:=hD;exact⟨o,es,ep,hk' d o hdw ho,r⟩
  show wpAny _ A.in1 (holding [dn a] _ >>= _) _ _ _;refine Db (e_ ?_);show wpAny _ A.in1 (tryCatch (jx (.ref a)) _ >>= _) _ _ _;refine Db (iA ?_);unfold jx;refine Db (gM (T := "tuple") ⟨o,ha',hc⟩ ?_);show wpAny _ A.in1 (seqItems? (.ref a) >>= _) _ _ _;refine Db (fA ha' hd (TW ?_));show wpAny _ A.in1 (holding [key,p.2] (dictSet d key p.2)) _ _ _;refine e_ (wpAny_dictSet_pairs (hsz:=by rw [fC]; omega) his hD' λh'' hD'' hs=>?_)
  have hni:p.1∉(kvs.take i).map (·.1):=λz=>by
   have e:kvs.map (·.1)=(kvs.take i).map (·.1)++p.1::(kvs.drop (i+1)).map (·.1):=by
    have:=j7 i kvs
    rw [e7 (by omega:i<kvs.length)] at this;rw [FM (by omega:i<kvs.length)] at hp;cases hp
    conv=>lhs; rw [← this]
    rw [dq,dA]
   rw [e,eJ] at nd;exact nd.2.2 p.1 z p.1 On rfl
  have e2:kvs.take (i+1)=kvs.take i++[p]:=by rw [List.take_add_one,hp]; rfl
  rw [stored_new hni,← e2] at hD'';refine TW ⟨fD C5 _,?_⟩;have hi1:((i:Int)+1)=((i+1:Nat):Int):=by omega
  rw [hi1];refine ih (i+1) _ (by omega) hlt (W.frame _ _ _ hst' λb hb o e=>?_) (λb o e=>?_) hD'' λh3 tk3 hD3 hold3=>hR h3 tk3 hD3 hold3
  ·exact(hs.2 b λz=>hdf (by rw [← z]; exact hb)).trans e
  ·exact(hs.2 b λz=>by rw [hbase b (.inr z)] at e; cases e).trans (hold' b o e)
theorem W3{E:Ev->Op->Prop}{s:Op}{l:Ch}{its:Array Ev}{c:Nat}{sl:Array (Option Ev)}{Q:Ev->Op->Prop}(hh:A.handled=none)(hl:s.heap.get? l=some { cls:=.type "list",dict:=none,data:=.seq its c,slots:=sl })
  (kvs:List (K×Ev)) (hlen:kvs.length=its.size) (nd:(kvs.map (·.1)).Nodup) (hsz:its.size<=sizeLine)
  (hit:∀(i:Nat) (v:Ev) (p:K×Ev),its[i]?=some v->kvs[i]?=some p->∃(a:Ch) (o:Obj) (key:Ev) (c:Nat),v=.ref a/\s.heap.get? a=some o/\o.cls=.type "tuple"/\o.data=.seq #[key,p.2] c/\knd.is p.1 key=true)
  (h:∀h' tk,h'.DictOf knd s.heap.objs.size kvs->(∀b o,s.heap.get? b=some o->h'.get? b=some o)->Q (.ref s.heap.objs.size) { s with heap:=h',toks:=tk }) :
  wpAny (model prog w) A (call (.type "dict") [.ref l]) Q E s:=by
 refine callType_codes (Q₁:=λobj s₁=>obj=.ref s.heap.objs.size/\s₁={ s with heap:=s.heap.push { cls:=.type "dict",data:=.dict #[] } }) dp_called (Wx _) PySem.F.entry_dict_init (Pf _ ⟨rfl,rfl⟩) ?_;rintro obj s₁ ⟨rfl,rfl⟩;have hd0:(s.heap.push { cls:=.type "dict",data:=.dict #[] }).get? s.heap.objs.size=some { cls:=.type "dict",data:=.dict #[] }:=c7 _ rfl;have hl':(s.heap.push { cls:=.type "dict",data:=.dict #[] }).get? l=some { cls:=.type "list",dict:=none,data:=.seq its c,slots:=sl }:=No _ hl;have hlt:l<s.heap.objs.size:=ZB hl
 have none_ge:∀b,s.heap.objs.size<=b->s.heap.get? b=none:=λb hb=>by
  cases e:s.heap.get? b with
  | none=>rfl
  | some o=>exact absurd (dY (ZB e) hb) (d9 _)
 refine⟨⟨_,hd0,rfl⟩,PySem.F.args_dict_init_2 _ _,?_⟩;unfold fq.«dict.__init__»;refine Db ?_;unfold Builtin.Dict.selfAndRest;refine Db (wpAny_notOrdered_dict ⟨_,hd0,rfl⟩ ?_);show wpAny _ _ (pure (s.heap.objs.size,[dn l])) _ _ _;refine TW ?_;show wpAny _ _ (jk "dict.__init__" s.heap.objs.size (.ref l) [] .none) _ _ _;unfold jk;refine Db (gM (T := "list") ⟨_,hl',rfl⟩ ?_);rw [if_pos (by decide)];have hh2:A.in1.in1.handled=none:=by simp [hh]
 have hh1:A.in1.handled=none:=by simp [hh]
 refine Db (Wz hl' hh2 λh1 tk1 hk1=>?_);show wpAny _ _ (rule _ >>= _) _ _ _;refine Db (gR ?_);have hl1:h1.IsList l its:=⟨_,hk1 l _ hl',rfl,c,rfl⟩;refine Db (e9 (s:={ s with heap:=h1,toks:=tk1 }) hl1 ?_);have hs1:s.heap.objs.size<h1.objs.size:=ZB (hk1 _ _ hd0);have hneI:l≠h1.objs.size:=λz=>d9 _ (ja hs1 (by rw [← z]; exact hlt))
 have hdf:s.heap.objs.size∉[h1.objs.size,l]:=λhm=>by
  rcases T0.mp hm with z | hm
  ·rw [← z] at hs1; exact d9 _ hs1
  ·rw [← TM.mp hm] at hlt; exact d9 _ hlt
 refine TW ⟨fD C5 _,?_⟩;refine W0 (knd:=knd) (Walks.list (A:=A.in1.in1) hh2 h1.objs.size l hneI its) s.heap.objs.size hdf s.heap (λb hb=>none_ge b ?_) kvs hlen nd hsz hit its.size 0 _ (jc _) (dD _) ⟨⟨_,c7 _ rfl,rfl,rfl⟩,hl1.push _⟩ (λb o e=>No _ (hk1 b o (No _ e))) ⟨_,#[],0,No _ (hk1 _ _ hd0),⟨rfl,rfl,rfl⟩,rfl,(λe he=>by simp at he),by rw [List.take_zero]; exact .nil,by rw [List.take_zero]; exact d8⟩ λh' tk hD hold=>⟨rfl,h h' tk hD hold⟩
 rcases hb with hb | hb
 ·rw [TM.mp hb]; exact iT hs1
 ·rw [hb]; exact Sc _
end
section
variable {X:Cx}
def UY(K:Frag):List V->Hp->VK->Prop:=λxs H Q=>∃(p:Ch) (as:List Ch) (kvs:List (Key×V)),xs=[.ref p]/\SqL K H p (as.map V.ref)/\as.length=kvs.length/\(∀(i:Nat) (a:Ch) (q:Key×V),as[i]?=some a->kvs[i]?=some q->SqT K H a [kV q.1,q.2])/\(kvs.map (·.1)).Nodup/\∀l,H l=none->Q (.ref l) (BK H l (.dK kvs))
theorem Rp{P:dZ}{w:dh}{h:dL}:∀{as:List Ch} {kvs:List (Key×V)},as.length=kvs.length->(∀(i:Nat) (a:Ch) (q:Key×V),as[i]?=some a->kvs[i]?=some q->∃its,Vals [kV q.1,q.2] its/\IsTup h a its.toArray) ->
  ∃ws:List (Key×Ev),KV kvs ws/\∀(i:Nat) (a:Ch) (q:Key×Ev),as[i]?=some a->ws[i]?=some q->∃(o:Obj) (key:Ev) (c:Nat),h.get? a=some o/\o.cls=.type "tuple"/\o.data=.seq #[key,q.2] c/\(BE P w).is q.1 key=true
 | [],[],_,_=>⟨[],.nil,λi a q e=>by simp at e⟩
 | a::as,q::kvs,hl,hp=>by
  obtain⟨ws,h1,h2⟩:=Rp (P:=P) (w:=w) (as:=as) (kvs:=kvs) (by simpa using hl) λi b p e1 e2=>hp (i+1) b p (by simpa using e1) (by simpa using e2);obtain⟨its,r,o,e1,e2,n,e3⟩:=hp 0 a q rfl rfl;cases r with
  | @cons _ key _ us r1 r2 =>
   cases r2 with
   | @cons _ v _ us2 r3 r4 =>
    cases r4;refine⟨(q.1,v)::ws,.cons ⟨rfl,r3⟩ h1,λi b p f1 f2=>?_⟩;cases i with
    | zero =>
     cases (show a=b by simpa using f1);cases (show (q.1,v)=p by simpa using f2);exact⟨o,key,n,e1,e2,e3,Hc r1⟩
    | succ i=>exact h2 i b p (by simpa using f1) (by simpa using f2)
theorem Qr(hc:X.calm=true):DB X (.type "dict") (UY X.K):=by
 intro zG s Z H xs us Q I r h;obtain⟨p,as,kvs,rfl,hq,hl,hp,nd,q⟩:=h;obtain⟨u,rfl,rx⟩:=vals1 r;cases rx;obtain⟨its,r',⟨⟨cls,dt,data,sl⟩,n,e1,e2,e3,e4⟩,hz⟩:=I.list hq;simp only at e2 e3 e4;subst e2 e3 e4;have hlen:=r'.length;rw [Go] at hlen hz
 obtain⟨ws,k1,k2⟩:=Rp (P:=X.prog) (w:=X.w) (h:=s.heap) hl λi a q f1 f2=>by
  obtain⟨its,r,t,_⟩:=I.tuple (hp i a q f1 f2);exact⟨its,r,t⟩
 have kl:=Paired.length k1;refine W3 (knd:=BE X.prog X.w) (I.ok.hd hc) e1 ws (by rw [Tk]; omega) (by rw [← KV.keys k1]; exact nd) (by rw [Tk]; omega) (λi v q f1 f2=>?_) λh' tk hD hk=>?_
 ·have hv:its[i]?=some v:=by simpa using f1
  have hi:i<as.length:=by rw [hlen]; exact(c8.mp hv).1
  obtain⟨u,g1,g2⟩:=r'.get (i:=i) (x:=.ref as[i]) (by rw [dC,FM hi]; rfl);rw [hv] at g1;cases g1;obtain⟨o,key,c,a1,a2,a3,a4⟩:=k2 i as[i] q (FM hi) f2;exact⟨as[i],o,key,c,g2,a1,a2,a3,a4⟩
 ·exact⟨.ref s.heap.objs.size,_,I.laid (t':=tk) (o:=.dK kvs) hk (Sc _) (Ql (by omega) (beq_eq_false_iff_ne.mpr (eW (dJ I.big))) k1 hD),rfl,q _ (I.hok.fresh (Sc _))⟩
end
end L2
namespace Dp
open L2
def Sm:List D->Option (List Key×List D)
 | []=>some ([],[])
 | .tup [k,v]::r=>match keyOf k,Sm r with
  | some key,some p=>some (key::p.1,v::p.2)
  | _,_=>none
 | _=>none
def VU(ds:List D)(P:D->Prop):Prop:=∃xs ks vs,ds=[.lst xs]/\Sm xs=some (ks,vs)/\ks.Nodup/\P (.dic ks vs)
theorem Uj{K:Frag}{M:Ch->Prop}{H:Hp}:∀{xs:List D} {us:List V} {ks:List Key} {vs:List D},Sm xs=some (ks,vs)->Ats K M H xs us->∃(as:List Ch) (ws:List V),us=as.map V.ref/\ks.length=vs.length/\as.length=ks.length/\Ats K M H vs ws/\∀(i:Nat) (a:Ch) (q:Key×V),as[i]?=some a->(ks.zip ws)[i]?=some q->SqT K H a [kV q.1,q.2]
 | [],us,ks,vs,e,h=>by
  cases (show some (([],[]):List Key×List D)=some (ks,vs) from e);exact⟨[],[],h,rfl,rfl,rfl,λi a q e=>by simp at e⟩
 | d::xs,us,ks,vs,e,h=>by
  obtain⟨u,r,rfl,h1,h2⟩:=h;unfold Sm at e
  split at e
  ·cases ‹d::xs=[]›
  ·rename_i k v r' heq
   cases heq
   split at e
   ·rename_i key p e1 e2
    cases e;obtain⟨as,ws,g1,g2,g3,g4,g5⟩:=Uj (ks:=p.1) (vs:=p.2) e2 h2;obtain⟨a,vs2,rfl,hn,hs⟩:=h1;obtain⟨x1,r1,rfl,t1,x2,r2,rfl,t2,t3⟩:=hs;cases (show r2=[] from t3)
    have ek:x1=kV key:=C7 (K:=K) (M:=M) (H:=H) (U:=λ_=>False) e1 (by
     cases k with
     | int i=>exact t1
     | str z=>exact t1
     | _=>cases e1)
    refine⟨a::as,x2::ws,by rw [g1]; rfl,by rw [c6,c6,g2],by rw [c6,c6,g3],⟨x2,ws,rfl,t2,g4⟩,λi b q f1 f2=>?_⟩;cases i with
    | zero =>
     cases (show a=b by simpa using f1);cases (show (key,x2)=q by simpa using f2);rw [ek] at hn;exact hn.sq
    | succ i=>exact g5 i b q (by simpa using f1) (by simpa using f2)
   ·cases e
  ·cases e
theorem XD{K:Frag}:EJ K .fr (UY K) VU:=by
 intro U M H ds vs P Q dom vM hp w q;obtain⟨xs,ks,es,rfl,e,nd,w⟩:=w;obtain⟨v,rfl,hx⟩:=Ec hp;obtain⟨a,us,rfl,_,ha,hs⟩:=hx;obtain⟨as,ws,rfl,g2,g3,g4,g5⟩:=Uj e hs;have hl:=g4.length;have hzip:(ks.zip ws).map (·.1)=ks:=by rw [List.map_fst_zip (by omega)]
 refine⟨a,as,ks.zip ws,rfl,.inl ha,by rw [im]; omega,g5,by rw [hzip]; exact nd,λl hl0=>?_⟩;refine q _ _ (.dic ks es) (BH hl0) ⟨l,rfl,hl0,ws,Ap,g2,g4.pres ?_⟩ w;exact⟨λb o eb nb=>by rw [Aa (λz=>by rw [z,hl0] at eb; cases eb)]; exact eb,λb z=>z.elim .inl λz=>.inr (by rw [z]; exact hl0),λb vs eb=>by rw [Aa (λz=>by rw [z,hl0] at eb; cases eb)]; exact eb⟩
end Dp
namespace Nt
open L2 Dp
def Ra:D->Bool
 | .int i=>decide (0<=i)
 | _=>false
def Zh(N:Net):D->Bool
 | .tup xs=>((xs.length:Int)==(N.ps.length:Int))&&xs.all Ra
 | _=>false
def bg:D->Int
 | .int i=>i
 | _=>0
def JX(N:Net)(xs:List D)(a:Str):Int:=bg ((BN (N.ps.map .inr) xs (.inr a)).getD .non)
def GR(i:Int):Int:=if i<0 then -i else i
def LG(N:Net):D->Bool
 | .tup xs=>Zh N (.tup xs)&&N.ts.all λt=>decide (GR (JX N xs t.a - JX N xs t.b)<=t.len)
 | _=>false
def C2(m:Int):Option Int->Int
 | some d=>if d<m then d else m
 | none=>m
def J_:W2:=λss n P=>∃(N:Net) (d:D),ss=[.sh (enc N),.sh d]/\okN N/\P (.bl (Zh N d)) n
def Vx:W2:=λss n P=>∃(N:Net) (xs:List D) (a b:Str),ss=[.sh (enc N),.sh (.tup xs),.sh (.str a),.sh (.str b)]/\okN N/\xs.length=N.ps.length/\(∀x∈xs,Ra x=true)/\a∈N.ps/\b∈N.ps/\P (.int (GR (JX N xs a - JX N xs b))) n
def SD:W2:=λss n P=>∃(N:Net) (d:D),ss=[.sh (enc N),.sh d]/\okN N/\P (.bl (LG N d)) n
def OM:W2:=λss n P=>∃(N:Net) (s:Str) (m:Int),ss=[.sh (enc N),.sh (.str s),.sh (.int m)]/\okN N/\s∈N.ps/\∀F:OP,Told N s F->P (.tup (N.ps.map λx=>.int (C2 m ((F x).map (·.1))))) n
def Ga:Ai:=(Aq (HF (AY D4 (AD (AL (CF D7 (AG (AS Ax (AB 0) (wC (D.int 0))) AW))) (AD (AL (AB 1)) AZ))) (CF LI (AG (BU [none] (BF (AB 1)) (Ad 0) Bm (HF (AY Ll (AD (AL (AB 0)) AZ)) (AS (f2 λi j=>D.bl (decide (j<=i))) (AB 0) (wC (D.int 0))))) AW))))
def Hu:Ai:=(Aq (CF VW (AG (AS Hf (AS Ax (AB 1) (T6 (AS Ax (AB 0) (wC (D.int 0))) (AG (AB 2) AW))) (AS Ax (AB 1) (T6 (AS Ax (AB 0) (wC (D.int 0))) (AG (AB 3) AW)))) AW)))
def La:Ai:=(Ac (BA (Bh (AU (AY J_ (AD (AL (AB 0)) (AD (AL (AB 1)) AZ))))) (Aq (wC (D.bl false))) Ar)
 (Aq (CF LI (AG (BU [some 0,some 1,none,none,none] (BF (AS Ax (AB 0) (wC (D.int 1)))) (DJ 3 (Ao (Ad 2) (Ao (Ad 3) (Ao (Ad 4) Bu)))) Bm (AS N0 (AY Vx (AD (AL (AB 0)) (AD (AL (AB 1)) (AD (AL (AB 2)) (AD (AL (AB 3)) AZ))))) (AB 4))) AW))))
def Fo:Ai:=(Ac (A0 3 (AY Lo (AD (AL (AB 0)) (AD (AL (AB 1)) AZ))))
 (Aq (CF CB (AG (BU [some 2,some 3,none] (BF (AS Ax (AB 0) (wC (D.int 0)))) (Ad 2) Bm (V1 (AU (AS (Jk false) (AB 2) (AB 1))) (CF Rj (AG (AB 0) (AG (AS Ax (AS CH (AB 1) (AB 2)) (wC (D.int 0))) AW))) (AB 0))) AW))))
theorem Q3:∀{ks:List Key} {ds:List D} {k:Key} {z:D},BN ks ds k=some z->z∈ds
 | [],_,k,z,h=>by cases h
 | _::_,[],k,z,h=>by cases h
 | k0::ks,d::ds,k,z,h=>by
  have h':(if k0=k then some d else BN ks ds k)=some z:=h
  split at h'
  ·cases h'; exact On
  ·exact Rs _ (Q3 h')
theorem M9:∀{ps:List Str} {xs:List D} {j:Nat} {a:Str},ps.Nodup->ps[j]?=some a->BN (ps.map .inr) xs (.inr a)=xs[j]?
 | [],xs,j,a,_,h=>by simp at h
 | p::ps,[],j,a,_,h=>by simp; rfl
 | p::ps,x::xs,j,a,nd,h=>by
  rw [dP] at nd;show (if (eh p:Key)=.inr a then some x else BN (ps.map .inr) xs (.inr a))=_;cases j with
  | zero =>
   cases (show p=a by simpa using h);rw [if_pos rfl];rfl
  | succ j =>
   have h:ps[j]?=some a:=by simpa using h
   rw [if_neg λz=>nd.1 (by rw [eK z]; exact eo h),M9 nd.2 h];simp
theorem ge_int{d:D}(h:Ra d=true):∃i,d=.int i/\0<=i:=by
 cases d with
 | int i=>exact⟨i,rfl,of_decide_eq_true h⟩
 | _=>cases h
theorem NO{ps:List Str}(h:rising ps):ps.Nodup:=List.Pairwise.imp (λ{a b} z e=>by rw [e] at z; exact Ba _ z) h
theorem UC{N:Net}{xs:List D}(hl:xs.length=N.ps.length)(hg:∀x∈xs,Ra x=true){a:Str}(ha:a∈N.ps):BN (N.ps.map .inr) xs (.inr a)=some (.int (JX N xs a)):=by
 obtain⟨z,hz⟩:=IN (ks:=N.ps.map .inr) (ds:=xs) (k:=.inr a) (by rw [Go]; exact hl.symm) (Re.mpr ⟨a,ha,rfl⟩);obtain⟨i,rfl,_⟩:=ge_int (hg z (Q3 hz));unfold JX;rw [hz];rfl
section
variable {ss:List Slot}{n:Nat}{Pd:D->Nat->Prop}
theorem Kp(h:J_ ss n Pd):Ga (EE Pd) n (ss++XV 0 .no):=by
 obtain⟨N,d,rfl,okn,p⟩:=h;have l25:=okn.2.1;unfold Ga;refine⟨_,AH (j:=0) rfl,_,_,rfl,rfl,_,d,rfl,?_⟩;cases d with
 | tup xs =>
  have p':Pd (.bl (((xs.length:Int)==(N.ps.length:Int))&&xs.all Ra)) n:=p;rw [Go];refine Iq (b1:=((xs.length:Int)==(N.ps.length:Int))) (λhb p2=>?_) p';have hl:xs.length=N.ps.length:=by have:=beq_iff_eq.mp hb; omega
  refine⟨by show xs.length<=10000000; omega,?_⟩;refine Av (λd=>.bl (Ra d)) (λρ=>∃s,ρ=[s]) _ _ _ _ ?_ ⟨_,rfl⟩ ?_
  ·rintro d hd ρ m nx ⟨s,rfl⟩ hnx
   refine⟨[d],rfl,rfl,?_⟩;cases d with
   | int i=>exact hnx _ ⟨_,rfl⟩
   | _=>exact hnx _ ⟨_,rfl⟩
  ·rw [dE]
   exact Hg (p:=Ra) (P:=λz=>Pd z n) p2
 | _=>exact p
theorem Ly(h:Vx ss n Pd):Hu (EE Pd) n (ss++XV 0 .no):=by
 obtain⟨N,xs,a,b,rfl,okn,hl,hg,ha,hb,p⟩:=h;have nd:=NO okn.1.rise;have hlay:Ci (.tup (N.ps.map .str)):=Cz okn.1.names
 have idx:∀{a:Str},a∈N.ps->∃j:Nat,N.ps[j]?=some a/\xs[j]?=some (.int (JX N xs a))/\Ci (.str a)/\(∃x,(N.ps.map D.str)[j]?=some x/\GF x (.str a)=true)/\∀(m:Nat) (x:D),m<j->(N.ps.map D.str)[m]?=some x->GF x (.str a)=false:=λ{a} ha=>by
  obtain⟨j,hj⟩:=gA.mp ha;refine⟨j,hj,by rw [← M9 nd hj,UC hl hg ha],?_,⟨.str a,by rw [dC,hj]; rfl,by rw [Jx,beq_self_eq_true]⟩,λm x hm hx=>?_⟩
  ·exact CU (B:=0) (by decide) (λc hc=>by have:=(okn.1.names a ha).2.2 c hc; omega) (dD _)
  ·rw [dC] at hx
   obtain⟨y,hy,rfl⟩:=d6.mp hx;rw [Jx,beq_eq_false_iff_ne];intro e;subst e;obtain⟨h1,e1⟩:=c8.mp hy;obtain⟨h2,e2⟩:=c8.mp hj
   have:=(List.getElem_inj nd).mp (e1.trans e2.symm)
   omega
 obtain⟨i,i1,i2,i3,i4,i5⟩:=idx ha;obtain⟨j,j1,j2,j3,j4,j5⟩:=idx hb;unfold Hu;exact⟨_,AH (j:=0) rfl,⟨_,rfl⟩,_,_,i,rfl,rfl,hlay,i3,i4,i5,_,AH i2,_,AH (j:=0) rfl,⟨_,rfl⟩,_,_,j,rfl,rfl,hlay,j3,j4,j5,_,AH j2,p⟩
theorem Ot(h:SD ss n Pd):La (EE Pd) n (ss++XV 0 .no):=by
 obtain⟨N,d,rfl,okn,p⟩:=h;have ok:=okn.1;have l60:=okn.2.2;unfold La;refine⟨N,d,rfl,okn,?_⟩;show if (!(Zh N d))=true then _ else _
 cases hp:Zh N d with
 | false =>
  have:LG N d=false:=by
   cases d with
   | tup xs=>show (Zh N (.tup xs)&&_)=false; rw [hp]; rfl
   | _=>rfl
  rw [this] at p;exact B3 p
 | true =>
  cases d with
  | tup xs =>
   have hp':(((xs.length:Int)==(N.ps.length:Int))&&xs.all Ra)=true:=hp;rw [UF] at hp';have hl:xs.length=N.ps.length:=by have:=beq_iff_eq.mp hp'.1; omega
   have hg:∀x∈xs,Ra x=true:=dU.mp hp'.2;have p':Pd (.bl (Zh N (.tup xs)&&N.ts.all λt=>decide (GR (JX N xs t.a - JX N xs t.b)<=t.len))) n:=p;rw [hp,fP] at p';refine BV ⟨_,AH (j:=1) rfl,by show (N.ts.map Aj).length<=10000000; rw [Go]; omega,?_⟩;refine Av (λd=>match d with | .tup [.str a,.str b,.int l]=>.bl (decide (GR (JX N xs a - JX N xs b)<=l)) | _=>.non) (λρ=>∃s2 s3 s4,ρ=[.sh (enc N),.sh (.tup xs),s2,s3,s4]) _ _ _ _ ?_ ⟨_,_,_,rfl⟩ ?_
   ·rintro d hd ρ m nx ⟨s2,s3,s4,rfl⟩ hnx
    obtain⟨t,ht,rfl⟩:=Re.mp hd;obtain⟨m1,m2,_⟩:=ok.tin t ht;exact⟨rfl,rfl,N,xs,t.a,t.b,rfl,okn,hl,hg,m1,m2,hnx _ ⟨_,_,_,rfl⟩⟩
   ·rw [dE,eF]
    exact Hg (p:=λt:A2=>decide (GR (JX N xs t.a - JX N xs t.b)<=t.len)) (P:=λz=>Pd z n) p'
  | _=>cases hp
theorem JV(h:OM ss n Pd):Fo (EE Pd) n (ss++XV 1 .no):=by
 obtain⟨N,s,m,rfl,okn,hs,p⟩:=h;have l25:=okn.2.1;unfold Fo;refine⟨N,s,rfl,okn,hs,λks ds F M T=>?_⟩;refine⟨_,AH (j:=0) rfl,by show (N.ps.map D.str).length<=10000000; rw [Go]; omega,?_⟩;refine Av (λd=>match d with | .str x=>.int (C2 m ((F x).map (·.1))) | _=>.non) (λρ=>∃s2,ρ=[.sh (.int m),.sh (.dic ks ds),s2]) _ _ _ _ ?_ ⟨_,rfl⟩ ?_
 ·rintro d hd ρ m' nx ⟨s2,rfl⟩ hnx
  obtain⟨x,hx,rfl⟩:=Re.mp hd;refine⟨ks,ds,_,rfl,BO x,?_⟩;show if ((BN ks ds (.inr x)).isSome)=true then _ else _
  have hnx:nx (.int (C2 m ((F x).map (·.1)))) m' [.sh (.int m),.sh (.dic ks ds),.sh (.str x)]:=hnx _ ⟨.sh (.str x),rfl⟩;rw [M.at_];cases ex:F x with
  | none =>
   rw [ex] at hnx;exact BV hnx
  | some q =>
   rw [ex] at hnx;exact B3 ⟨ks,ds,_,Jl q,rfl,BO x,by rw [M.at_,ex]; rfl,_,AH (j:=0) rfl,hnx⟩
 ·rw [dE,eF]
  exact p F T
theorem RG:∀{ps:List Str} {xs:List D},ps.length=xs.length->Sm (f7 (λp x=>D.tup [.str p,x]) ps xs)=some (ps.map .inr,xs)
 | [],[],_=>rfl
 | p::ps,x::xs,h=>by
  have ih:=RG (ps:=ps) (xs:=xs) (by simpa using h);show (match keyOf (.str p),Sm (f7 (λp x=>D.tup [.str p,x]) ps xs) with | some key,some q=>some (key::q.1,x::q.2) | _,_=>none)=_;rw [ih];rfl
end
theorem Qn{m:Int}(hm:0<=m){o:Option Int}(ho:∀d,o=some d->0<=d):0<=C2 m o/\C2 m o<=m:=by
 cases o with
 | none=>exact⟨hm,gI _⟩
 | some d =>
  have:=ho d rfl
  show 0<=(if d<m then d else m)/\(if d<m then d else m)<=m
  split <;> omega
end Nt
namespace Dp
open L2
mutual
def flat:D->Bool
 | .tup ds=>Pa ds
 | .lst _=>false
 | .dic _ _=>false
 | .fdi _ _=>false
 | .dit _ _=>false
 | _=>true
def Pa:List D->Bool
 | []=>true
 | d::ds=>flat d&&Pa ds
end
section
variable {K:Frag}{M M':Addr->Prop}{H:Hp}
mutual
theorem Rh:∀(d:D) {v:V},flat d=true->At K M H d v->At K M' H d v
 | .non,_,_,h=>h
 | .bl _,_,_,h=>h
 | .int _,_,_,h=>h
 | .str _,_,_,h=>h
 | .tup ds,_,f,⟨a,vs,e,n,h⟩=>⟨a,vs,e,n,Pb ds f h⟩
 | .lst _,_,f,_=>by cases f
 | .dic _ _,_,f,_=>by cases f
 | .fdi _ _,_,f,_=>by cases f
 | .dit _ _,_,f,_=>by cases f
theorem Pb:∀(ds:List D) {vs:List V},Pa ds=true->Ats K M H ds vs->Ats K M' H ds vs
 | [],_,_,h=>h
 | d::ds,_,f,⟨v,r,e,h,hs⟩=>⟨v,r,e,Rh d (UF _ _▸f:_/\_).1 h,Pb ds (UF _ _▸f:_/\_).2 hs⟩
end
end
def T9(i:Nat)(w:DW):DW:=λn ρ P=>∃d,ρ[i]?=some (.ow d)/\w n (ρ.set i (.sh d)) λy n1=>flat y=true/\P y n1
theorem Ru{X:Cx}{e:dO}{w:DW}(i:Nat)(h:DE X e .sh w):DE X e .sh (T9 i w):=by
 obtain⟨t,a1,a2⟩:=h;refine⟨t,a1,λC M H n ρ Z P Q R ⟨d,hd,hw⟩ q=>?_⟩;obtain⟨a,e1,m,nv,tp⟩:=R.sl i _ hd;have R':=R.freeze hd e1;refine a2 C _ H n _ Z _ _ R' hw λv H1 y n1 x1 f1 r1 ⟨fl,p⟩=>q v H1 y n1 x1 ?_ (Rh y fl r1) p;intro f hf;obtain⟨x,r,cells,g1,g2,g3,g4⟩:=f1 f hf;obtain⟨_,_,_,_,_,o3,_⟩:=R.feed f hf;exact⟨x,r,cells,g1,g2,⟨o3.1,g3.2⟩,g4⟩
end Dp
set_option maxHeartbeats 400000
namespace Dp
open L2
def Zp(i j:Nat)(ws:Ex):Ai:=λD2 n ρ=>ws n ρ λds n1=>∃d e,ds=[d,e]/\D2.nx n1 ((ρ.set i (.sh d)).set j (.sh e))
theorem ZD{X:Cx}{κ:Kd}{pos:Pos}{i j:Nat}{x y:Str}{a b:dO}{ws:Ex}{px py pt:Pos}{kt k2 pt2}(hc:X.calm=true)(hN:X.N.Nodup)(hi:X.N[i]?=some x)(hj:X.N[j]?=some y)(hij:i≠j)
  (hx:X.env.scope.names.lookup x=some .local) (hy:X.env.scope.names.lookup y=some .local) (ha:Xx X [a,b] ws)
  (hw:swappedStores [.Tuple [.Name x px,.Name y py] kt pt] (.Tuple [a,b] k2 pt2) X.env=pure (some [x,y]))
  (hs:swapsWithSole [.Tuple [.Name x px,.Name y py] kt pt] (.Tuple [a,b] k2 pt2) pos.line X.env=pure false:=by rfl):DS X κ (.Assign [.Tuple [.Name x px,.Name y py] kt pt] (.Tuple [a,b] k2 pt2) pos) (Zp i j ws):=by
 obtain⟨t,a1,a2⟩:=ha;refine⟨_,YU hc hN hi hj hij hx hy a1 hw hs,λC M H n ρ Z D2 E R L w=>?_⟩;refine a2 C M H n ρ Z _ _ R w λvs H1 ds n1 e1 f1 r1 p=>?_;obtain⟨d,e,rfl,p⟩:=p;obtain⟨u,r,rfl,h1,v,r',rfl,h2,h3⟩:=r1;cases (show r'=[] from h3);exact⟨u,v,rfl,L.nx M H1 n1 _ _ (((R.step e1 f1).set h1).set h2) p⟩
end Dp
namespace Nt
open L2 Dp
abbrev NA(t b:Int):D:=.tup [.int t,.int b]
def Ib(k:Nat)(A:Net)(t b:Int)(u:A2)(row:D):Prop :=
 (CC A t b u=false/\∃p:List Int,row=.tup [.str "in",.tup (p.map .int)]/\(∀x∈p,x<=10 ^ 40)/\LG A (.tup (p.map .int))=true/\u.len*t<GR (JX A (p.map .int) u.a - JX A (p.map .int) u.b)*b) \/
 (CC A t b u=true/\∃(w:List Str) (d:Int),row=.tup [.str "out",Lq w]/\walkedK k A u.a u.b w d/\d*b<=u.len*t)
abbrev UQ:=Ib 100
def PapGK(k:Nat)(N:Net)(t b:Int):List A2->List A2->List D->Prop
 | _,[],[]=>True
 | kept,u::r,row::rs=>Ib k (sub N kept) t b u row/\PapGK k N t b (Ag N t b kept [u]) r rs
 | _,_,_=>False
abbrev Tr:=PapGK 100
theorem PapGK.len{k:Nat}{N:Net}{t b:Int}:∀{kept us:List A2} {rs:List D},PapGK k N t b kept us rs->rs.length=us.length
 | _,[],[],_=>rfl
 | _,u::us,r::rs,h=>by rw [c6,c6,PapGK.len h.2]
 | _,[],_::_,h=>h.elim
 | _,_::_,[],h=>h.elim
theorem Bx{N:Net}{t b:Int}:∀(pre:List A2) {kept r:List A2},Ag N t b kept (pre++r)=Ag N t b (Ag N t b kept pre) r
 | [],_,_=>rfl
 | u::pre,kept,r=>by
  rw [gq,B6,B6]
  split <;> exact Bx pre
section
variable {N:Net}{t b:Int}{pre post:List A2}{u:A2}
theorem Hb(nd:(pre++u::post).Nodup):u∈Ag N t b [] (pre++u::post)↔CC (sub N (Ag N t b [] pre)) t b u=false:=by
 obtain⟨_,n2,n3⟩:=eJ.mp nd;have hu:u∉Ag N t b [] pre:=λz=>((Bw (rest:=pre)).2 u z).elim (λz=>absurd z dB) λz=>n3 u z u On rfl;rw [Bx,B6];cases e:CC (sub N (Ag N t b [] pre)) t b u with
 | true =>
  rw [if_pos rfl];refine⟨λz=>?_,λz=>by cases z⟩
  rcases (Bw (rest:=post)).2 u z with z | z
  ·exact absurd z hu
  ·exact absurd z (dP.mp n2).1
 | false =>
  rw [if_neg (by decide)];exact⟨λ_=>rfl,λ_=>(Bw (rest:=post)).1 u (dG _ (TM.mpr rfl))⟩
theorem Tl(nd:(pre++u::post).Nodup)(hr:Ck (pre++u::post)){v:A2}:(v∈Ag N t b [] (pre++u::post)/\BJ (Bn v) (Bn u)=true)↔v∈Ag N t b [] pre:=by
 obtain⟨_,n2,n3⟩:=eJ.mp nd;obtain⟨_,r2,r3⟩:=ig.mp hr;constructor
 ·rintro ⟨hv,hlt⟩
  rw [Bx] at hv
  rcases (Bw (rest:=u::post)).2 v hv with z | z
  ·exact z
  ·rcases T0.mp z with rfl | z
   ·rw [CZ] at hlt; cases hlt
   ·rw [(eA.mp r2).1 v z] at hlt; cases hlt
 ·intro hv
  have hp:v∈pre:=((Bw (rest:=pre)).2 v hv).elim (λz=>absurd z dB) id;refine⟨by rw [Bx]; exact(Bw (rest:=u::post)).1 v hv,?_⟩;cases e:BJ (Bn v) (Bn u) with
  | true=>rfl
  | false=>exact absurd (Oj (Cy _ _ e (r3 v hp u On))) (n3 v hp u On)
theorem Ir(nd:(pre++u::post).Nodup)(hr:Ck (pre++u::post)):(⟨(sub N (Ag N t b [] (pre++u::post))).ps,(sub N (Ag N t b [] (pre++u::post))).ts.filter λv=>BJ (Bn v) (Bn u)⟩:Net)=sub N (Ag N t b [] pre):=by
 unfold sub
 congr 1
 rw [List.filter_filter];refine List.filter_congr λv _=>?_;rw [eG,UF,decide_eq_true_eq,decide_eq_true_eq,and_comm];exact Tl nd hr
end
def F8:W2:=λss n P=>∃(M:Net) (u:A2),ss=[.sh (enc M),.sh (Aj u)]/\okN M/\P (enc ⟨M.ps,M.ts.filter λv=>BJ (Bn v) (Bn u)⟩) n
def GO:W2:=λss n P=>∃t b l:Int,ss=[.sh (NA t b),.sh (.int l)]/\SM t b/\P (.int (l*t / b+1)) n
def GJ:W2:=λss n P=>∃(M:Net) (t b:Int) (u:A2) (xs:List D),ss=[.sh (enc M),.sh (NA t b),.sh (Aj u),.sh (.tup xs)]/\okN M/\SM t b/\u.a∈M.ps/\u.b∈M.ps/\LG M (.tup xs)=true/\u.len*t<GR (JX M xs u.a - JX M xs u.b)*b/\P .non n
def GL:W2:=λss n P=>∃(N:Net) (t b:Int) (pre post:List A2) (u:A2) (row:D),ss=[.sh (NA t b),.sh (enc (sub N (Ag N t b [] (pre++u::post)))),.sh (Aj u),.sh row]/\okN N/\SM t b/\(pre++u::post).Perm N.ts/\Ck (pre++u::post)/\UQ (sub N (Ag N t b [] pre)) t b u row/\P .non n
def GN:W2:=λss n P=>∃(s:Str) (y:D),ss=[.sh (.tup [.str s,y])]/\(s = "in"\/s = "out")/\P (.bl true) n
def F7:W2:=λss n P=>∃(N:Net) (t b:Int) (ord:List A2) (rs:List D),ss=[.sh (enc N),.sh (NA t b),.sh (enc (sub N (Ag N t b [] ord))),.sh (.tup rs)]/\okN N/\N.ps.length<=24/\SM t b/\ord.Perm N.ts/\Ck ord/\Tr N t b [] ord rs/\P (.bl true) n
def GK:W2:=λss n P=>∃(N:Net) (t b:Int),ss=[.sh (enc N),.sh (NA t b)]/\okN N/\SM t b/\∀(ord:List A2) (rs:List D),ord.Perm N.ts->Ck ord->PapGK 30 N t b [] ord rs->P (.tup rs) n
def Hy:Ai:=(Aq (AY F6 (AD (AL (AB 0)) (AD (Cs (BU [some 1,none] (BF (AS Ax (AB 0) (wC (D.int 1)))) (Ad 1) (AU (AS Dw (AY Mw (AD (AL (AB 1)) AZ)) (AY Mw (AD (AL (AB 0)) AZ)))) (AB 1))) AZ))))
def El:Ai:=(Aq (AS A7 (AS (OO Tt λi j=>D.int (i / j)) (AS B7 (AB 1) (AS Ax (AB 0) (wC (D.int 0)))) (AS Ax (AB 0) (wC (D.int 1)))) (wC (D.int 1))))
def Y5:Ai:=(Ac (A0 5 (AY F8 (AD (AL (AB 2)) (AD (AL (AB 4)) AZ))))
 (BA (AU (AS (DF false) (AB 4) (AS Ax (AB 2) (wC (D.int 1))))) (Lr 3 "list" Ei (AG (Bg (AG (wC (D.str "in")) (AG (AY OM (AD (AL (AB 5)) (AD (AL (AS Ax (AB 4) (wC (D.int 0)))) (AD (AL (AY GO (AD (AL (AB 1)) (AD (AL (AS Ax (AB 4) (wC (D.int 2)))) AZ)))) AZ)))) AW))) AW)) (Lr 3 "list" Ei (AG (Bg (AG (wC (D.str "out")) (AG (AY Vu (AD (AL (AB 5)) (AD (AL (AS Ax (AB 4) (wC (D.int 0)))) (AD (AL (AS Ax (AB 4) (wC (D.int 1)))) AZ)))) AW))) AW))))
def Em:Ai:=(Ac (A0 2 (AY DA (AD (AL (AB 0)) (AD (AL (AB 1)) AZ))))
 (Ac (DY 3 (FO AW))
 (Ac (Ez (BF (AY DK (AD (AL (AS Ax (AB 0) (wC (D.int 1)))) AZ))) (Ad 4) Y5)
 (Aq (CF CB (AG (A4 3) AW))))))
def Ek:Ai:=(Ac (BA (Bh (AU (AY SD (AD (AL (AB 0)) (AD (AL (AB 3)) AZ))))) (Aq (wC (D.str "fair"))) Ar)
 (Aq (V1 (AU (AY GI (AD (AL (AY Vx (AD (AL (AB 0)) (AD (AL (AB 3)) (AD (AL (AS Ax (AB 2) (wC (D.int 0)))) (AD (AL (AS Ax (AB 2) (wC (D.int 1)))) AZ)))))) (AD (AL (AB 1)) (AD (AL (AS Ax (AB 2) (wC (D.int 2)))) AZ))))) (wC (D.str "near")) (wC D.non))))
def En:Ai:=(Ac (A0 4 (AS (DF false) (AB 2) (AS Ax (AB 1) (wC (D.int 1)))))
 (Ac (BA (AU (AS (G6 true) (AB 4) (AS (G6 false) (AS Ax (AB 3) (wC (D.int 0))) (wC (D.str "in"))))) (Aq (wC (D.str "word"))) Ar)
 (Ac (A0 5 (AY F8 (AD (AL (AB 1)) (AD (AL (AB 2)) AZ))))
 (Aq (V1 (AU (AB 4)) (AY GJ (AD (AL (AB 5)) (AD (AL (AB 0)) (AD (AL (AB 2)) (AD (AL (AS Ax (AB 3) (wC (D.int 1)))) AZ))))) (AY J8 (AD (AL (AB 5)) (AD (AL (AB 0)) (AD (AL (AB 2)) (AD (AL (AS Ax (AB 3) (wC (D.int 1)))) AZ))))))))))
def DN:Ai:=(Aq (HF (AY D4 (AD (AL (wC (D.int 2))) (AD (AL (AB 0)) AZ))) (AS (DF false) (AS Ax (AB 0) (wC (D.int 0))) (Bg (AG (wC (D.str "in")) (AG (wC (D.str "out")) AW))))))
def Yq:Ai:=(Ac (A0 6 (AY GL (AD (AL (AB 1)) (AD (AL (AB 2)) (AD (AL (AB 5)) (AD (AL (AS Ax (AB 3) (AB 4))) AZ))))))
 (BA (AU (AS (GQ true) (AB 6) (wC D.non))) M8 Ar))
def FJ:Ai:=(Ac (BA (Cp (Bh (AU (AY JQ (AD (AL (AB 0)) (AD (AL (AB 2)) AZ))))) (Bh (AU (AY D4 (AD (AL (CF D7 (AG (AS Ax (AB 0) (wC (D.int 1))) AW))) (AD (AL (AB 3)) AZ)))))) M8 Ar)
 (Ac (BA (Bh (AU (CF LI (AG (BU [none] (BF (AB 3)) (Ad 0) Bm (AY GN (AD (AL (AB 0)) AZ))) AW)))) M8 Ar)
 (Ac (Ez (Q2 (AY DK (AD (AL (AS Ax (AB 0) (wC (D.int 1)))) AZ))) (DJ 2 (Ao (Ad 4) (Ao (Ad 5) Bu))) Yq)
 (Aq (wC (D.bl true))))))
theorem MN{N:Net}(okn:okN N)(S:List A2):thn N (sub N S).ts:=RA okn List.filter_sublist
theorem walkedK.up{k:Nat}(hk:k<=1000){M:Net}{a b:Str}{w:List Str}{d:Int}(h:walkedK k M a b w d):walked M a b w d:=⟨h.1,h.2.1,h.2.2.1,de h.2.2.2.1 hk,h.2.2.2.2⟩
theorem Nz{M:Net}{xs:List D}(h:LG M (.tup xs)=true):xs.length=M.ps.length/\∀x∈xs,Ra x=true:=by
 have h:=(UF _ _▸h:_/\_).1;have h:=(UF _ _▸h:_/\_);exact⟨by have:=eq_of_beq h.1; omega,dU.mp h.2⟩
section
variable {ss:List Slot}{n:Nat}{Pd:D->Nat->Prop}
theorem QM(h:F8 ss n Pd):Hy (EE Pd) n (ss++XV 0 .no):=by
 obtain⟨M,u,rfl,okm,p⟩:=h;have ok:=okm.1;have l60:=okm.2.2;unfold Hy;refine⟨_,AH (j:=1) rfl,by show (M.ts.map Aj).length<=10000000; rw [Go]; omega,?_⟩;refine HV (λd=>match d with | .tup [.str x,.str y,.int l]=>BJ [.inl l,.inr x,.inr y] (Bn u) | _=>false) id (λρ=>∃s,ρ=[.sh (Aj u),s]) _ _ _ _ ?_ ⟨_,rfl⟩ ?_
 ·rintro d hd ρ m nx sk ⟨s,rfl⟩ h1 h2
  obtain⟨v,hv,rfl⟩:=Re.mp hd;refine⟨_,_,_,rfl,_,_,_,rfl,Bn v,Bn u,rfl,rfl,rfl,?_⟩;rw [TK];show if BJ (Bn v) (Bn u)=true then _ else _
  exact D6 (λc=>h1 _ ⟨_,rfl⟩ c) λc=>h2 _ ⟨_,rfl⟩ (fX.mpr c)
 ·rw [dE,List.map_id]
  have e:(M.ts.map Aj).filter (λd=>match d with | .tup [.str x,.str y,.int l]=>BJ [.inl l,.inr x,.inr y] (Bn u) | _=>false)=(M.ts.filter λv=>BJ (Bn v) (Bn u)).map Aj:=by
   rw [List.filter_map];rfl
  rw [e];have okd:=RA okm (List.filter_sublist (l:=M.ts) (p:=λv=>BJ (Bn v) (Bn u)));refine⟨M,_,M.ts.filter λv=>BJ (Bn v) (Bn u),rfl,rfl,by have:=iQ (λv=>BJ (Bn v) (Bn u)) M.ts; omega,λts' p1 p2=>?_⟩;rw [KW p1 p2 (LY okd.2)];exact p
theorem Ox(h:GO ss n Pd):El (EE Pd) n (ss++XV 0 .no):=by
 obtain⟨t,b,l,rfl,⟨b1,b2,t1,t2⟩,p⟩:=h;unfold El;exact⟨_,AH (j:=0) rfl,.inr (by constructor <;> omega),_,AH (j:=1) rfl,⟨by omega,by omega⟩,p⟩
theorem Ol(h:GJ ss n Pd):Ek (EE Pd) n (ss++XV 0 .no):=by
 obtain⟨M,t,b,u,xs,rfl,okm,⟨b1,b2,t1,t2⟩,ha,hb,hf,hlt,p⟩:=h;obtain⟨f1,f2⟩:=Nz hf;unfold Ek;refine⟨M,_,rfl,okm,?_⟩;rw [hf];refine BV ⟨_,AH (j:=0) rfl,_,AH (j:=1) rfl,M,_,u.a,u.b,rfl,okm,f1,f2,ha,hb,_,AH (j:=2) rfl,_,t,b,u.len,rfl,b1,b2,t1,t2,?_⟩;rw [decide_eq_false (by omega)];exact p
theorem Ow(h:GN ss n Pd):DN (EE Pd) n (ss++XV 0 .no):=by
 obtain⟨s,y,rfl,hs,p⟩:=h;have st:∀x∈[("in":Str),"out"],∀c∈cs x,c<1114112:=by decide +kernel
 have l2:Ci (.tup [.str "in",.str "out"]):=CU (B:=10) (by decide) ⟨st _ (by simp),st _ (by simp),trivial⟩ (by show max 0 (max 0 0)+1<=100; decide);unfold DN;refine⟨2,_,rfl,?_⟩
 rcases hs with rfl | rfl
 ·exact⟨_,AH (j:=0) rfl,z2,CU (B:=10) (d:=.str "in") (by decide) (st _ (by simp)) (dD _),l2,_,rfl,p⟩
 ·exact⟨_,AH (j:=0) rfl,z2,CU (B:=10) (d:=.str "out") (by decide) (st _ (by simp)) (dD _),l2,_,rfl,p⟩
end
theorem OR{M:Net}(ok:M.Ok){x y:Str}{d:Int}(h:Wk M x y d):Wk M y x d:=by
 induction h with
 | nil=>exact .nil
 | snoc _ he ih =>
  obtain⟨t,ht,rfl,hx⟩:=he.tie ok;obtain⟨d1,d2⟩:=Jy ht
  rename_i d _ _
  rw [Int.add_comm];refine Wk.cons ?_ ih
  rcases hx with ⟨rfl,rfl⟩ | ⟨rfl,rfl⟩
  ·exact d2
  ·exact d1
theorem Js{N:Net}(g:Str->Int){a:Str}(ha:a∈N.ps):JX N ((N.ps.map g).map .int) a=g a:=by
 unfold JX;rw [eF,Jo,if_pos ha];rfl
theorem Tb{M:Net}(ok:M.Ok)(g:Str->Int)(h0:∀x∈M.ps,0<=g x)(h:∀t∈M.ts,GR (g t.a - g t.b)<=t.len):LG M (.tup ((M.ps.map g).map .int))=true:=by
 show (((((((M.ps.map g).map D.int).length:Nat):Int)==(M.ps.length:Int))&&((M.ps.map g).map D.int).all Ra)&&M.ts.all λt=>decide (GR (JX M ((M.ps.map g).map .int) t.a - JX M ((M.ps.map g).map .int) t.b)<=t.len))=true;rw [Go,Go,beq_self_eq_true,fP,UF];refine⟨dU.mpr λd hd=>?_,dU.mpr λt ht=>?_⟩
 ·obtain⟨i,hi,rfl⟩:=Re.mp hd
  obtain⟨x,hx,rfl⟩:=Re.mp hi;exact decide_eq_true (h0 x hx)
 ·obtain⟨m1,m2,_⟩:=ok.tin t ht
  rw [Js g m1,Js g m2];exact decide_eq_true (h t ht)
theorem Ny{M:Net}(ok:M.Ok){s x:Str}{o:Option Int}(h:bC M s x o):∀d,o=some d->0<=d:=λd e=>by
 rw [e] at h;exact(show Least M s x d from h).1.pos ok
theorem Qm{M:Net}(ok:M.Ok){s:Str}{G:Kn}(hG:∀x,bC M s x (G x)){m:Int}{t:A2}(ht:t∈M.ts):GR (C2 m (G t.a) - C2 m (G t.b))<=t.len:=by
 obtain⟨_,_,_,l1,_⟩:=ok.tin t ht;obtain⟨d1,d2⟩:=Jy ht
 have up:∀{y z:Str} {l:Int},Ed M y z l->∀d,G y=some d->∃d',G z=some d'/\d'<=d+l:=λ{y z l} he d e=>by
  have hy:=hG y;rw [e] at hy;have hw:Wk M s z (d+l):=Wk.snoc (show Least M s y d from hy).1 he;have hz:=hG z;cases ez:G z with
  | none=>rw [ez] at hz; exact absurd hw (hz _)
  | some d'=>rw [ez] at hz; exact⟨d',rfl,(show Least M s z d' from hz).2 _ hw⟩
 have u1:=up d1;have u2:=up d2;cases ea:G t.a with
 | none =>
  cases eb:G t.b with
  | none=>unfold GR C2; split <;> omega
  | some b=>obtain⟨d',z,_⟩:=u2 b eb; rw [ea] at z; cases z
 | some a =>
  cases eb:G t.b with
  | none=>obtain⟨d',z,_⟩:=u1 a ea; rw [eb] at z; cases z
  | some b =>
   obtain⟨b',z1,h1⟩:=u1 a ea;rw [eb] at z1; cases z1
   obtain⟨a',z2,h2⟩:=u2 b eb;rw [ea] at z2; cases z2
   show (if (if a<m then a else m) - (if b<m then b else m)<0 then -((if a<m then a else m) - (if b<m then b else m)) else (if a<m then a else m) - (if b<m then b else m))<=t.len
   split <;> split <;> split <;> omega
theorem VL{k:Nat}{A:Net}(okn:okN A){t b:Int}(tm:SM t b){u:A2}(ha:u.a∈A.ps)(hb:u.b∈A.ps)(hlen:0<=u.len)(hn:CC A t b u=false){s y:Str}(hs:(s=u.a/\y=u.b)\/(s=u.b/\y=u.a)){G:Kn}(hG:∀x,bC A s x (G x)){m more:Int}(hm0:0<=m)(hm1:m<=10 ^ 20)(hm:u.len*t<m*b)(h0:0<=more)(h1:more<=10 ^ 30):Ib k A t b u (.tup [.str "in",.tup ((A.ps.map λx=>more+C2 m (G x)).map .int)]):=by
 have ok:=okn.1;refine .inl ⟨hn,_,rfl,λx hx=>?_,Tb ok _ (λx _=>?_) λv hv=>?_,?_⟩
 ·obtain⟨z,_,rfl⟩:=Re.mp hx
  have:=(Qn hm0 (Ny ok (hG z))).2
  show more+C2 m (G z)<=_;omega
 ·have:=(Qn hm0 (Ny ok (hG x))).1
  show 0<=more+C2 m (G x);omega
 ·have:=Qm ok hG (m:=m) hv
  rw [show more+C2 m (G v.a) - (more+C2 m (G v.b))=C2 m (G v.a) - C2 m (G v.b) by omega];exact this
 ·rw [Js _ ha,Js _ hb]
  have start:C2 m (G s)=0:=by
   have h:=hG s;cases e:G s with
   | none=>rw [e] at h; exact absurd .nil (h 0)
   | some d =>
    rw [e] at h;have h:Least A s s d:=h;have e0:d=0:=Int.le_antisymm (h.2 0 .nil) (h.1.pos ok);subst e0;show (if (0:Int)<m then 0 else m)=0
    split <;> omega
  have far:u.len*t<C2 m (G y)*b:=by
   have h:=hG y;cases e:G y with
   | none=>exact hm
   | some d =>
    rw [e] at h;have h:Least A s y d:=h;show _<(if d<m then d else m)*b
    split
    ·refine jU λc=>?_
     have:CC A t b u=true:=nearB_iff.mpr ⟨d,?_,by omega⟩
     ·rw [hn] at this; cases this
     ·rcases hs with ⟨rfl,rfl⟩ | ⟨rfl,rfl⟩
      ·exact h
      ·exact⟨OR ok h.1,λd' hd'=>h.2 d' (OR ok hd')⟩
    ·exact hm
  have pos:0<=C2 m (G y):=(Qn hm0 (Ny ok (hG y))).1
  have gap:GR (more+C2 m (G u.a) - (more+C2 m (G u.b)))=C2 m (G y):=by
   rcases hs with ⟨rfl,rfl⟩ | ⟨rfl,rfl⟩
   ·rw [start]; unfold GR; split <;> omega
   ·rw [start]; unfold GR; split <;> omega
  rw [gap];exact far
theorem PapGK.snoc{k:Nat}{N:Net}{t b:Int}{u:A2}{row:D}:∀{pre kept:List A2} {rs:List D},PapGK k N t b kept pre rs->Ib k (sub N (Ag N t b kept pre)) t b u row->PapGK k N t b kept (pre++[u]) (rs++[row])
 | [],kept,[],_,h=>⟨h,trivial⟩
 | v::pre,kept,r::rs,h,h2=>⟨h.1,PapGK.snoc h.2 (by rw [← Bx [v]]; exact h2)⟩
 | [],_,_::_,h,_=>h.elim
 | _::_,_,[],h,_=>h.elim
theorem PapGK.up{k m:Nat}(hk:k<=m){N:Net}{t b:Int}:∀{kept us:List A2} {rs:List D},PapGK k N t b kept us rs->PapGK m N t b kept us rs
 | _,[],[],_=>trivial
 | _,u::us,r::rs,h=>⟨h.1.imp id fun⟨a,w,d,e,⟨w1,w2,w3,w4,w5⟩,c⟩=>⟨a,w,d,e,⟨w1,w2,w3,de w4 hk,w5⟩,c⟩,PapGK.up hk h.2⟩
 | _,[],_::_,h=>h.elim
 | _,_::_,[],h=>h.elim
theorem PapGK.at{k:Nat}{N:Net}{t b:Int}{u:A2}{post:List A2}:∀{pre kept:List A2} {rs:List D},PapGK k N t b kept (pre++u::post) rs->∃row,rs[pre.length]?=some row/\Ib k (sub N (Ag N t b kept pre)) t b u row
 | [],_,r::_,h=>⟨r,rfl,h.1⟩
 | v::pre,kept,r::rs,h=>by
  obtain⟨row,h1,h2⟩:=PapGK.at h.2;exact⟨row,h1,by rw [show v::pre=[v]++pre from rfl,Bx]; exact h2⟩
 | [],_,[],h=>h.elim
 | _::_,_,[],h=>h.elim
section
variable {ss:List Slot}{n:Nat}{Pd:D->Nat->Prop}
theorem Ov(h:GL ss n Pd):En (EE Pd) n (ss++XV 2 .no):=by
 obtain⟨N,t,b,pre,post,u,row,rfl,okn,tm,hp,hr,hrow,p⟩:=h;have ok:=okn.1;have nd:(pre++u::post).Nodup:=hp.nodup_iff.mpr (BL ok.trise);have hu:u∈N.ts:=hp.subset (dG _ On);obtain⟨ha,hb,_⟩:=ok.tin u hu
 have key:decide (u∈(sub N (Ag N t b [] (pre++u::post))).ts)=!CC (sub N (Ag N t b [] pre)) t b u:=by
  rw [eG,decide_eq_true_eq,sub_mem,Hb nd,gc];exact⟨λh=>h.2,λh=>⟨hu,h⟩⟩
 unfold En;refine⟨_,AH (j:=1) rfl,HX ok hu,(Fd ok λv hv=>(sub_mem.mp hv).1).1,_,rfl,?_⟩;rw [GH,key]
 rcases hrow with ⟨hn,xs,rfl,_,hf,hlt⟩ | ⟨hn,w,d,rfl,hw,hle⟩
 ·rw [hn]
  refine⟨_,AH (j:=0) rfl,?_⟩;refine⟨sub N (Ag N t b [] (pre++u::post)),u,rfl,B_ okn _,?_⟩;rw [Ir nd hr];exact⟨_,AH (j:=1) rfl,sub N (Ag N t b [] pre),t,b,u,_,rfl,B_ okn _,tm,ha,hb,hf,hlt,p⟩
 ·rw [hn]
  refine⟨_,AH (j:=0) rfl,?_⟩;refine⟨sub N (Ag N t b [] (pre++u::post)),u,rfl,B_ okn _,?_⟩;rw [Ir nd hr];exact⟨_,AH (j:=1) rfl,sub N (Ag N t b [] pre),t,b,u,w,d,rfl,B_ okn _,tm,hw.up (by decide),hle,p⟩
theorem SX{k:Nat}{A:Net}{t b:Int}{u:A2}{row:D}(h:Ib k A t b u row):∃(s:Str) (y:D),row=.tup [.str s,y]/\(s = "in"\/s = "out"):=by
 rcases h with ⟨_,xs,rfl,_⟩ | ⟨_,w,d,rfl,_⟩
 ·exact⟨_,_,rfl,.inl rfl⟩
 ·exact⟨_,_,rfl,.inr rfl⟩
theorem PapGK.shape{k:Nat}{N:Net}{t b:Int}:∀{kept us:List A2} {rs:List D},PapGK k N t b kept us rs->∀r∈rs,∃(s:Str) (y:D),r=.tup [.str s,y]/\(s = "in"\/s = "out")
 | _,[],[],_=>λr hr=>absurd hr dB
 | _,u::us,r::rs,h=>λx hx=>(T0.mp hx).elim (λe=>by rw [e]; exact SX h.1) (PapGK.shape h.2 x)
 | _,[],_::_,h=>h.elim
 | _,_::_,[],h=>h.elim
theorem QJ(h:F7 ss n Pd):FJ (EE Pd) n (ss++XV 3 .no):=by
 obtain⟨N,t,b,ord,rs,rfl,okn,l24,tm,hp,hr,hpap,p⟩:=h;have ok:=okn.1;have okm:=B_ okn (Ag N t b [] ord);have ht:=MN okn (Ag N t b [] ord);have l60:=okn.2.2;have sz:=ND okm;have szl:=PySem.sizeLine_eq;have hlen:=hpap.len;have hol:=hp.length_eq;unfold FJ;refine⟨N,enc (sub N (Ag N t b [] ord)),rfl,ok,l24,l60,(MZ (by decide) _).1 _ (Sc _) sz.1,by have:=sz.2.1; omega,by have:=sz.2.2; omega,?_⟩;rw [show thinB N (enc (sub N (Ag N t b [] ord)))=true from ht.thinB];refine BV ⟨_,AH (j:=1) rfl,_,_,rfl,rfl,_,_,rfl,?_⟩;show if (!((rs.length:Int)==((N.ts.map Aj).length:Int)))=true then _ else _
 rw [Go,hlen,hol,beq_self_eq_true];refine BV ⟨by omega,?_⟩;refine Av (λ_=>.bl true) (λρ=>∃s,ρ=[s]) _ _ _ _ ?_ ⟨_,rfl⟩ ?_
 ·rintro d hd ρ n' nx ⟨s,rfl⟩ hnx
  obtain⟨s,y,rfl,hs⟩:=hpap.shape d hd;exact⟨s,y,rfl,hs,hnx _ ⟨_,rfl⟩⟩
 rw [dE];refine⟨_,_,rfl,Fq (λ_=>true) rs,?_⟩;show if (!((rs.map λ_=>true).all id))=true then _ else _
 rw [show ((rs.map λ_=>true).all id)=true from dU.mpr λx hx=>by obtain⟨_,_,rfl⟩:=Re.mp hx; rfl];refine BV ⟨_,AH (j:=1) rfl,_,N.ts,rfl,rfl,by omega,λord' o1 o2=>⟨_,rfl,?_⟩⟩;obtain rfl:=C6 (o1.trans hp.symm) o2 hr
 have go:∀(us pre:List A2) (rs1 rs2:List D) (s4 s5 s6:Slot),pre++us=ord'->rs1++rs2=rs->rs1.length=pre.length->Tr N t b (Ag N t b [] pre) us rs2 ->
   Be (DJ 2 (Ao (Ad 4) (Ao (Ad 5) Bu))) Yq { EE Pd with nx:=Aq (wC (D.bl true)) (EE Pd) } (EB rs1.length (us.map Aj)) n [.sh (enc N),.sh (NA t b),.sh (enc (sub N (Ag N t b [] ord'))),.sh (.tup rs),s4,s5,s6]:=by
  intro us
  induction us with
  | nil=>intro pre rs1 rs2 s4 s5 s6 _ _ _ _; exact p
  | cons u us ih =>
   intro pre rs1 rs2 s4 s5 s6 e1 e2 e3 hk
   match rs2,hk with
   | row::rs2,⟨hrow,hk⟩ =>
    have hat:rs[rs1.length]?=some row:=by rw [← e2,eQ (Sc _),ic]; rfl
    unfold Yq;refine⟨rfl,rfl,_,AH hat,N,t,b,pre,us,u,row,by rw [e1],okn,tm,by rw [e1]; exact o1,by rw [e1]; exact o2,hrow,⟨rfl,?_⟩⟩
    have:=ih (pre++[u]) (rs1++[row]) rs2 (.sh (.int (rs1.length:Int))) (.sh (Aj u)) (.sh .non) (by rw [dg]; exact e1) (by rw [dg]; exact e2) (by rw [c9,c9,e3]; rfl) (by rw [Bx]; exact hk)
    rw [c9,dR] at this;exact this
 exact go ord' [] [] rs _ _ _ rfl rfl rfl hpap
theorem Mm{l t b:Int}(b1:1<=b):l*t<(l*t / b+1)*b:=Int.lt_ediv_add_one_mul_self (l*t) (by omega)
theorem Ou(h:GK ss n Pd):Em (EE Pd) n (ss++XV 4 .no):=by
 obtain⟨N,t,b,rfl,okn,tm,p⟩:=h;have tm':=tm;obtain⟨b1,b2,t1,t2⟩:=tm';have ok:=okn.1;have l60:=okn.2.2;have l25:=okn.2.1;have szl:=PySem.sizeLine_eq;unfold Em;refine⟨N,t,b,rfl,okn,b1,b2,t1,t2,λord o1 o2=>?_⟩;have hol:=o1.length_eq;refine⟨z0,_,AH (j:=1) rfl,_,N.ts,rfl,rfl,by omega,λord' q1 q2=>?_⟩;obtain rfl:=C6 (q1.trans o1.symm) q2 o2;have nd:ord'.Nodup:=o1.nodup_iff.mpr (BL ok.trise)
 have go:∀(us pre:List A2) (rs:List D) (s4 s5:Slot),pre++us=ord'->PapGK 30 N t b [] pre rs ->
   Be (Ad 4) Y5 { EE Pd with nx:=Aq (CF CB (AG (A4 3) AW)) (EE Pd) } (us.map Aj) n [.sh (enc N),.sh (NA t b),.sh (enc (sub N (Ag N t b [] ord'))),.ow (.lst rs),s4,s5]:=by
  intro us
  induction us with
  | nil =>
   intro pre rs s4 s5 e hk;rw [dX] at e;exact p ord' rs o1 o2 (e▸hk)
  | cons u us ih =>
   intro pre rs s4 s5 e hk;have hu:u∈N.ts:=o1.subset (by rw [← e]; exact dG _ On);obtain⟨ha,hb,_,l1,l2⟩:=ok.tin u hu;have e':pre++[u]++us=ord':=by rw [dg]; exact e
   have hrl:rs.length<sizeLine:=by
    have h1:=hk.len;have h2:=congrArg fN e;rw [c9,c6] at h2;omega
   have key:decide (u∈(sub N (Ag N t b [] ord')).ts)=!CC (sub N (Ag N t b [] pre)) t b u:=by
    rw [← e] at nd ⊢;rw [eG,decide_eq_true_eq,sub_mem,Hb nd,gc];exact⟨λh=>h.2,λh=>⟨hu,h⟩⟩
   unfold Y5;refine⟨sub N (Ag N t b [] ord'),u,rfl,B_ okn _,?_⟩
   have ea:(⟨(sub N (Ag N t b [] ord')).ps,(sub N (Ag N t b [] ord')).ts.filter λv=>BJ (Bn v) (Bn u)⟩:Net)=sub N (Ag N t b [] pre):=by
    rw [← e] at nd o2 ⊢;exact Ir nd o2
   rw [ea];refine⟨_,AH (j:=1) rfl,HX ok hu,(Fd ok λv hv=>(sub_mem.mp hv).1).1,_,rfl,?_⟩;rw [GH,key];have okA:=B_ okn (Ag N t b [] pre);cases hn:CC (sub N (Ag N t b [] pre)) t b u with
   | false =>
    refine⟨_,rfl,rfl,_,AH (j:=0) rfl,_,AH (j:=2) rfl,t,b,u.len,rfl,tm,sub N (Ag N t b [] pre),u.a,u.len*t / b+1,rfl,okA,ha,λF hF=>⟨z2,_,_,rfl,rfl,hrl,?_⟩⟩;have e0:0<=u.len*t / b:=Int.ediv_nonneg (i6 (by omega) (by omega)) (by omega);have e1:u.len*t / b<=u.len*t:=Int.ediv_le_self _ (i6 (by omega) (by omega));have e2:u.len*t<=1000000*1000000:=Int.mul_le_mul l2 t2 (by omega) (by omega);have row:=VL (k:=30) okA tm ha hb (by omega) hn (.inl ⟨rfl,rfl⟩) (G:=λx=>(F x).map (·.1)) hF.far (m:=u.len*t / b+1) (more:=0) (by omega) (by omega) (Mm b1) (gI _) (by decide)
    have er:((sub N (Ag N t b [] pre)).ps.map λx=>(0:Int)+C2 (u.len*t / b+1) ((F x).map (·.1))).map D.int=(sub N (Ag N t b [] pre)).ps.map λx=>.int (C2 (u.len*t / b+1) ((F x).map (·.1))):=by
     rw [eF];refine gv λx _=>?_;show D.int (0+_)=_;rw [Int.zero_add]
    rw [er] at row;exact ih (pre++[u]) _ _ _ e' (hk.snoc row)
   | true =>
    refine⟨_,rfl,rfl,_,AH (j:=0) rfl,_,AH (j:=1) rfl,sub N (Ag N t b [] pre),u.a,u.b,rfl,okA,ha,hb,λo ho=>?_⟩;obtain⟨d,hd,hle⟩:=nearB_iff.mp hn;cases o with
    | none=>exact absurd hd.1 (ho d)
    | some w =>
     obtain⟨d',r,rfl,hw1,hw2,hw3,hw4,hw5⟩:=ho;have ed:d'=d:=hw3.unique hd;subst ed;refine⟨z2,_,_,rfl,rfl,hrl,ih (pre++[u]) _ _ _ e' (hk.snoc (.inr ⟨hn,u.a::r,d',rfl,⟨⟨r,rfl⟩,hw1,hw2,hw4,hw5⟩,hle⟩))⟩
 exact go ord' [] [] _ _ rfl trivial
end
def Yl(M:Net)(us:List A2):D:=.tup [.tup (M.ps.map .str),.lst (us.map Aj)]
def UP(M:Net)(us:List A2):Prop:=(∀v,v∈us↔v∈M.ts)/\us.length<=60
def IE:W2:=λss n P=>∃(M:Net) (us:List A2) (x:Str) (r:List Str) (d:Int),ss=[.sh (Yl M us),.sh (Lq (x::r))]/\M.Ok/\UP M us/\walk M (x::r) d/\(∀z∈x::r,z∈M.ps)/\r.length<=1000/\P (.int d) n
theorem Wd{M:Net}(ok:M.Ok){us:List A2}(h:∀v,v∈us↔v∈M.ts){x y:Str}{l:Int}(he:Ed M x y l):look us x y=some l:=by
 have tr:∀q,q∈DR us x↔q∈DR M.ts x:=λq=>by
  unfold DR;rw [fZ,fZ];exact⟨fun⟨t,h1,h2⟩=>⟨t,(h t).mp h1,h2⟩,fun⟨t,h1,h2⟩=>⟨t,(h t).mpr h1,h2⟩⟩
 unfold look;cases e:(DR us x).find? λz=>decide (z.1=y) with
 | none=>exact absurd (List.find?_eq_none.mp e (y,l) ((tr _).mpr he)) (by simp)
 | some q =>
  have e1:q.1=y:=of_decide_eq_true (jp (p:=λz:Str×Int=>decide (z.1=y)) e);rw [Gz (MS ok x) ((tr _).mp (gz e)) he e1];rfl
theorem VC{x:Str}(h:EA x):Ci (.str x):=CU (B:=1000001) (by decide) (Cb h).1 (dD _)
section
variable {ss:List Slot}{n:Nat}{Pd:D->Nat->Prop}
theorem Sb(h0:IE ss n Pd):Qt (EE Pd) n (ss++XV 5 .no):=by
 obtain⟨M,us,y,r,d,rfl,ok,⟨hus,hul⟩,hw,hin,hrl,p⟩:=h0;obtain⟨ys,hys⟩:∃ys,y::r=ys:=⟨_,rfl⟩;rw [hys] at hw hin ⊢;have hlay:∀z∈ys,Ci (.str z):=λz hz=>VC (ok.names z (hin z hz));have hll:(ys.map D.str).length=r.length+1:=by rw [Go,← hys]; rfl
 refine⟨_,_,rfl,rfl,?_⟩;show if (((ys.map D.str).length:Int)==0)=true then _ else _
 rw [show (((ys.map D.str).length:Int)==0)=false from beq_eq_false_iff_ne.mpr (by omega)];refine BV ⟨by omega,?_⟩;refine Av (λd=>.bl (Dt d)) (λρ=>∃s,ρ=[s]) _ _ _ _ ?_ ⟨_,rfl⟩ ?_
 ·rintro d hd ρ m nx ⟨s,rfl⟩ hnx
  have:=hnx [.sh d] ⟨_,rfl⟩
  cases d <;> exact this
 rw [dE];refine C8 ?_;show if (!(ys.map D.str).all Dt)=true then _ else _
 rw [all_strs];refine BV ⟨by omega,?_⟩;refine Av (λ_=>.bl true) (λρ=>∃s,ρ=[.sh (Yl M us),s]) _ _ _ _ ?_ ⟨_,rfl⟩ ?_
 ·rintro d hd ρ m nx ⟨s,rfl⟩ hnx
  obtain⟨z,hz,rfl⟩:=Re.mp (show d∈ys.map D.str from hd);refine⟨_,AH (j:=0) rfl,hlay z hz,Cz ok.names,_,rfl,?_⟩;rw [show ((M.ps.map D.str).any λu=>GF u (.str z))=true from ef.mpr ⟨.str z,Re.mpr ⟨z,hin z hz,rfl⟩,beq_self_eq_true _⟩];exact hnx _ ⟨_,rfl⟩
 rw [dE];refine C8 (p:=λ_=>true) ?_;rw [if_neg dH,dU.mpr λ_ _=>rfl];refine BV ⟨_,_,rfl,rfl,_,_,rfl,⟨by decide,by decide,by omega,by omega⟩,?_⟩;have hne:∀t∈us,t.a≠t.b:=λt ht e=>by have:=(ok.tin t ((hus t).mp ht)).2.2.1; rw [e] at this; exact fE _ this
 have elen:((ys.map D.str).length:Int) - 1=(r.length:Int):=by omega
 have hyl:ys.length=r.length+1:=by rw [← hys]; rfl
 refine DX (all:=Cd 1 (((ys.map D.str).length:Int) - 1).toNat) (λpre m ρ=>∃(x:Str) (rest:List Str) (s e:Int) (s3 s4 s5 s6:Slot),ys.drop pre.length=x::rest/\m=n/\walk M (x::rest) e/\s+e=d/\ρ=[.sh (Yl M us),.sh (.tup (ys.map .str)),.sh (.int s),s3,s4,s5,s6]) ?_ ?_ _ [] _ _ rfl ⟨y,r,0,d,_,_,_,_,hys.symm,rfl,hys▸hw,Int.zero_add _,rfl⟩
 ·rintro m ρ ⟨x,rest,s,e,s3,s4,s5,s6,hd,rfl,hwk,hse,rfl⟩
  rw [Br,elen] at hd
  have:=congrArg fN hd
  rw [fm,hyl,c6] at this;have hr:rest=[]:=fk.mp (by omega);rw [hr] at hwk;have he:e=0:=hwk;rw [he,Int.add_zero] at hse;rw [hse];exact p
 ·rintro pre d' post m ρ nx hall ⟨x,rest,s,e,s3,s4,s5,s6,hd,rfl,hwk,hse,rfl⟩ hnx
  obtain⟨rfl,hk⟩:=Jq hall;rw [elen] at hk;have hlen:=congrArg fN hd;rw [fm,hyl,c6] at hlen;cases rest with
  | nil=>rw [e6] at hlen; omega
  | cons z rest =>
   obtain⟨l,e',hed,hwk',rfl⟩:=hwk;rw [c9,dR] at hnx;have hd2:ys.drop (pre.length+1)=z::rest:=by rw [← List.drop_drop,hd]; rfl
   have hx:x∈ys:=gn (i:=pre.length) (by rw [hd]; exact On);have hz:z∈ys:=gn (i:=pre.length) (by rw [hd]; exact Rs _ On);have ec:=W_ hd;show DJ 2 (Ao (Ad 4) (Ao (Ad 5) Bu)) (D.tup (Dp.cutD (ys.map D.str) (some (1+(pre.length:Int) - 1)) (some (1+(pre.length:Int)+1)))) _ _;rw [ec];refine⟨rfl,rfl,?_⟩;refine⟨.lst (us.map Aj),AH (j:=1) rfl,by rw [Go]; omega,?_⟩;refine HV (Fg x z) Wf (λρ=>∃s,ρ=[.sh (.str x),.sh (.str z),s]) _ _ _ _ ?_ ⟨_,rfl⟩ ?_
   ·rintro d hd ρ m nx sk ⟨s,rfl⟩ h1 h2
    obtain⟨t,ht,rfl⟩:=Re.mp hd;obtain⟨m1,m2,_⟩:=ok.tin t ((hus t).mp ht)
    have l2:Ci (.tup [.str t.a,.str t.b]):=Cz (ps:=[t.a,t.b]) λp hp=>by
     simp only [T0,dB,or_false] at hp
     rcases hp with rfl | rfl
     ·exact ok.names _ m1
     ·exact ok.names _ m2
    have k1:=h1 [.sh (.str x),.sh (.str z),.sh (Aj t)] ⟨_,rfl⟩;have k2:=h2 [.sh (.str x),.sh (.str z),.sh (Aj t)] ⟨_,rfl⟩;have ej:Fg x z (Aj t)=(!(x==z)&&((t.a==x||t.b==x)&&(t.a==z||t.b==z))):=rfl;have a1:∀x:Str,([D.str t.a,D.str t.b].any λu=>GF u (.str x))=(t.a==x||t.b==x):=λx=>by show (t.a==x||(t.b==x||false))=_; rw [kC]
    rw [ej] at k1 k2;show if (!(x==z))=true then _ else _
    cases e1:(x==z) with
    | true=>rw [e1] at k2; exact BV (BV (k2 rfl))
    | false =>
     refine B3 ⟨hlay x hx,l2,_,rfl,?_⟩;show if ([D.str t.a,D.str t.b].any λu=>GF u (.str x))=true then _ else _
     rw [a1];cases e2:(t.a==x||t.b==x) with
     | false=>rw [e1,e2] at k2; exact BV (BV (k2 rfl))
     | true =>
      refine B3 ⟨hlay z hz,l2,_,rfl,?_⟩;show if ([D.str t.a,D.str t.b].any λu=>GF u (.str z))=true then _ else _
      rw [a1];cases e3:(t.a==z||t.b==z) with
      | false=>rw [e1,e2,e3] at k2; exact BV (k2 rfl)
      | true=>rw [e1,e2,e3] at k1; exact B3 ⟨_,AH (j:=2) rfl,k1 rfl⟩
   ·rw [dE]
    have hj:=K7 (x:=x) (y:=z) hne;rw [Wd ok hus hed] at hj
    have hfine:∀d∈((us.map Aj).filter (Fg x z)).map Wf,Fi 1000000 d/\Qk d<=0:=λd hd=>by
     obtain⟨e,he,rfl⟩:=Re.mp hd;obtain⟨t,ht,rfl⟩:=Re.mp (gQ.mp he).1;obtain⟨_,_,_,m3,m4⟩:=ok.tin t ((hus t).mp ht);exact⟨by show t.len.natAbs<=1000000; omega,Sc _⟩
    generalize ((us.map Aj).filter (Fg x z)).map Wf=L at hj hfine;have hd0:Hk L<=0:=dps_le.mpr λd hd=>(hfine d hd).2;refine⟨z0,CU (B:=1000000) (by decide) (fines_iff.mpr λd hd=>(hfine d hd).1) (by show Hk L+1<=100; omega),⟨rfl,rfl,by decide⟩,?_⟩;cases L with
    | nil=>cases hj
    | cons a L =>
     cases hj;exact BV ⟨_,AH (j:=0) rfl,hnx _ _ ⟨z,rest,s+l,e',_,_,_,_,hd2,rfl,hwk',by omega,rfl⟩⟩
end
end Nt
set_option maxHeartbeats 4000000
namespace Dp
open L2
end Dp
namespace L2
end L2
namespace Dp
open L2
section
variable {a:Expr}
mutual
theorem At.frz{K:Frag}{M:Ch->Prop}{H:Hp}{a:Ch}{f:Ch->Obj}{kvs:List (Key×V)}(ha:H a=some (.dK kvs)):∀{d:D} {v:V},GV d=true->At K M H d v->At K M (G3 H [a] f) d v
 | .non,v,_,h=>h
 | .bl b,v,_,h=>h
 | .int i,v,_,h=>h
 | .str x,v,_,h=>h
 | .tup ds,v,hn,h=>by
  obtain⟨b,vs,e,n2,hs⟩:=h;refine⟨b,vs,e,?_,Ats.frz ha hn hs⟩;unfold NdT at n2 ⊢;rw [Eh λz=>by rw [TM.mp z,ha] at n2; cases n2];exact n2
 | .lst ds,v,hn,h=>by
  obtain⟨b,vs,e,⟨n1,n2⟩,hs⟩:=h;refine⟨b,vs,e,⟨n1,?_⟩,Ats.frz ha hn hs⟩;rw [Eh λz=>by rw [TM.mp z,ha] at n2; cases n2];exact n2
 | .dic _ _,v,hn,h=>by cases hn
 | .fdi _ _,v,hn,h=>by cases hn
 | .dit _ _,v,hn,h=>by cases hn
theorem Ats.frz{K:Frag}{M:Ch->Prop}{H:Hp}{a:Ch}{f:Ch->Obj}{kvs:List (Key×V)}(ha:H a=some (.dK kvs)):∀{ds:List D} {vs:List V},Cu ds=true->Ats K M H ds vs->Ats K M (G3 H [a] f) ds vs
 | [],vs,_,h=>h
 | d::ds,vs,hn,h=>by
  obtain⟨v,r,e,h1,h2⟩:=h;have hn:(GV d&&Cu ds)=true:=hn;rw [UF] at hn;exact⟨v,r,e,At.frz ha hn.1 h1,Ats.frz ha hn.2 h2⟩
end
end
end Dp
namespace L2
open PySem.W
end L2
namespace Dp
open L2
end Dp
namespace Nt
open L2 Dp
end Nt
namespace L2
end L2
namespace Dp
open L2
end Dp
namespace L2
open PySem.W
end L2
namespace Dp
open L2
end Dp
namespace L2
open PySem.W
end L2
namespace Dp
open L2
end Dp
namespace Nt
open L2 Dp
section
structure cv (xs:List Str) (ks:List (List Key)) (ds:List D):Prop where
 len:ks.length=ds.length
 nd:ks.Nodup
 key:∀k∈ks,∃a b:Str,k=[.inr a,.inr b]/\a∈xs/\b∈xs/\cs a<cs b
 val:∀d∈ds,∃l:Int,d=.int l/\1<=l/\l<=1000000
end
abbrev Mx:=Nat->Nat->Option Int
inductive WI (E:Nat->Nat->Int->Prop) (m i:Nat):Nat->Int->Prop
 | nil:WI E m i i 0
 | one {j:Nat} {l:Int}:E i j l->WI E m i j l
 | snoc {k j:Nat} {d l:Int}:WI E m i k d->k<m->E k j l->WI E m i j (d+l)
section
variable {E A:Nat->Nat->Int->Prop}{n m i j a b:Nat}{d:Int}{g g0:Mx}
structure Fm (E A:Nat->Nat->Int->Prop) (n m:Nat) (g:Mx):Prop where
 snd:∀i j d,g i j=some d->A i j d
 cmp:∀i j d,i<n->j<n->WI E m i j d->∃d',g i j=some d'/\d'<=d
structure Rm (A:Nat->Nat->Int->Prop) (n m:Nat) (g0:Mx) (a b:Nat) (g:Mx):Prop where
 snd:∀i j d,g i j=some d->A i j d
 dec:∀i j d,g0 i j=some d->∃d',g i j=some d'/\d'<=d
 got:∀i j,j<n->(i<a\/(i=a/\j<b))->∀d1 d2,g0 i m=some d1->g0 m j=some d2->∃d',g i j=some d'/\d'<=d1+d2
end
def AI(N:Net)(i j:Nat)(d:Int):Prop:=∃x y,N.ps[i]?=some x/\N.ps[j]?=some y/\Wk N x y d
theorem Yy{N:Net}(ok:N.Ok){i j:Nat}{x:Str}(h1:N.ps[i]?=some x)(h2:N.ps[j]?=some x):i=j:=by
 exact K4 (HL ok.rise) h1 h2
theorem Xi{N:Net}{x:Str}(h:x∈N.ps):∃i,N.ps[i]?=some x/\i<N.ps.length:=by
 obtain⟨i,l,e⟩:=io.mp h;exact⟨i,by rw [FM l,e],l⟩
structure Tm (N:Net) (ts:List A2) (g:Mx):Prop where
 snd:∀i j d,g i j=some d->AI N i j d
 dia:∀i,i<N.ps.length->∃d,g i i=some d/\d<=0
 tie:∀t∈ts,∀i j,N.ps[i]?=some t.a->N.ps[j]?=some t.b->g i j=some t.len/\g j i=some t.len
def ov:Option Int->V
 | none=>.non
 | some l=>.int l
def bd(n:Nat)(g:Mx)(i:Nat):List V:=(dW n).map λj=>ov (g i j)
structure cy (H:Hp) (d:Ch) (as:List Ch) (n:Nat) (g:Mx) (H':Hp):Prop where
 old:∀b o,H b=some o->H' b=some o
 new:H d=none
 top:H' d=some (.lst (as.map .ref))
 inn:∀i a,as[i]?=some a->H a=none/\a≠d/\H' a=some (.lst (bd n g i))
end Nt
namespace L2
open PySem.W
structure cw (prog:dZ) (w:dh) (A:eC) (I d:Ch) (n:Nat) (base:dL) (key:Nat->Ch) (val:Nat->Ev) (ch:Ch->Prop) (St:Nat->dL->Prop):Prop where
 new:∀b,ch b->base.get? b=none
 item:∀(i:Nat) (s:Op) (Q:Option Ev->Op->Prop) (E:Ev->Op->Prop),i<n->St i s.heap->(∀b o,base.get? b=some o->s.heap.get? b=some o)->(∃o,s.heap.get? d=some o) ->
  (∀h' tk a o c,h'.get? a=some o->o.cls=.type "tuple"->o.data=.seq #[.ref (key i),val i] c->St (i+1) h'->(∀b o,¬ch b->s.heap.get? b=some o->h'.get? b=some o)->Q (some (.ref a)) { s with heap:=h',toks:=tk })->wpAny (model prog w) A (pyNext (.ref I)) Q E s
 done:∀(s:Op) (Q:Option Ev->Op->Prop) (E:Ev->Op->Prop),St n s.heap->(∀b o,base.get? b=some o->s.heap.get? b=some o)->(∀h' tk,(∀b o,¬ch b->s.heap.get? b=some o->h'.get? b=some o)->Q none { s with heap:=h',toks:=tk })->wpAny (model prog w) A (pyNext (.ref I)) Q E s
 frame:∀i h h',St i h->g8 d h h'->St i h'
 dch:¬ch d
end L2
namespace Dp
open L2
end Dp
namespace L2
end L2
namespace Dp
open L2
end Dp
namespace Nt
open L2 Dp
inductive Cn (K:List A2) (x:Str):Str->Prop
 | refl:Cn K x x
 | step {y z:Str}:Cn K x y->(∃t∈K,(t.a=y/\t.b=z)\/(t.b=y/\t.a=z))->Cn K x z
section
structure cx (N:Net) (ks:List Key) (ds:List D) (F:Str->Option Str):Prop where
 m:Dmap ks ds D.str F
 i:∀x,F x≠none->x∈N.ps
end
end Nt
namespace L2
end L2
namespace Dp
open L2
end Dp
namespace Nt
open L2 Dp
def tj(t:A2)(x y:Str):Prop:=(t.a=x/\t.b=y)\/(t.b=x/\t.a=y)
inductive Us (K:List A2) (x:Str):Str->Nat->Prop
 | nil:Us K x x 0
 | snoc {y z:Str} {n:Nat} {t:A2}:Us K x y n->t∈K->tj t y z->Us K x z (n+1)
def firm(N:Net)(t b:Int)(L:List A2):Prop:=∀pre z post,L=pre++z::post->¬U8 (sub N pre) t b z
theorem keepL_sublist{N:Net}{t b:Int}:∀{rest kept:List A2},(Ag N t b kept rest).Sublist (kept++rest)
 | [],kept=>by rw [dX]; exact kP _
 | u::r,kept=>by
  rw [B6]
  split
  ·exact keepL_sublist.trans ((kP kept).append (List.sublist_cons_self _ _))
  ·have:=keepL_sublist (N:=N) (t:=t) (b:=b) (rest:=r) (kept:=kept++[u])
   rw [dg] at this;exact this
structure Kept (N:Net) (t b:Int) (L:List A2):Prop where
 ok:okN N
 firm:firm N t b L
 ins:∀u∈L,u∈N.ts
 up:L.Pairwise λu v=>u.len<=v.len
 b1:1<=b
end Nt
namespace L2
open PySem.W
end L2
namespace Dp
open L2
end Dp
namespace Nt
open L2 Dp
def UG(N:Net):List Str->List A2->Prop
 | x::y::r,us=>∃t us',us=t::us'/\t∈N.ts/\((t.a=x/\t.b=y)\/(t.b=x/\t.a=y))/\UG N (y::r) us'
 | [_],us=>us=[]
 | [],_=>False
abbrev cR:=List (A2×List Str)
def Xv(N:Net)(ts os:List A2):Prop:=os.Perm (N.ts.filter λt=>decide (t∉ts))/\Ck os
def Ye(k:Nat)(N1:Net)(T:cR):Prop:=∀p∈T,∃r us,p.2=p.1.a::r/\UG N1 p.2 us/\p.2.length<=k/\∀x∈p.2,x∈N1.ps
abbrev Xf:=Ye 500
structure c0 (N:Net) (ts1 ts2:List A2) (T1 T2:cR):Prop where
 ok:N.Ok
 lp:N.ps.length<=24
 lt:N.ts.length<60
 s1:ts1.Sublist N.ts
 s2:ts2.Sublist ts1
 o1:Xv N ts1 (T1.map (·.1))
 o2:Xv ⟨N.ps,ts1⟩ ts2 (T2.map (·.1))
 p1:Xf ⟨N.ps,ts1⟩ T1
 p2:Xf ⟨N.ps,ts2⟩ T2
section
theorem Rb{N:Net}(ok:N.Ok){i:Nat}{x:Str}(hi:N.ps[i]?=some x):Ci (.tup (N.ps.map .str))/\Ci (.str x)/\(∃z,(N.ps.map D.str)[i]?=some z/\GF z (.str x)=true)/\∀(m:Nat) z,m<i->(N.ps.map D.str)[m]?=some z->GF z (.str x)=false:=by
 refine⟨Cz ok.names,Fe (ok.names x (eo hi)),⟨.str x,by rw [dC,hi]; rfl,by rw [Jx,beq_self_eq_true]⟩,λm z hm hz=>?_⟩;rw [dC] at hz;obtain⟨y,hy,rfl⟩:=d6.mp hz;rw [Jx,beq_eq_false_iff_ne];intro e;subst e
 have:=Yy ok hy hi
 omega
end
end Nt
set_option maxHeartbeats 400000
namespace Nt
open L2 Dp
def IG:W2:=λss n P=>∃(M:Net) (us:List A2) (p:List Int),ss=[.sh (.tup (M.ps.map .str)),.sh (.lst (us.map Aj)),.sh (.tup (p.map .int))]/\okN M/\UP M us/\LG M (.tup (p.map .int))=true/\(∀x∈p,x<=10 ^ 40)/\P (.bl true) n
def kOk(N:Net)(kept:List A2):Prop:=(∀v∈kept,v∈N.ts)/\kept.length<=60
def J9:W2:=λss n P=>∃(N:Net) (t b:Int) (kept:List A2) (u:A2) (row:D),ss=[.sh (enc N),.sh (NA t b),.sh (.lst (kept.map Aj)),.sh (Aj u),.sh row]/\okN N/\SM t b/\kOk N kept/\u∈N.ts/\UQ (sub N kept) t b u row/\P .non n
def KG:W2:=λss n P=>∃(N:Net) (t b:Int) (ord:List A2) (rs:List D),ss=[.sh (enc N),.sh (NA t b),.sh (enc (sub N (Ag N t b [] ord))),.sh (.tup rs)]/\okN N/\N.ps.length<=24/\SM t b/\ord.Perm N.ts/\Ck ord/\Tr N t b [] ord rs/\P .non n
def KD:W2:=λss n P=>∃(N:Net) (t b:Int) (kept:List A2) (u:A2),ss=[.fd,.sh (enc N),.sh (NA t b),.br (.lst (kept.map Aj)),.sh (Aj u)]/\okN N/\SM t b/\kOk N kept/\u∈N.ts/\CC (sub N kept) t b u=false/\2<=n/\∀row,UQ (sub N kept) t b u row->P row (n - 2)
def KC:W2:=λss n P=>∃(N:Net) (t b:Int) (kept:List A2) (u:A2) (w:List Str) (d:Int),ss=[.sh (enc N),.sh (NA t b),.sh (.lst (kept.map Aj)),.sh (Aj u),.sh (Lq w)]/\okN N/\SM t b/\kOk N kept/\u∈N.ts/\walkedK 30 (sub N kept) u.a u.b w d/\d*b<=u.len*t/\∀(w':List Str) (d':Int),walkedK 100 (sub N kept) u.a u.b w' d'->d'*b<=u.len*t->P (Lq w') n
def Eu:Ai:=(Ac (BA (Cp (Bh (AU (Ey "tuple" (AB 2)))) (AU (AS (G6 true) (CF D7 (AG (AB 2) AW)) (CF D7 (AG (AB 0) AW))))) (Aq (wC (D.bl false))) Ar)
 (Ac (BA (AU (AS (DF false) (wC (D.bl false)) (BU [none] (BF (AB 2)) (Ad 0) Bm (AY IF (AD (AL (AB 0)) (AD (AL (wC (D.int 0))) (AD (AL (AS (OO Jm λi j=>D.int (i ^ j.toNat)) (wC (D.int 10)) (wC (D.int 45)))) AZ))))))) (Aq (wC (D.bl false))) Ar)
 (Ac (A0 3 (CF VU (AG (BU [some 0,some 2,none] (Eb (AG (CF D7 (AG (AB 2) AW)) AW)) (Ad 2) Bm (Bg (AG (AS Ax (AB 0) (AB 2)) (AG (AS Ax (AB 1) (AB 2)) AW)))) AW)))
 (Aq (AS (DF true) (wC (D.bl false)) (BU [some 3,none,none,none] (BF (AB 1)) (DJ 3 (Ao (Ad 1) (Ao (Ad 2) (Ao (Ad 3) Bu)))) Bm (AS N0 (CF VW (AG (AS Hf (AS CH (AB 0) (AB 1)) (AS CH (AB 0) (AB 2))) AW)) (AB 3))))))))
def Ep:Ai:=(Ac (A0 5 (AS Ax (AB 0) (wC (D.int 0))))
 (Ac (BA (AU (AS (G6 false) (AS Ax (AB 4) (wC (D.int 0))) (wC (D.str "out")))) (Ac (A0 6 (AY IE (AD (AL (Bg (AG (AB 5) (AG (AB 2) AW)))) (AD (AL (AS Ax (AB 4) (wC (D.int 1)))) AZ))))
 (Ac (BA (Cp (AU (AS (GQ false) (AB 6) (wC D.non))) (Cp (AU (AS (G6 true) (AS Ax (AS Ax (AB 4) (wC (D.int 1))) (wC (D.int 0))) (AS Ax (AB 3) (wC (D.int 0))))) (AU (AS (G6 true) (AS Ax (AS Ax (AB 4) (wC (D.int 1))) (X5 (wC (D.int 1)))) (AS Ax (AB 3) (wC (D.int 1))))))) (Aq (wC (D.str "way"))) Ar)
 (Aq (V1 (AU (AS (f2 λi j=>D.bl (decide (j<i))) (AS B7 (AB 6) (AS Ax (AB 1) (wC (D.int 1)))) (AS B7 (AS Ax (AB 3) (wC (D.int 2))) (AS Ax (AB 1) (wC (D.int 0)))))) (wC (D.str "far")) (wC D.non))))) Ar)
 (Ac (BA (Bh (AU (AY IG (AD (AL (AB 5)) (AD (AL (AB 2)) (AD (AL (AS Ax (AB 4) (wC (D.int 1)))) AZ)))))) (Aq (wC (D.str "fair"))) Ar)
 (Ac (Zp 7 8 (AG (T6 (AB 5) (AG (AS Ax (AB 3) (wC (D.int 0))) AW)) (AG (T6 (AB 5) (AG (AS Ax (AB 3) (wC (D.int 1))) AW)) AW)))
 (Ac (A0 9 (CF VW (AG (AS Hf (AS Ax (AS Ax (AB 4) (wC (D.int 1))) (AB 7)) (AS Ax (AS Ax (AB 4) (wC (D.int 1))) (AB 8))) AW)))
 (Aq (V1 (AU (AS (f2 λi j=>D.bl (decide (j<i))) (AS B7 (AB 9) (AS Ax (AB 1) (wC (D.int 1)))) (AS B7 (AS Ax (AB 3) (wC (D.int 2))) (AS Ax (AB 1) (wC (D.int 0)))))) (wC D.non) (wC (D.str "near")))))))))
def Ta:Ai:=(Ac (BA (AU (AS (G6 true) (AS (G6 false) (AS Ax (AS Ax (AB 3) (AB 6)) (wC (D.int 0))) (wC (D.str "in"))) (AS (DF false) (AB 7) (AS Ax (AB 2) (wC (D.int 1)))))) (Aq (Bg (AG (wC (D.str "word")) (AG (AB 6) AW)))) Ar)
 (Ac (A0 8 (T9 5 (AY J9 (AD (AL (AB 0)) (AD (AL (AB 1)) (AD (AL (AB 5)) (AD (AL (AB 7)) (AD (AL (AS Ax (AB 3) (AB 6))) AZ))))))))
 (Ac (BA (AU (AS (GQ true) (AB 8) (wC D.non))) (Aq (Bg (AG (AB 8) (AG (AB 6) AW)))) Ar)
 (BA (AU (AS (DF false) (AB 7) (AS Ax (AB 2) (wC (D.int 1))))) (Lr 5 "list" Ei (AG (AB 7) AW)) Ar))))
def Y4:Ai:=(Ac (BA (Cp (Bh (AU (Ey "tuple" (AB 4)))) (AU (AS (G6 true) (CF D7 (AG (AB 4) AW)) (wC (D.int 2))))) (Aq (Bg (AG (wC (D.str "shape")) (AG (wC (D.int 0)) AW)))) Ar)
 (BA (AU (AS (DF true) (CF JC (AG (AS Ax (AB 4) (wC (D.int 0))) AW)) (Bg (AG (wC (D.str "'in'")) (AG (wC (D.str "'out'")) AW))))) (Aq (Bg (AG (wC (D.str "shape")) (AG (wC (D.int 0)) AW)))) Ar))
def DP:Ai:=(Ac (BA (Cp (Bh (AU (AY JQ (AD (AL (AB 0)) (AD (AL (AB 2)) AZ))))) (Bh (AU (Ey "tuple" (AB 3))))) (Aq (Bg (AG (wC (D.str "shape")) (AG (wC (D.int 0)) AW)))) Ar)
 (Ac (BA (AU (AS (G6 true) (CF D7 (AG (AB 3) AW)) (CF D7 (AG (AS Ax (AB 0) (wC (D.int 1))) AW)))) (Aq (Bg (AG (wC (D.str "shape")) (AG (wC (D.int 0)) AW)))) Ar)
 (Ac (Ez (BF (AB 3)) (Ad 4) Y4)
 (Ac (DY 5 (FO AW))
 (Ac (Ez (Q2 (AY DK (AD (AL (AS Ax (AB 0) (wC (D.int 1)))) AZ))) (DJ 2 (Ao (Ad 6) (Ao (Ad 7) Bu))) Ta)
 (Aq (wC D.non)))))))
def Es:Ai:=(Ac (A0 5 (AS Ax (AB 1) (wC (D.int 0))))
 (Ac (A0 6 (AY D5 (AD (Cs (A4 3)) (AD (AL (AS Ax (AB 4) (wC (D.int 1)))) AZ))))
 (Ac (A0 7 (AS A7 (AS A7 (AS (OO Tt λi j=>D.int (i / j)) (AS B7 (AS Ax (AB 4) (wC (D.int 2))) (AS Ax (AB 2) (wC (D.int 0)))) (AS Ax (AB 2) (wC (D.int 1)))) (wC (D.int 1))) (AY Bl (AD (BS 0) (AD (AL (wC (D.int 9))) AZ)))))
 (Ac (A0 8 (AS B7 (AY Bl (AD (BS 0) (AD (AL (wC (D.int 3))) AZ))) (AS (OO Jm λi j=>D.int (i ^ j.toNat)) (wC (D.int 10)) (wC (D.int 20)))))
 (Aq (Bg (AG (wC (D.str "in")) (AG (CF CB (AG (BU [some 8,some 7,some 6,none] (BF (AB 5)) (Ad 3) Bm (AS A7 (AB 0) (CF Rj (AG (AB 1) (AG (OU (AB 2) (AB 3) (AB 1)) AW))))) AW)) AW))))))))
def Er:Ai:=(Ac (A0 5 (AS A7 (Py Fj (AB 4) CL (CY (wC (D.int 2)))) (AB 4)))
 (Ac (A0 6 (AY IE (AD (AL (Bg (AG (AS Ax (AB 0) (wC (D.int 0))) (AG (AB 2) AW)))) (AD (AL (AB 5)) AZ))))
 (Aq (V1 (AU (AS N0 (AS B7 (AB 6) (AS Ax (AB 1) (wC (D.int 1)))) (AS B7 (AS Ax (AB 3) (wC (D.int 2))) (AS Ax (AB 1) (wC (D.int 0)))))) (AB 5) (AB 4)))))
theorem kOk.same{N:Net}{kept:List A2}(h:kOk N kept):UP (sub N kept) kept:=⟨λv=>by rw [sub_mem]; exact⟨λz=>⟨h.1 v z,z⟩,λz=>z.2⟩,h.2⟩
theorem Qp{i j:Int}(h0:1<=j)(h1:j<=1000000):CMul i j:=.inr (by constructor <;> omega)
section
variable {ss:List Slot}{n:Nat}{Pd:D->Nat->Prop}
theorem QI(h:IG ss n Pd):Eu (EE Pd) n (ss++XV 1 .no):=by
 obtain⟨N,us,p,rfl,okn,⟨hus,hul⟩,hf,htop,q⟩:=h;have ok:=okn.1;have l25:=okn.2.1;obtain⟨hl,hg⟩:=Nz hf;have hall:=(UF _ _▸hf:_/\_).2
 have hfi:∀d∈p.map D.int,Fi (10 ^ 40) d:=λd hd=>by
  obtain⟨x,hx,rfl⟩:=Re.mp hd;have h1:0<=x:=of_decide_eq_true (hg _ hd);have h2:=htop x hx;show x.natAbs<=10 ^ 40;omega
 generalize p.map D.int=xs at hl hg hall hfi;unfold Eu;refine⟨_,_,rfl,rfl,_,_,rfl,rfl,?_⟩;rw [Go];show if (!((xs.length:Int)==(N.ps.length:Int)))=true then _ else _
 rw [show ((xs.length:Int)==(N.ps.length:Int))=true from beq_iff_eq.mpr (by rw [hl])];refine BV ⟨by show xs.length<=10000000; omega,?_⟩;refine Av (λd=>.bl (Ra d)) (λρ=>∃s,ρ=[s]) _ _ _ _ ?_ ⟨_,rfl⟩ ?_
 ·rintro d hd ρ m nx ⟨s,rfl⟩ hnx
  refine⟨⟨by decide,by decide,by decide⟩,d,0,_,rfl,?_⟩
  have e:Jv 0 ((10:Int) ^ (45:Int).toNat) d=Ra d:=by
   cases d with
   | int i =>
    have hi:i.natAbs<=10 ^ 40:=hfi _ hd
    have:(10:Int) ^ (45:Int).toNat=10 ^ 45:=rfl
    show (decide (0<=i)&&decide (i<=(10:Int) ^ (45:Int).toNat))=decide (0<=i);rw [this,decide_eq_true (by omega:i<=10 ^ 45),iM]
   | _=>rfl
  rw [e];exact hnx _ ⟨_,rfl⟩
 ·rw [dE]
  refine C8 (p:=Ra) (neg:=false) ?_;rw [if_neg dH,dU.mpr hg];refine BV ⟨_,_,rfl,rfl,_,rfl,⟨by omega,by omega⟩,by rw [Br]; omega,?_⟩;refine Av (λd=>match d with | .int i=>.tup [(atI (N.ps.map D.str) i).getD .non,(atI xs i).getD .non] | _=>.non) (λρ=>∃s,ρ=[.sh (.tup (N.ps.map .str)),.sh (.tup xs),s]) _ _ _ _ ?_ ⟨_,rfl⟩ ?_
  ·rintro d hd ρ m nx ⟨s,rfl⟩ hnx
   obtain⟨k,hk,rfl⟩:=HK hd;have hk:k<xs.length:=by omega
   have e1:atI (N.ps.map D.str) (0+(k:Int))=some (.str (N.ps.getD k "")):=by
    rw [show (0+(k:Int))=((k:Nat):Int) by omega];exact AH (by rw [dC,getD_at (by omega)]; rfl)
   have e2:atI xs (0+(k:Int))=some xs[k]:=by
    rw [show (0+(k:Int))=((k:Nat):Int) by omega];exact AH (FM hk)
   have hnx:nx (.tup [(atI (N.ps.map D.str) (0+(k:Int))).getD .non,(atI xs (0+(k:Int))).getD .non]) m [.sh (.tup (N.ps.map .str)),.sh (.tup xs),.sh (.int (0+(k:Int)))]:=hnx _ ⟨.sh (.int (0+(k:Int))),rfl⟩;rw [e1,e2] at hnx;exact⟨_,e1,_,e2,z2,hnx⟩
  ·have ez:(Cd 0 ((xs.length:Int)).toNat).map (λd=>match d with | .int i=>D.tup [(atI (N.ps.map D.str) i).getD .non,(atI xs i).getD .non] | _=>.non)=f7 (λp x=>D.tup [.str p,x]) N.ps xs:=by
    refine List.ext_getElem? λk=>?_;unfold Cd;rw [eF,dC,gh]
    by_cases hk:k<xs.length
    ·rw [ir (by omega),FM hk,getD_at (show k<N.ps.length by omega)]
     show some (D.tup [(atI (N.ps.map D.str) (0+(k:Int))).getD .non,(atI xs (0+(k:Int))).getD .non])=some (D.tup [.str (N.ps.getD k ""),xs[k]]);rw [show (0+(k:Int))=((k:Nat):Int) by omega,AH (v:=D.str (N.ps.getD k "")) (by rw [dC,getD_at (by omega)]; rfl),AH (FM hk)];rfl
    ·rw [gi (by rw [fG]; omega),gi (by omega:N.ps.length<=k)]
     rfl
   rw [dE,ez];refine⟨_,_,_,rfl,RG hl.symm,fW.mpr ((NO ok.rise).imp λh e=>h (eK e)),?_⟩;refine⟨by show (us.map Aj).length<=10000000; rw [Go]; omega,?_⟩;refine Av (λ_=>.bl true) (λρ=>∃s1 s2 s3,ρ=[.sh (.dic (N.ps.map .inr) xs),s1,s2,s3]) _ _ _ _ ?_ ⟨_,_,_,rfl⟩ ?_
   ·rintro d hd ρ m nx ⟨s1,s2,s3,rfl⟩ hnx
    obtain⟨v,hv,rfl⟩:=Re.mp hd;have hv:=(hus v).mp hv;obtain⟨m1,m2,_⟩:=ok.tin v hv;have v1:=UC hl hg m1;have v2:=UC hl hg m2;refine⟨rfl,rfl,_,_,_,_,rfl,rfl,v1,_,_,_,_,rfl,rfl,v2,?_⟩;show nx (.bl (decide (GR (JX N xs v.a - JX N xs v.b)<=v.len))) m _;rw [dU.mp hall v hv];exact hnx _ ⟨_,_,_,rfl⟩
   ·rw [dE]
    refine C8 (p:=λ_=>true) (neg:=true) ?_;rw [if_pos rfl,dU.mpr λ_ _=>rfl];exact q
theorem Se(h:J9 ss n Pd):Ep (EE Pd) n (ss++XV 5 .no):=by
 obtain⟨N,t,b,kept,u,row,rfl,okn,⟨b1,b2,t1,t2⟩,hk,hu,hrow,p⟩:=h;have ok:=okn.1;have okA:=B_ okn kept;obtain⟨ma,mb,_⟩:=ok.tin u hu;unfold Ep;refine⟨_,AH (j:=0) rfl,?_⟩
 rcases hrow with ⟨hn,xs,rfl,htop,hf,hlt⟩ | ⟨hn,w,d,rfl,⟨⟨r,rfl⟩,hw1,hw2,hw3,hw4⟩,hle⟩
 ·obtain⟨hl,hg⟩:=Nz hf
  refine⟨_,AH (j:=0) rfl,?_⟩;refine⟨_,AH (j:=1) rfl,sub N kept,kept,xs,rfl,okA,hk.same,hf,htop,?_⟩;obtain⟨ix,ex,_⟩:=Xi ma;obtain⟨iy,ey,_⟩:=Xi mb;obtain⟨a1,a2,a3,a4⟩:=Rb ok ex;obtain⟨c1,c2,c3,c4⟩:=Rb ok ey;have nd:=NO ok.rise;have vx:=UC (N:=sub N kept) hl hg ma;have vy:=UC (N:=sub N kept) hl hg mb;rw [show BN ((sub N kept).ps.map .inr) (xs.map D.int) (.inr u.a)=(xs.map D.int)[ix]? from M9 nd ex] at vx;rw [show BN ((sub N kept).ps.map .inr) (xs.map D.int) (.inr u.b)=(xs.map D.int)[iy]? from M9 nd ey] at vy;refine⟨⟨_,rfl⟩,_,AH (j:=0) rfl,_,_,ix,rfl,rfl,a1,a2,a3,a4,⟨_,rfl⟩,_,AH (j:=1) rfl,_,_,iy,rfl,rfl,c1,c2,c3,c4,_,_,rfl,?_⟩;refine⟨_,AH (j:=1) rfl,_,AH vx,_,AH (j:=1) rfl,_,AH vy,?_⟩;refine⟨_,AH (j:=1) rfl,Qp b1 b2,_,AH (j:=2) rfl,_,AH (j:=0) rfl,Qp t1 t2,?_⟩;show if decide (u.len*t<GR (JX (sub N kept) (xs.map .int) u.a - JX (sub N kept) (xs.map .int) u.b)*b)=true then _ else _
  rw [decide_eq_true hlt];exact B3 p
 ·refine⟨_,AH (j:=0) rfl,?_⟩
  refine⟨z2,_,AH (j:=1) rfl,sub N kept,kept,u.a,r,d,rfl,okA.1,hk.same,hw2,hw4,by rw [c6] at hw3; omega,⟨rfl,?_⟩⟩;refine⟨_,AH (j:=1) rfl,.str u.a,AH (j:=0) rfl,_,AH (j:=0) rfl,?_⟩;refine D6 (λc=>absurd c (by simp)) λ_=>?_;refine⟨_,AH (j:=1) rfl,1,rfl,.str u.b,RT hw1,_,AH (j:=1) rfl,?_⟩;refine D6 (λc=>absurd c (by simp)) λ_=>?_;refine⟨_,AH (j:=1) rfl,Qp b1 b2,_,AH (j:=2) rfl,_,AH (j:=0) rfl,Qp t1 t2,?_⟩;show if decide (u.len*t<d*b)=true then _ else _
  rw [decide_eq_false (by omega)];exact BV p
theorem WH:BB (.str "in") = "'in'":=by decide +kernel
theorem UR:BB (.str "out") = "'out'":=by decide +kernel
theorem Sl(h:KG ss n Pd):DP (EE Pd) n (ss++XV 5 .no):=by
 obtain⟨N,t,b,ord,rs,rfl,okn,l24,tm,hp,hr,hpap,p⟩:=h;have ok:=okn.1;have okm:=B_ okn (Ag N t b [] ord);have ht:=MN okn (Ag N t b [] ord);have l60:=okn.2.2;have sz:=ND okm;have szl:=PySem.sizeLine_eq;have hlen:=hpap.len;have hol:=hp.length_eq;have nd:ord.Nodup:=hp.nodup_iff.mpr (BL ok.trise);have st:∀x∈[("in":Str),"out","'in'","'out'"],∀c∈cs x,c<1114112:=by decide +kernel
 have lst:∀x∈[("in":Str),"out","'in'","'out'"],Ci (.str x)/\Kc (.str x):=λx hx=>⟨CU (B:=10) (by decide) (st x hx) (dD _),HJ (B:=10) (by decide) (st x hx) (dD _) (by
  have:∀x∈[("in":Str),"out","'in'","'out'"],x.length<=9:=by decide +kernel
  have:=this x hx
  show x.length<=200000
  omega)⟩
 have l2:Ci (.tup [.str "'in'",.str "'out'"]):=CU (B:=10) (by decide) ⟨st _ (by simp),st _ (by simp),trivial⟩ (by show max 0 (max 0 0)+1<=100; decide);unfold DP;refine⟨N,enc (sub N (Ag N t b [] ord)),rfl,ok,l24,l60,(MZ (by decide) _).1 _ (Sc _) sz.1,by have:=sz.2.1; omega,by have:=sz.2.2; omega,?_⟩;rw [show thinB N (enc (sub N (Ag N t b [] ord)))=true from ht.thinB];refine BV ⟨_,_,rfl,rfl,_,AH (j:=1) rfl,_,_,rfl,rfl,?_⟩;show if (!((rs.length:Int)==((N.ts.map Aj).length:Int)))=true then _ else _
 rw [Go,hlen,hol,beq_self_eq_true];refine BV ?_
 have shape:∀(l:List D) (s4:Slot) (nx:Nat->List Slot->Prop),(∀r∈l,r∈rs)->(∀s4,nx n [.sh (enc N),.sh (NA t b),.sh (enc (sub N (Ag N t b [] ord))),.sh (.tup rs),s4,.no,.no,.no,.no]) ->
   Be (Ad 4) Y4 { EE Pd with nx:=nx } l n [.sh (enc N),.sh (NA t b),.sh (enc (sub N (Ag N t b [] ord))),.sh (.tup rs),s4,.no,.no,.no,.no]:=by
  intro l
  induction l with
  | nil=>intro s4 nx _ h; exact h s4
  | cons r l ih =>
   intro s4 nx hl h;obtain⟨s,y,rfl,hs⟩:=hpap.shape r (hl r On);have next:=ih (.sh (.tup [.str s,y])) nx (λx hx=>hl x (Rs _ hx)) h;unfold Y4;refine⟨_,_,rfl,rfl,?_⟩
   rcases hs with rfl | rfl
   ·refine⟨_,AH (j:=0) rfl,_,rfl,(lst _ (by simp)).2,z2,?_⟩
    rw [WH];exact⟨(lst _ (by simp)).1,l2,_,rfl,next⟩
   ·refine⟨_,AH (j:=0) rfl,_,rfl,(lst _ (by simp)).2,z2,?_⟩
    rw [UR];exact⟨(lst _ (by simp)).1,l2,_,rfl,next⟩
 refine shape rs _ _ (λ_ z=>z) λs4=>?_;refine⟨z0,_,AH (j:=1) rfl,_,N.ts,rfl,rfl,by omega,λord' o1 o2=>⟨_,rfl,?_⟩⟩;obtain rfl:=C6 (o1.trans hp.symm) o2 hr
 have go:∀(us pre:List A2) (rs1 rs2:List D) (s6 s7 s8:Slot),pre++us=ord'->rs1++rs2=rs->rs1.length=pre.length->Tr N t b (Ag N t b [] pre) us rs2 ->
   Be (DJ 2 (Ao (Ad 6) (Ao (Ad 7) Bu))) Ta { EE Pd with nx:=Aq (wC D.non) (EE Pd) } (EB rs1.length (us.map Aj)) n [.sh (enc N),.sh (NA t b),.sh (enc (sub N (Ag N t b [] ord'))),.sh (.tup rs),s4,.ow (.lst ((Ag N t b [] pre).map Aj)),s6,s7,s8]:=by
  intro us
  induction us with
  | nil=>intro pre rs1 rs2 s6 s7 s8 _ _ _ _; exact p
  | cons u us ih =>
   intro pre rs1 rs2 s6 s7 s8 e1 e2 e3 hk
   match rs2,hk with
   | row::rs2,⟨hrow,hk⟩ =>
    have hat:rs[rs1.length]?=some row:=by rw [← e2,eQ (Sc _),ic]; rfl
    have hu:u∈N.ts:=hp.subset (by rw [← e1]; exact dG _ On);have kin:∀v∈Ag N t b [] pre,v∈N.ts:=λv hv=>hp.subset (by rw [← e1]; exact di _ (((Bw (rest:=pre)).2 v hv).elim (λz=>absurd z dB) id))
    have hkl:(Ag N t b [] pre).length<=60:=by
     have h1:=(keepL_sublist (N:=N) (t:=t) (b:=b) (rest:=pre) (kept:=[])).length_le;have h2:=congrArg fN e1;rw [c9,c6] at h2;rw [dE] at h1;omega
    have key:decide (u∈(sub N (Ag N t b [] ord')).ts)=!CC (sub N (Ag N t b [] pre)) t b u:=by
     rw [← e1] at nd ⊢;rw [eG,decide_eq_true_eq,sub_mem,Hb nd,gc];exact⟨λh=>h.2,λh=>⟨hu,h⟩⟩
    have lt1:Ci (.tup ((sub N (Ag N t b [] ord')).ts.map Aj)):=(Fd ok λv hv=>(sub_mem.mp hv).1).1;have next:=λs6 s7 s8=>ih (pre++[u]) (rs1++[row]) rs2 s6 s7 s8 (by rw [dg]; exact e1) (by rw [dg]; exact e2) (by rw [c9,c9,e3]; rfl) (by rw [Bx]; exact hk);rw [Bx pre,c9,dR] at next
    have rest:∀hn:Bool,CC (sub N (Ag N t b [] pre)) t b u=hn->∀s:Str,(∃y,row=.tup [.str s,y])->(s == "in")=!hn->Ta { EE Pd with nx:=Be (DJ 2 (Ao (Ad 6) (Ao (Ad 7) Bu))) Ta { EE Pd with nx:=Aq (wC D.non) (EE Pd) } (EB (rs1.length+1) (us.map Aj)),ct:=Be (DJ 2 (Ao (Ad 6) (Ao (Ad 7) Bu))) Ta { EE Pd with nx:=Aq (wC D.non) (EE Pd) } (EB (rs1.length+1) (us.map Aj)),bk:=Aq (wC D.non) (EE Pd) } n [.sh (enc N),.sh (NA t b),.sh (enc (sub N (Ag N t b [] ord'))),.sh (.tup rs),s4,.ow (.lst ((Ag N t b [] pre).map Aj)),.sh (.int (rs1.length:Int)),.sh (Aj u),s8]:=by
     intro hn ehn s ⟨y,hy⟩ hs;unfold Ta;refine⟨_,AH hat,?_⟩;rw [hy];refine⟨_,AH (j:=0) rfl,_,AH (j:=1) rfl,HX ok hu,lt1,_,rfl,?_⟩;rw [GH,key,ehn];show if (!((s == "in")==!hn))=true then _ else _
     rw [hs,beq_self_eq_true];refine BV ⟨_,rfl,_,AH hat,N,t,b,Ag N t b [] pre,u,row,rfl,okn,tm,⟨kin,hkl⟩,hu,hrow,rfl,⟨rfl,?_⟩⟩;refine⟨_,AH (j:=1) rfl,HX ok hu,lt1,_,rfl,?_⟩;rw [GH,key,ehn];rw [B6,ehn] at next;cases hn with
     | true=>exact next _ _ _
     | false =>
      refine⟨_,rfl,rfl,_,_,rfl,rfl,by rw [Go]; omega,?_⟩;have z:=next (.sh (.int (rs1.length:Int))) (.sh (Aj u)) (.sh .non);rw [if_neg (by decide),show Ag N t b (Ag N t b [] pre++[u]) []=Ag N t b [] pre++[u] from rfl,dq] at z;exact z
    refine⟨rfl,rfl,?_⟩
    rcases hrow with ⟨hn,xs,hy,_⟩ | ⟨hn,w,d,hy,_⟩
    ·exact rest false hn "in" ⟨_,hy⟩ (by decide +kernel)
    ·exact rest true hn "out" ⟨_,hy⟩ (by decide +kernel)
 exact go ord' [] [] rs _ _ _ rfl rfl rfl hpap
end
theorem VP(w:List Str):flat (Lq w)=true:=by
 show Pa (w.map .str)=true
 induction w with
 | nil=>rfl
 | cons x w ih=>show (true&&Pa (w.map .str))=true; rw [ih]; rfl
section
variable {ss:List Slot}{n:Nat}{Pd:D->Nat->Prop}
theorem Sh(h:KD ss n Pd):Es (EE Pd) n (ss++XV 4 .no):=by
 obtain⟨N,t,b,kept,u,rfl,okn,tm,hk,hu,hn,h2,p⟩:=h;have tm':=tm;obtain⟨b1,b2,t1,t2⟩:=tm';have ok:=okn.1;have l25:=okn.2.1;have okA:=B_ okn kept;obtain⟨ma,mb,_,u1,u2⟩:=ok.tin u hu;unfold Es;refine⟨_,AH (j:=0) rfl,?_⟩;refine⟨_,AH (j:=1) rfl,sub N kept,u.b,_,kept,rfl,rfl,hk.same.1,okA,mb,λks ds K dm lt=>?_⟩;refine⟨_,AH (j:=2) rfl,_,AH (j:=0) rfl,Qp t1 t2,_,AH (j:=1) rfl,⟨by omega,by omega⟩,9,rfl,by decide,by decide,by omega,λr r0 r1=>?_⟩;refine⟨3,rfl,by decide,by decide,by omega,λq q0 q1=>⟨⟨by decide,by decide,by decide⟩,.inl ⟨by omega,by omega⟩,?_⟩⟩;have e0:0<=u.len*t / b:=Int.ediv_nonneg (i6 (by omega) (by omega)) (by omega);have e1:u.len*t / b<=u.len*t:=Int.ediv_le_self _ (i6 (by omega) (by omega));have e2:u.len*t<=1000000*1000000:=Int.mul_le_mul u2 t2 (by omega) (by omega);have e3:=Mm (l:=u.len) (t:=t) b1;generalize hm:u.len*t / b+1+r=m
 have hmb:u.len*t<m*b:=by
  have:(u.len*t / b+1)*b<=m*b:=Int.mul_le_mul_of_nonneg_right (by omega) (by omega)
  omega
 have hmore:q*10 ^ (20:Int).toNat=q*10 ^ 20:=rfl;generalize hmo:q*(10:Int) ^ (20:Int).toNat=more at hmore;refine⟨by show (N.ps.map D.str).length<=10000000; rw [Go]; omega,?_⟩;refine Av (λd=>match d with | .str x=>.int (more+C2 m (K x)) | _=>.non) (λρ=>∃s,ρ=[.sh (.int more),.sh (.int m),.sh (.dic ks ds),s]) _ _ _ _ ?_ ⟨_,rfl⟩ ?_
 ·rintro d hd ρ n' nx ⟨s,rfl⟩ hnx
  obtain⟨x,hx,rfl⟩:=Re.mp hd;have k:=hnx [.sh (.int more),.sh (.int m),.sh (.dic ks ds),.sh (.str x)] ⟨_,rfl⟩;refine⟨_,_,rfl,_,rfl,?_⟩;rw [dm.at_ x];have k:nx (.int (more+C2 m (K x))) n' [.sh (.int more),.sh (.int m),.sh (.dic ks ds),.sh (.str x)]:=k;cases e:K x with
  | none =>
   rw [e] at k;show nx (.int (more+if m<m then m else m)) n' _;rw [if_neg (Int.lt_irrefl m)];exact k
  | some d=>rw [e] at k; exact k
 ·rw [dE]
  have e:(N.ps.map D.str).map (λd=>match d with | .str x=>D.int (more+C2 m (K x)) | _=>.non)=((sub N kept).ps.map λx=>more+C2 m (K x)).map .int:=by
   rw [eF,eF];rfl
  rw [e];exact⟨z2,p _ (VL okA tm ma mb (by omega) hn (.inr ⟨rfl,rfl⟩) (G:=K) lt.far (by omega) (by omega) hmb (by omega) (by omega))⟩
theorem Sg(h:KC ss n Pd):Er (EE Pd) n (ss++XV 2 .no):=by
 obtain⟨N,t,b,kept,u,w,d,rfl,okn,⟨b1,b2,t1,t2⟩,hk,hu,hw,hle,p⟩:=h;have hw':=hw;obtain⟨⟨r,rfl⟩,w1,w2,w3,w4⟩:=hw';have ok:=okn.1;have okA:=B_ okn kept;have szl:=PySem.sizeLine_eq;obtain⟨ma,mb,hab,_⟩:=ok.tin u hu
 match r,w1,w2,w3,w4,hw with
 | [],w1,_,_,_,_ =>
  have:u.a=u.b:=c_ w1
  rw [this] at hab;exact absurd hab (fE _)
 | y::r,w1,w2,w3,w4,hw =>
  have w2':=w2;obtain⟨l,e,hed,hwk,rfl⟩:=w2'
  have hback:Ed (sub N kept) y u.a l:=by
   obtain⟨v,hv,rfl,hx⟩:=hed.tie okA.1;obtain⟨d1,d2⟩:=Jy hv
   rcases hx with ⟨h1,h2⟩ | ⟨h1,h2⟩
   ·rw [← h1,← h2]; exact d2
   ·rw [← h1,← h2]; exact d1
  have long:walk (sub N kept) (u.a::y::u.a::y::r) (l+(l+(l+e))):=⟨l,_,hed,⟨l,_,hback,w2,rfl⟩,rfl⟩
  have lin:∀z∈u.a::y::u.a::y::r,z∈(sub N kept).ps:=λz hz=>by
   rcases T0.mp hz with rfl | hz
   ·exact w4 _ On
   ·rcases T0.mp hz with rfl | hz
    ·exact w4 _ (Rs _ On)
    ·exact w4 _ hz
  have llen:(u.a::y::u.a::y::r).length<=100:=by simp only [c6] at w3 ⊢; omega
  have ecut:Dp.cutD ((u.a::y::r).map D.str) none (some 2)=[.str u.a,.str y]:=by
   have:=ZL ((u.a::y::r).map D.str) 2
   rw [Go,ii (by simp only [c6]; omega)] at this;exact this
  unfold Er;refine⟨by show (Dp.cutD ((u.a::y::r).map D.str) none (some 2)).length+((u.a::y::r).map D.str).length<=_; rw [ecut,Go]; simp only [c6,e6] at w3 ⊢; omega,?_⟩;rw [ecut];refine⟨_,AH (j:=0) rfl,z2,sub N kept,kept,u.a,y::u.a::y::r,l+(l+(l+e)),rfl,okA.1,hk.same,long,lin,by simp only [c6] at llen ⊢; omega,?_⟩;refine⟨_,AH (j:=1) rfl,Qp b1 b2,_,AH (j:=2) rfl,_,AH (j:=0) rfl,Qp t1 t2,?_⟩;show if decide ((l+(l+(l+e)))*b<=u.len*t)=true then _ else _
  by_cases c:(l+(l+(l+e)))*b<=u.len*t
  ·rw [decide_eq_true c]
   refine B3 (p _ _ ⟨⟨_,rfl⟩,?_,long,llen,lin⟩ c);rw [jl,jl];exact w1
  ·rw [decide_eq_false c]
   exact BV (p _ _ ⟨⟨_,rfl⟩,w1,w2,by omega,w4⟩ hle)
end
def Xq:Ai:=(Ac (A0 8 (AY GK (AD (AL (AB 3)) (AD (AL (AB 4)) AZ))))
 (BA (Cp (AU (AS (GQ true) (AY KG (AD (AL (AB 3)) (AD (AL (AB 4)) (AD (AL (AB 6)) (AD (AL (AB 8)) AZ))))) (wC D.non))) (AU (AS (Wp true) (AY F7 (AD (AL (AB 3)) (AD (AL (AB 4)) (AD (AL (AB 6)) (AD (AL (AB 8)) AZ))))) (wC (D.bl true))))) (Aq (wC (D.bl false))) Ar))
def Ux:Ai:=(BA (AU (AS (DF false) (AB 12) (AS Ax (AB 6) (wC (D.int 1))))) (Ac (Lr 10 "list" Ei (AG (AY KD (AD (BS 1) (AD (AL (AB 3)) (AD (AL (AB 4)) (AD (Cs (A4 9)) (AD (AL (AB 12)) AZ)))))) AW))
 (Lr 9 "list" Ei (AG (AB 12) AW))) (Lr 10 "list" Ei (AG (Bg (AG (wC (D.str "out")) (AG (T9 9 (AY KC (AD (AL (AB 3)) (AD (AL (AB 4)) (AD (AL (AB 9)) (AD (AL (AB 12)) (AD (AL (AS Ax (AS Ax (AB 8) (AB 11)) (wC (D.int 1)))) AZ))))))) AW))) AW)))
def VZ:Ai:=(Aq (HF (AS (Wp false) (AY F7 (AD (AL (AB 3)) (AD (AL (AB 4)) (AD (AL (AB 6)) (AD (AL (CF CB (AG (A4 10) AW))) AZ))))) (wC (D.bl true))) (AS (G6 false) (CF JC (AG (AB 3) AW)) (AB 5))))
def P6:Ai:=(Ac (DY 9 (FO AW))
 (Ac (DY 10 (FO AW))
 (Ac (Ez (Q2 (AY DK (AD (AL (AS Ax (AB 3) (wC (D.int 1)))) AZ))) (DJ 2 (Ao (Ad 11) (Ao (Ad 12) Bu))) Ux)
 VZ)))
def Nq:Ai:=(Ac (A0 5 (CF JC (AG (AB 3) AW)))
 (Ac (A0 6 (AY DA (AD (AL (AB 3)) (AD (AL (AB 4)) AZ))))
 (Ac (Ez (Eb (AG (AS Hf (wC (D.int 2)) (CF VT (AG (AB 2) AW))) AW)) (Ad 7) Xq)
 P6)))
def U7:Ai:=(Ac (A0 3 (V1 (AU (AB 2)) (AY Vv (AD (BS 1) (AD (AL (wC (D.int 24))) (AD (AL (wC (D.int 60))) AZ)))) (AY Vv (AD (BS 1) (AD (AL (wC (D.int 8))) (AD (AL (wC (D.int 14))) AZ))))))
 (Ac (A0 4 (AY Lm (AD (BS 1) AZ)))
 Nq))
def Mo:Ai:=(Ac (A0 2 (AS (G6 false) (AY Bl (AD (BS 1) (AD (AL (wC (D.int 8))) AZ))) (wC (D.int 0))))
 U7)
theorem Sd{D2:E2}{n:Nat}{N:Net}{t b:Int}(okn:okN N)(l24:N.ps.length<=24)(tm:SM t b){ord:List A2}(o1:ord.Perm N.ts)(o2:Ck ord){rs:List D}(hpap:PapGK 30 N t b [] ord rs)(hn:200<=n)(q:∀n',D2.rt (.bl true) n'){s2 s7 s9 s10 s11 s12:Slot}:P6 D2 n [.no,.fd,s2,.sh (enc N),.sh (NA t b),.sh (.str (BB (enc N))),.sh (enc (sub N (Ag N t b [] ord))),s7,.sh (.tup rs),s9,s10,s11,s12]:=by
 have ok:=okn.1;have l60:=okn.2.2;have szl:=PySem.sizeLine_eq;have nd:ord.Nodup:=o1.nodup_iff.mpr (BL ok.trise);have hol:=o1.length_eq;have sz:=ND okn;have sh:Kc (enc N):=HJ (B:=1000001) (by decide) sz.1 (by have:=sz.2.2; omega) (by have:=sz.2.1; omega);unfold P6;refine⟨z0,z0,_,AH (j:=1) rfl,_,N.ts,rfl,rfl,by omega,λord' q1 q2=>⟨_,rfl,?_⟩⟩;obtain rfl:=C6 (q1.trans o1.symm) q2 o2
 have go:∀(us pre:List A2) (rs':List D) (m:Nat) (s11 s12:Slot),pre++us=ord'->Tr N t b [] pre rs'->2*us.length<=m ->
   Be (DJ 2 (Ao (Ad 11) (Ao (Ad 12) Bu))) Ux { D2 with nx:=VZ D2 } (EB pre.length (us.map Aj)) m [.no,.fd,s2,.sh (enc N),.sh (NA t b),.sh (.str (BB (enc N))),.sh (enc (sub N (Ag N t b [] ord'))),s7,.sh (.tup rs),.ow (.lst ((Ag N t b [] pre).map Aj)),.ow (.lst rs'),s11,s12]:=by
  intro us
  induction us with
  | nil =>
   intro pre rs' m s11 s12 e hk _;rw [dX] at e;subst e;unfold VZ;refine⟨N,t,b,pre,rs',rfl,okn,l24,tm,o1,o2,hk,?_⟩;refine⟨_,rfl,sh,?_⟩;generalize hA:BB (enc N)=A;show D2.rt (.bl (A==A)) m;rw [beq_self_eq_true];exact q m
  | cons u us ih =>
   intro pre rs' m s11 s12 e hk hm;rw [c6] at hm;have hu:u∈N.ts:=o1.subset (by rw [← e]; exact dG _ On);have kin:∀v∈Ag N t b [] pre,v∈N.ts:=λv hv=>o1.subset (by rw [← e]; exact di _ (((Bw (rest:=pre)).2 v hv).elim (λz=>absurd z dB) id))
   have hpl:pre.length<=60:=by
    have h2:=congrArg fN e;rw [c9,c6] at h2;omega
   have hkl:(Ag N t b [] pre).length<=60:=by
    have h1:=(keepL_sublist (N:=N) (t:=t) (b:=b) (rest:=pre) (kept:=[])).length_le;rw [dE] at h1;omega
   have hrl:=hk.len
   have key:decide (u∈(sub N (Ag N t b [] ord')).ts)=!CC (sub N (Ag N t b [] pre)) t b u:=by
    rw [← e] at nd ⊢;rw [eG,decide_eq_true_eq,sub_mem,Hb nd,gc];exact⟨λh=>h.2,λh=>⟨hu,h⟩⟩
   have e':pre++[u]++us=ord':=by rw [dg]; exact e
   have next:=λrs' m s11 s12=>ih (pre++[u]) rs' m s11 s12 e';rw [Bx pre,B6,c9,dR] at next;obtain⟨row,hat,hrow⟩:=PapGK.at (pre:=pre) (u:=u) (post:=us) (by rw [e]; exact hpap);unfold Ux;refine⟨rfl,rfl,_,AH (j:=1) rfl,HX ok hu,(Fd ok λv hv=>(sub_mem.mp hv).1).1,_,rfl,?_⟩;rw [GH,key]
   rcases hrow with ⟨hn,xs,rfl,_⟩ | ⟨hn,w,d,rfl,hw,hle⟩
   ·rw [hn] at next ⊢
    refine⟨_,rfl,rfl,N,t,b,Ag N t b [] pre,u,rfl,okn,tm,⟨kin,hkl⟩,hu,hn,by omega,λrow hrow=>⟨_,_,rfl,rfl,by omega,?_⟩⟩;refine⟨_,rfl,rfl,_,_,rfl,rfl,by rw [Go]; omega,?_⟩;have z:=next (rs'++[row]) (m - 2) (.sh (.int (pre.length:Int))) (.sh (Aj u)) (hk.snoc hrow) (by omega);rw [if_neg (by decide),show Ag N t b (Ag N t b [] pre++[u]) []=Ag N t b [] pre++[u] from rfl,dq] at z;exact z
   ·rw [hn] at next ⊢
    refine⟨_,rfl,rfl,_,rfl,_,AH hat,_,AH (j:=1) rfl,N,t,b,Ag N t b [] pre,u,w,d,rfl,okn,tm,⟨kin,hkl⟩,hu,hw,hle,λw' d' h1 h2=>⟨VP w',z2,_,_,rfl,rfl,by omega,?_⟩⟩;exact next (rs'++[.tup [.str "out",Lq w']]) m (.sh (.int (pre.length:Int))) (.sh (Aj u)) (hk.snoc (.inr ⟨hn,w',d',rfl,h1,h2⟩)) (by omega)
 exact go ord' [] [] n _ _ rfl trivial (by omega)
theorem Sj{D2:E2}{n:Nat}{N:Net}{t b:Int}{g:Bool}(okn:okN N)(l24:N.ps.length<=24)(tm:SM t b)(hn:200<=n)(q:∀n',D2.rt (.bl true) n'){s5 s6 s7 s8 s9 s10 s11 s12:Slot}:Nq D2 n [.no,.fd,.sh (.bl g),.sh (enc N),.sh (NA t b),s5,s6,s7,s8,s9,s10,s11,s12]:=by
 have tm':=tm;obtain⟨b1,b2,t1,t2⟩:=tm';have sz:=ND okn;have sh:Kc (enc N):=HJ (B:=1000001) (by decide) sz.1 (by have:=sz.2.2; omega) (by have:=sz.2.1; omega);unfold Nq;refine⟨_,rfl,sh,?_⟩;refine⟨N,t,b,rfl,okn,b1,b2,t1,t2,λord o1 o2=>?_⟩
 obtain⟨c,hc,hc1⟩:∃c:Nat,(2:Int) - (if g=true then 1 else 0)=(c:Int)/\1<=c/\c<=2:=by
  cases g
  ·exact⟨2,rfl,by decide⟩
  ·exact⟨1,rfl,by decide⟩
 refine⟨(2:Int) - (if g=true then 1 else 0),rfl,⟨by omega,by omega⟩,?_⟩;rw [hc,gE];refine DX (all:=Cd 0 c) (λpre m ρ=>m=n/\∃s7 s8,(pre≠[]->∃rs,s8=.sh (.tup rs)/\PapGK 30 N t b [] ord rs)/\ρ=[.no,.fd,.sh (.bl g),.sh (enc N),.sh (NA t b),.sh (.str (BB (enc N))),.sh (enc (sub N (Ag N t b [] ord))),s7,s8,s9,s10,s11,s12]) ?_ ?_ _ [] _ _ rfl ⟨rfl,_,_,λz=>absurd rfl z,rfl⟩
 ·rintro m ρ ⟨rfl,s7,s8,h8,rfl⟩
  obtain⟨rs,rfl,hpap⟩:=h8 λz=>by
   have:=congrArg fN z
   rw [Br] at this;rw [this] at hc1;exact absurd hc1.1 (by decide)
  exact Sd okn l24 tm o1 o2 hpap hn q
 ·rintro pre d post m ρ nx hall ⟨rfl,s7,s8,_,rfl⟩ hnx
  unfold Xq;refine⟨N,t,b,rfl,okn,tm,λord' rs q1 q2 hpap=>?_⟩;obtain rfl:=C6 (q1.trans o1.symm) q2 o2;have up:Tr N t b [] ord' rs:=hpap.up (by decide);refine⟨N,t,b,ord',rs,rfl,okn,l24,tm,o1,o2,up,⟨rfl,?_⟩⟩;exact⟨N,t,b,ord',rs,rfl,okn,l24,tm,o1,o2,up,hnx _ _ ⟨rfl,_,_,λ_=>⟨rs,rfl,hpap⟩,rfl⟩⟩
theorem QK:Mo { nx:=λ_ _=>False,rt:=λd _=>d=.bl true } 3000 (.no::.fd::XV 11 .no):=by
 unfold Mo;refine⟨8,rfl,by decide,by decide,by decide,λr r0 r1=>?_⟩;show U7 _ 2999 [.no,.fd,.sh (.bl (r==0)),.no,.no,.no,.no,.no,.no,.no,.no,.no,.no];generalize hg:(r==0)=g
 have main:∀(N:Net) (n1:Nat),N.Ok->N.ps.length<=24->N.ts.length<=60->2999 - 1500<=n1->(Ac (A0 4 (AY Lm (AD (BS 1) AZ))) Nq:Ai) { nx:=λ_ _=>False,rt:=λd _=>d=.bl true } n1 [.no,.fd,.sh (.bl g),.sh (enc N),.no,.no,.no,.no,.no,.no,.no,.no,.no]:=λN n1 ok hp ht hn1=>by
  refine⟨rfl,by omega,λt b n2 b1 bt t1 hn2=>?_⟩;exact Sj ⟨ok,by omega,ht⟩ hp ⟨b1,by omega,by omega,t1⟩ (by omega) λ_=>rfl
 unfold U7;show if g=true then _ else _
 cases g with
 | true=>exact B3 ⟨24,60,rfl,by decide,by decide,by decide,λN n1 ok _ hp ht hn1=>main N n1 ok hp ht hn1⟩
 | false=>exact BV ⟨8,14,rfl,by decide,by decide,by decide,λN n1 ok _ hp ht hn1=>main N n1 ok (by omega) (by omega) hn1⟩
end Nt
set_option maxHeartbeats 4000000
namespace Dp
open L2
abbrev Fu(K:Frag)(x:Str)(st:df)(f:Ch)(fd:eI):Prop:=Fun K x x st f fd
theorem Dv{P:dZ}{w:dh}{K:Frag}{mg:Str->Option Ev}{base:dL}{x:Str}{st:df}{f:Ch}{fd:eI}{N ps:List Str}{k:Nat}{κ:Kd}{W:W2}{wb:Ai}(F:Fu K x st f fd)(S:Ae N ps (AQ st))
  (hb:∀{cdv:Ev} {A:eC} {outer:List Env} {s:Op} {H:Hp} {E:XK},Room k (A.deeper (envOfC x (AQ st) s.heap.objs.size f cdv))->Tx (ME B9 P w K mg base N x (AQ st) f cdv A outer s H E).nox κ (CP st) wb)
  (hW:∀{ss n Pd},W ss n Pd->wb { nx:=λn _=>κ=.sh/\Pd .non n,rt:=Pd } n (ss++XV (N.length - ps.length) .no)) (hNp:ps.length<=N.length:=by decide) :
  A8 P w K mg base B9 (k+1) f fd ps (Cq K κ W ps.length):=ce F S hNp (λ_ _ _ _ _ _ h=>hb h) (λ_ _ _ _ h=>hW h)
section
variable {X:Cx}
theorem cg{m:Nat}(hr:Room m X.A){e:dO}{es:List dO}{k:Nat}{ps:List Str}{κ:Kd}{W:W2}{x:Str}{p pos:Pos}{was:Xw}(G:Got X.prog X.w X.K X.mg X.base x k ps κ W)(ha:Zo X (e::es) was)(hk:k<=m:=by decide)(hg:Gl X x:=by rfl)
  (hdb:(x==("__debug__":Str))=false:=by decide) (he:starEach (e::es) X.env=(false,eval e X.env)::starEach es X.env:=by rfl) (hpl:(backTo pos (starEach es X.env)).any (·.1)=false:=by rfl):DE X (.Call (.Name x p) (e::es) [] pos) κ (AY W was):=Vh G (hr.mono hk) hg ha hdb he hpl
variable {tg iter elt:Expr}{ifs:List Expr}{sc:Scope}{pos:Pos}{b:BW}{tt:JR}{te:DW}{zP:Kd}{src:Ex}
theorem Ip(N':List Str)(js:List (Option Nat))(hi:Zg X tg iter src)(hg:∀{cl C s H fp},DG (BD X sc N' cl C s H fp) tg b)(ht:∀{cl C s H fp},Zn (BD X sc N' cl C s H fp) ifs tt)(he:∀{cl C s H fp},DE (BD X sc N' cl C s H fp) elt zP te)
  (hB:JI sc X.env.scope X.N N' js=true) (hc:X.calm=true:=by rfl) (hk:zP≠.tp:=by intro z; cases z) (hs:∀x,foldedSetIterable iter X.env x=pure x:=by intro _; rfl):DE X (.ListComp elt [⟨tg,iter,ifs,0⟩] sc pos) .fr (BU js src b tt te):=W7 hc N' js hi (λ_ _ _ _ _=>hg) (λ_ _ _ _ _=>ht) (λ_ _ _ _ _=>he) hB hk hs
end
end Dp
namespace K11
open L2 Dp Nt
section
variable (P:Program)(w:World)(K:Frag)(mg:Str->Option Value)(base:Heap)
abbrev HA:Prop:=Got P w K mg base "is_whole" 1 ["thing"] .sh Ll
abbrev CK:Prop:=Got P w K mg base "is_tuple_of" 1 ["count","thing"] .sh D4
abbrev JO:Prop:=Got P w K mg base "is_rising" 1 ["things"] .sh DU
abbrev Iw:Prop:=Got P w K mg base "rank_of" 1 ["tie"] .sh Mw
abbrev FD:Prop:=Got P w K mg base "order_of" 4 ["ties"] .fr DK
abbrev G_:Prop:=Got P w K mg base "steps_of" 1 ["net"] .sh OL
abbrev Qx:Prop:=Got P w K mg base "only" 1 ["net","ties"] .sh F6
abbrev JN:Prop:=Got P w K mg base "is_tie_of" 2 ["net","thing"] .sh XE
abbrev Mu:Prop:=Got P w K mg base "is_thin" 3 ["net","thing"] .sh JQ
abbrev HB:Prop:=Got P w K mg base "ahead_of" 2 ["net","tie"] .sh F8
abbrev Fv:Prop:=Got P w K mg base "length_of" 2 ["net","thing"] .sh Vw
abbrev Ew:Prop:=Got P w K mg base "length_between" 3 ["net","a","b","thing"] .sh SA
abbrev IB:Prop:=Got P w K mg base "nearest_of" 1 ["waiting","found"] .sh R9
abbrev FE:Prop:=Got P w K mg base "least_ways" 2 ["net","start"] .fr Lo
abbrev Li:Prop:=Got P w K mg base "way_of" 3 ["net","a","b"] .sh Vu
abbrev IC:Prop:=Got P w K mg base "are_prices" 2 ["net","thing"] .sh J_
abbrev Ft:Prop:=Got P w K mg base "price_gap" 1 ["net","prices","a","b"] .sh Vx
abbrev Mv:Prop:=Got P w K mg base "is_fair" 3 ["net","thing"] .sh SD
abbrev Ge:Prop:=Got P w K mg base "prices_from" 3 ["net","place","most"] .sh OM
abbrev EG:Prop:=Got P w K mg base "is_within" 1 ["length","times","number"] .sh GI
abbrev Fw:Prop:=Got P w K mg base "least_beyond" 1 ["times","number"] .sh GO
abbrev Lj:Prop:=Got P w K mg base "near_way" 4 ["net","times","tie"] .sh Ln
abbrev Mt:Prop:=Got P w K mg base "thinned" 5 ["net","times"] .sh DA
abbrev Fx:Prop:=Got P w K mg base "greedy_paper" 6 ["net","times"] .sh GK
abbrev JM:Prop:=Got P w K mg base "way_fault" 4 ["net","times","tie","thing"] .sh J8
abbrev Fs:Prop:=Got P w K mg base "prices_fault" 4 ["net","times","tie","thing"] .sh GJ
abbrev Fy:Prop:=Got P w K mg base "greedy_fault" 5 ["times","thin","tie","entry"] .sh GL
abbrev EH:Prop:=Got P w K mg base "is_greedy_entry" 2 ["thing"] .sh GN
abbrev Gg:Prop:=Got P w K mg base "lets_greedy" 6 ["net","times","thin","paper"] .sh F7
abbrev B8:Prop:=Got P w K mg base "_law_next" 1 ["_law_feed_here","_law_many"] .sh Bl
abbrev FF:Prop:=Got P w K mg base "_law_whole" 1 ["_law_thing","_law_least_here","_law_most"] .sh IF
abbrev Gh:Prop:=Got P w K mg base "_law_places" 2 ["_law_feed_here","_law_many"] .fr KA
abbrev Gi:Prop:=Got P w K mg base "_law_length" 2 ["_law_feed_here","_law_scale"] .sh XG
abbrev Lk:Prop:=Got P w K mg base "_law_net" 3 ["_law_feed_here","_law_most","_law_ties"] .sh Vv
abbrev ID:Prop:=Got P w K mg base "_law_times" 2 ["_law_feed_here"] .sh Lm
abbrev CS:Prop:=Got P w K mg base "_law_in_order" 1 ["_law_ties"] .fr DK
abbrev FG:Prop:=Got P w K mg base "_law_least" 1 ["_law_ties","_law_place"] .fr D5
abbrev Fz:Prop:=Got P w K mg base "_law_thinned" 2 ["_law_net_here","_law_times_here"] .sh DA
abbrev D1:Prop:=Got P w K mg base "_law_is_name" 1 ["_law_thing"] .sh Mz
abbrev Gj:Prop:=Got P w K mg base "_law_is_tie" 2 ["_law_places_here","_law_thing"] .sh R_
abbrev JP:Prop:=Got P w K mg base "_law_rise" 1 ["_law_things"] .sh DU
abbrev Gk:Prop:=Got P w K mg base "_law_is_net" 3 ["_law_thing"] .sh R8
abbrev F4:Prop:=Got P w K mg base "_law_is_thin" 4 ["_law_net_here","_law_thing"] .sh JQ
abbrev EY:Prop:=Got P w K mg base "_law_walked" 1 ["_law_net_here","_law_way"] .sh IE
abbrev F5:Prop:=Got P w K mg base "_law_is_fair" 2 ["_law_places_here","_law_ties","_law_thing"] .sh IG
abbrev F1:Prop:=Got P w K mg base "_law_row_due" 3 ["_law_net_here","_law_times_here","_law_kept","_law_tie","_law_row"] .sh J9
abbrev EI:Prop:=Got P w K mg base "_law_greedy_due" 5 ["_law_net_here","_law_times_here","_law_thin","_law_paper"] .sh KG
abbrev F3:Prop:=Got P w K mg base "_law_own_row" 2 ["_law_feed_here","_law_net_here","_law_times_here","_law_kept","_law_tie"] .sh KD
abbrev F2:Prop:=Got P w K mg base "_law_own_way" 2 ["_law_net_here","_law_times_here","_law_kept","_law_tie","_law_way"] .sh KC
end
section
variable {P:Program}{w:World}{K:Frag}{mg:Str->Option Value}{base:Heap}
variable {f:Addr}{fd:FuncData}
theorem Oh:Ae ["thing"] ["thing"] (AQ Gr):=by walk_at "s"
theorem O7(T:Txt K mg)(F:Fu K "is_whole" Gr f fd):A8 P w K mg base B9 1 f fd ["thing"] (Cq K .sh Ll 1) :=
 Dv F Oh (λhr=>(AJ (AV (C1 (B0 RU (dv 0) rfl T.Gaa rfl T.Gaj (by decide +kernel)) (EX (Vd (B0 PU (dv 0) rfl T.Gaa rfl T.Gan (by decide +kernel)))))))) Oq
theorem Ke:Ae ["count","thing"] ["count","thing"] (AQ EN):=by walk_at "s"
theorem Kw(T:Txt K mg)(F:Fu K "is_tuple_of" EN f fd):A8 P w K mg base B9 1 f fd ["count","thing"] (Cq K .sh D4 2) :=
 Dv F Ke (λhr=>(AJ (AV (C1 (B0 kit_tuple (dv 1) rfl T.Gaa rfl T.Gab (by decide +kernel)) (EX (BP Ef Iv (Ah A3 CJ rfl T.Gac PySem.boot_len (AO (dv 1) AT)) (dv 0) (Ak _))))))) Ko
theorem NL:Ae ["things"] ["things"] (AQ FY):=by walk_at "s"
theorem Nj(T:Txt K mg)(F:Fu K "is_rising" FY f fd):A8 P w K mg base B9 1 f fd ["things"] (Cq K .sh DU 1) :=
 Dv F NL (λhr=>(AJ (AV (Ah (Dy rfl) Lh rfl T.Gah fJ (AO (Ip [("ahead":Str),("behind":Str)] [none,none] (W4 rfl T.Gao (AO (dv 0) (AO (GY Lu Gd (dv 0) (CN AC) EC) AT))) (DH rfl (Aw (Ab (i:=0) (show dS [("ahead":Str),("behind":Str)] by decide +kernel) rfl (Uf rfl)) (Aw (Ab (i:=1) (show dS [("ahead":Str),("behind":Str)] by decide +kernel) rfl (Uf rfl)) CO))) A_ (BP (DD hr) FL (dv 0) (dv 1) (Ak _)) (by kernel_rfl)) AT))))) NW
theorem QC:Ae ["tie"] ["tie"] (AQ IX):=by walk_at "s"
theorem QU(T:Txt K mg)(F:Fu K "rank_of" IX f fd):A8 P w K mg base B9 1 f fd ["tie"] (Cq K .sh Mw 1) :=
 Dv F QC (λhr=>(AJ (AV (A1 (AF (AR AK Af (dv 0) AC) (AF (AR AK Af (dv 0) AC) (AF (AR AK Af (dv 0) AC) AX))))))) QH
theorem Og:Ae ["ties"] ["ties"] (AQ Gp):=by walk_at "s"
theorem O5(T:Txt K mg)(kT:Iw P w K mg base)(F:Fu K "order_of" Gp f fd):A8 P w K mg base B9 4 f fd ["ties"] (Cq K .fr DK 1) :=
 Dv F Og (λhr=>(AJ (AV (Vc kT (hr.mono (by decide)) rfl T.Gae rfl (dv 0))))) Om
theorem kU:Ae ["net","steps","place","a","b","length"] ["net"] (AQ Gn):=⟨rfl,rfl,rfl,by decide +kernel,rfl,by decide +kernel,by decide +kernel⟩
theorem O4{f:Ch}{fd:eI}(F:Fun K "steps_of" "steps_of" Gn f fd):A8 P w K mg base B9 1 f fd ["net"] (Cq K .sh OL 1):=by
 refine F.ok (k:=0) kU (λvs H Q E h=>h.1) (λcdv A outer s H vs Q E hr h=>?_);obtain⟨hl,F0,U,V',M,n,ss,Pd,ra,⟨N,rfl,ok,lp,lt,p⟩,q⟩:=h;obtain⟨dom,fU,uV,vM,fd0,pa⟩:=ra;cases pa with
 | cons r1 pa =>
 cases pa;obtain⟨v,e1,h1⟩:=r1.1;cases e1;obtain⟨an,vs,rfl,hn,v1,r,rfl,hp,v2,r2,rfl,ht,e2⟩:=h1;cases (show r2=[] from e2);obtain⟨ap,us,rfl,hpn,hps⟩:=hp;obtain⟨at_,ws,rfl,htn,hts⟩:=ht;have nd:=kU.nd;have hu:=LB hr;have szl:=PySem.sizeLine_eq;have lus:us.length=N.ps.length:=by rw [hps.length,Go]
 have lws:ws.length=N.ts.length:=by rw [hts.length,Go]
 refine⟨_,Bb (Fb (i:=1) nd rfl (Uf rfl) O2)
  (Bb (NY da rfl (Uo (FI ix_tup (pv 0) BC (λ_ _=>rfl))) (HP (i:=2) nd rfl (Uf rfl)) (D_ (Jr hu (pv 1) (pv 2) O2 rfl)))
  (Bb (NY da rfl (Uo (FI ix_tup (pv 0) BC (λ_ _=>rfl))) (Uq rfl (HN (HP (i:=3) nd rfl (Uf rfl)) (HN (HP (i:=4) nd rfl (Uf rfl)) (HN (HP (i:=5) nd rfl (Uf rfl)) RJ))))
   (Bb (Jr hu (Nc hu (pv 1) (pv 3) (λ_ _=>rfl)) (pv 4) (pv 5) rfl) (D_ (Jr hu (Nc hu (pv 1) (pv 4) (λ_ _=>rfl)) (pv 3) (pv 5) rfl))))
  (D_ (Gv (Yc (pv 1)))))),?_⟩
 refine λd hd=>?_;have old0:∀b o,H b=some o->BK H d (.dK []) b=some o:=λb o e=>by rw [Aa (Au e hd)]; exact e
 have SqN:∀H':Hp,(∀b o,H b=some o->H' b=some o)->SqT K H' an [.ref ap,.ref at_]:=λH' o=>SqT.of (o _ _ hn);have SqP:∀H':Hp,(∀b o,H b=some o->H' b=some o)->SqT K H' ap us:=λH' o=>SqT.of (o _ _ hpn);have SqW:∀H':Hp,(∀b o,H b=some o->H' b=some o)->SqT K H' at_ ws:=λH' o=>SqT.of (o _ _ htn);refine⟨_,rfl,an,_,0,_,rfl,rfl,SqN _ old0,rfl,ap,rfl,⟨_,SqP _ old0⟩,?_⟩;refine Rg (xs:=us) (λi Z H'=>∃(as:List (Str×Ch)) (x2 x3 x4 x5:Option V),Z=[some (.ref an),some (.ref d),x2,x3,x4,x5]/\as.map (·.1)=N.ps.take i/\Stp H d as (λ_=>[]) H') ?_ (λi Z H' hi ⟨as,x2,x3,x4,x5,e,hm,st⟩=>SqP _ st.old) ?_ ?_
 ·exact⟨[],_,_,_,_,rfl,rfl,old0,hd,Ap,(λx hx=>by cases hx),d8,d8⟩
 ·rintro i x Z H' hx ⟨as,x2,x3,x4,x5,rfl,hm,st⟩
  have hi:i<N.ps.length:=by rw [← lus]; exact(c8.mp hx).1
  obtain⟨x',hx',hAt⟩:=hps.get (i:=i) (d:=.str N.ps[i]) (by rw [dC,FM hi]; rfl);rw [hx] at hx';cases hx';obtain⟨rfl,_⟩:=hAt;intro q hq;have las:as.length<=i:=by have:=congrArg fN hm; rw [Go,fC] at this; omega
  have nq:d≠q:=λe=>by rw [← e,st.top] at hq; cases hq
  have las2:(as.map λx=>((.inr x.1:Key),V.ref x.2)).length=as.length:=Go ..;refine⟨_,rfl,_,rfl,d,_,rfl,DPut.k (k:=.inr N.ps[i]) (by rw [Aa nq]; exact st.top) (by omega),?_⟩;refine⟨as++[(N.ps[i],q)],_,_,_,_,rfl,?_,st.more hq ?_ rfl⟩
  ·rw [dq,hm,List.take_succ,FM hi]; rfl
  ·rw [hm]; exact QX (HL ok.rise) hi
 ·rintro Z H' ⟨as,x2,x3,x4,x5,rfl,hm,st⟩
  rw [lus,jf] at hm;refine⟨_,rfl,an,_,1,_,rfl,rfl,SqN _ st.old,rfl,at_,rfl,⟨_,SqW _ st.old⟩,?_⟩;refine Rg (xs:=ws) (λi Z H'=>∃(x2 x3 x4 x5:Option V),Z=[some (.ref an),some (.ref d),x2,x3,x4,x5]/\Stp H d as (λp=>(DR (N.ts.take i) p).map kv) H') ⟨_,_,_,_,rfl,st⟩ (λi Z H' hi ⟨x2,x3,x4,x5,e,st⟩=>SqW _ st.old) ?_ ?_
  ·rintro i x Z H' hx ⟨x2,x3,x4,x5,rfl,st⟩
   have hi:i<N.ts.length:=by rw [← lws]; exact(c8.mp hx).1
   obtain⟨x',hx',hAt⟩:=hts.get (i:=i) (d:=Aj N.ts[i]) (by rw [dC,FM hi]; rfl);rw [hx] at hx';cases hx';have hmem:N.ts[i]∈N.ts:=eZ hi;have hsnoc:N.ts.take (i+1)=N.ts.take i++[N.ts[i]]:=by rw [List.take_succ,FM hi]; rfl
   have hpre:(N.ts.take (i+1)).Pairwise Bp:=ok.trise.sublist (List.take_sublist _ _);have hlt2:∀s∈N.ts.take (i+1),cs s.a<cs s.b:=λs hs=>(ok.tin s (gm hs)).2.2.1;rw [hsnoc] at hpre hlt2;have new:=VY hpre hlt2;have ltk:(N.ts.take i).length<=1000:=by rw [fC]; omega
   generalize N.ts[i]=t at hAt hmem hsnoc new;generalize N.ts.take i=ts at hsnoc new st ltk;obtain⟨m1,m2,m3,_⟩:=ok.tin t hmem;have hab:t.a≠t.b:=λe=>by rw [e] at m3; exact fE _ m3
   obtain⟨ta,tb,tl⟩:=t;obtain⟨tt,us3,rfl,htt,hit⟩:=hAt;obtain⟨va,r3,rfl,⟨rfl,_⟩,vb,r4,rfl,⟨rfl,_⟩,vl,r5,rfl,rfl,e5⟩:=hit;cases (show r5=[] from e5);rw [← hm] at m1 m2;obtain⟨⟨xa,pa⟩,ha,ea⟩:=Re.mp m1;obtain⟨⟨xb,pb⟩,hb,eb⟩:=Re.mp m2;have ea':ta=xa:=ea.symm;have eb':tb=xb:=eb.symm;subst ea' eb';clear ea eb;replace hab:ta≠tb:=hab;replace new:tb∉(DR ts ta).map (·.1)/\ta∉(DR ts tb).map (·.1):=new;have ga:=DGet.k (k:=.inr ta) st.top;rw [Jn st.nms ha] at ga;have l1:=RN ts ta;refine⟨tt,_,rfl,SqT.of (st.old _ _ htt),rfl,_,_,rfl,_,_,rfl,_,_,rfl,rfl,?_⟩;refine⟨_,rfl,_,rfl,_,rfl,d,_,rfl,ga,_,rfl,pa,_,rfl,DPut.k (k:=.inr tb) (st.inn _ ha).2.2 (by show ((DR ts ta).map kv).length<sizeLine; rw [Go]; omega),?_⟩;have st1:=st.put (tb2:=λp=>(DR ts p++if ta=p then [(tb,tl)] else []).map kv) ha (kvs:=putK ((DR ts ta).map kv) (.inr tb) (.int tl)) (by rw [RF new.1,if_pos rfl]) (λq hq=>by rw [if_neg (eW hq),dX]);have gb:=DGet.k (k:=.inr tb) st1.top;rw [Jn st1.nms hb] at gb;have l2:=RN ts tb;have ib:=(st1.inn _ hb).2.2;simp only [if_neg hab,dX] at ib;refine⟨_,rfl,_,rfl,_,rfl,d,_,rfl,gb,_,rfl,pb,_,rfl,DPut.k (k:=.inr ta) ib (by rw [Go]; omega),?_⟩;refine⟨_,_,_,_,rfl,st1.put hb ?_ λq hq=>?_⟩
   ·show (DR (N.ts.take (i+1)) tb).map kv=_
    rw [hsnoc,O_,RF new.2];show ((DR ts tb++((if ta=tb then [(tb,tl)] else [])++if tb=tb then [(ta,tl)] else [])).map kv)=_;rw [if_neg hab,if_pos rfl]; rfl
   ·show (DR (N.ts.take (i+1)) q).map kv=_
    rw [hsnoc,O_];show ((DR ts q++((if ta=q then [(tb,tl)] else [])++if tb=q then [(ta,tl)] else [])).map kv)=_;rw [if_neg (eW hq),dX]
  ·rintro Z H' ⟨x2,x3,x4,x5,rfl,st⟩
   rw [lws,jf] at st
   have old:∀(f:Ch->Obj) b o,H b=some o->G3 H' (as.map (·.2)) f b=some o:=λf b o e=>by
    rw [Eh (λhm=>by obtain⟨x,hx,e2⟩:=Re.mp hm; have:=(st.inn x hx).1; rw [e2,e] at this; cases this)];exact st.old b o e
   refine⟨_,rfl,(as.map fun(x:Str×Ch)=>x.2),λb hb=>?_,λf=>q (.ref d) (G3 H' (as.map fun(x:Str×Ch)=>x.2) f) (FS N) n (λb o e=>⟨o,old f b o e,λ_=>rfl,λ_ _=>rfl⟩) (λg hg=>?_) (show At K M (G3 H' (as.map fun(x:Str×Ch)=>x.2) f) (FS N) (.ref d) from st.at_ dom hm f) p⟩
   ·obtain⟨x,hx,rfl⟩:=Re.mp hb
    exact⟨_,(st.inn x hx).2.2⟩
   ·obtain⟨a,r,cells,hf,hcf,hc,rest⟩:=fd0 g hg
    exact⟨a,r,cells,old f _ _ hf,hcf,⟨hc.1,old f _ _ hc.2⟩,rest⟩
theorem WG:Ae ["net","ties"] ["net","ties"] (AQ QF):=by walk_at "s"
theorem WW(T:Txt K mg)(F:Fu K "only" QF f fd):A8 P w K mg base B9 1 f fd ["net","ties"] (Cq K .sh F6 2) :=
 Dv F WG (λhr=>(AJ (AV (A1 (AF (AR AK Af (dv 0) AC) (AF (By BY C_ rfl T.Gab gW (AO (Ah G7 OH rfl T.Gae iH (AO (J0 1) AT)) AT)) AX)))))) Si
theorem NK:Ae ["net","thing"] ["net","thing"] (AQ FX):=by walk_at "s"
theorem Ni(T:Txt K mg)(kW:HA P w K mg base)(F:Fu K "is_tie_of" FX f fd):A8 P w K mg base B9 2 f fd ["net","thing"] (Cq K .sh XE 2) :=
 Dv F NK (λhr=>(AJ (AV (C1 (BP (Bz hr) CD (dv 1) (AR AK Af (dv 0) AC) (by with_unfolding_all rfl)) (EX (cg hr kW (AA (AM (AR AK Af (dv 1) AC)) AN))))))) NV
theorem QD:Ae ["net","thing"] ["net","thing"] (AQ IY):=by walk_at "s"
theorem QV(T:Txt K mg)(kX:JO P w K mg base)(kY:JN P w K mg base)(kZ:CK P w K mg base)(F:Fu K "is_thin" IY f fd):A8 P w K mg base B9 3 f fd ["net","thing"] (Cq K .sh JQ 2) :=
 Dv F QD (λhr=>(AE (Az (DTW.dt (Bs (BM (BG (cg hr kZ (AA (AM AC) (AA (AM (dv 1)) AN))))) (Bq (BM (BG (B0 kit_tuple (AR AK Af (dv 1) AC) rfl T.Gaa rfl T.Gab (by decide +kernel))))))) (AJ (AV Bk)) Am)
 (AJ (AV (C1 (BP (U0 hr) Xt (AR AK Af (dv 1) AC) (AR AK Af (dv 0) AC) (Ak _)) (C1 (Ah (Dy rfl) Lh rfl T.Gah fJ (AO (Ip [("net":Str),("tie":Str)] [some 0,none] (BI (AR AK Af (dv 1) AC)) (Ab (i:=1) (show dS [("net":Str),("tie":Str)] by decide +kernel) rfl (Uf rfl)) A_ (cg hr kY (AA (AM (dv 0)) (AA (AM (dv 1)) AN))) (by kernel_rfl)) AT)) (EX (cg hr kX (AA (AM (AR AK Af (dv 1) AC)) AN))))))))) QL
theorem Oi:Ae ["net","tie"] ["net","tie"] (AQ Gs):=by walk_at "s"
theorem O8(T:Txt K mg)(kc:Qx P w K mg base)(kT:Iw P w K mg base)(F:Fu K "ahead_of" Gs f fd):A8 P w K mg base B9 2 f fd ["net","tie"] (Cq K .sh F8 2) :=
 Dv F Oi (λhr=>(AJ (AV (cg hr kc (AA (AM (dv 0)) (AA (JG (Ip [("tie":Str),("other":Str)] [some 1,none] (BI (AR AK Af (dv 0) AC)) (Ab (i:=1) (show dS [("tie":Str),("other":Str)] by decide +kernel) rfl (Uf rfl)) (Rq (Al (DD hr) FL (cg hr kT (AA (AM (dv 1)) AN)) (cg hr kT (AA (AM (dv 0)) AN)) (Ak _))) (dv 1) (by kernel_rfl))) AN)))))) QM
theorem kd:Ae ["net","thing","steps","length","here","there"] ["net","thing"] (AQ FV):=by walk_at "s"
theorem Ng(T:Txt K mg)(ke:G_ P w K mg base)(F:Fu K "length_of" FV f fd):A8 P w K mg base B9 2 f fd ["net","thing"] (Cq K .sh Vw 2) :=
 Dv F kd (λhr=>(AE (Az (DTW.dt (Bs (BM (BG (B0 kit_tuple (dv 1) rfl T.Gaa rfl T.Gab (by decide +kernel)))) (Bq (Al Ef Iv (Ah A3 CJ rfl T.Gac PySem.boot_len (AO (dv 1) AT)) AC (Ak _))))) (AJ (AV BQ)) Am)
 (AE (Az (BM (BG (Ah (Dy rfl) Lh rfl T.Gah fJ (AO (Ip [("place":Str)] [none] (BI (dv 1)) (Ab (i:=0) (show dS [("place":Str)] by decide +kernel) rfl (Uf rfl)) A_ (B0 Nu (dv 0) rfl T.Gaa rfl T.Gam (by decide +kernel)) (by kernel_rfl)) AT)))) (AJ (AV BQ)) Am)
 (AE (An (i:=2) kd.nd rfl (Uf rfl) (cg hr ke (AA (AM (dv 0)) AN)))
 (AE (Az (Al (GA hr) IA (AR AK Af (dv 1) AC) (dv 2) (by with_unfolding_all rfl)) (AJ (AV BQ)) Am)
 (AE (An (i:=3) kd.nd rfl (Uf rfl) AC)
 (AE (CV da rfl (ZG rfl T.Gao (AF (dv 1) (AF (GY Lu Gd (dv 1) (CN AC) EC) AX))) (DH rfl (Aw (Ab (i:=4) kd.nd rfl (Uf rfl)) (Aw (Ab (i:=5) kd.nd rfl (Uf rfl)) CO))) (AE (Az (Al (GA hr) IA (dv 5) (CQ hr (dv 2) (dv 4)) (by with_unfolding_all rfl)) (AJ (AV BQ)) Am)
 (AJ (Ww (i:=3) kd.nd rfl (Uf rfl) (CQ hr (CQ hr (dv 2) (dv 4)) (dv 5))))))
 (AJ (AV (dv 3)))))))))) NR
theorem kg:Ae ["net","a","b","thing","length"] ["net","a","b","thing"] (AQ Ct):=by walk_at "s"
theorem HS(T:Txt K mg)(kh:Fv P w K mg base)(F:Fu K "length_between" Ct f fd):A8 P w K mg base B9 3 f fd ["net","a","b","thing"] (Cq K .sh SA 4) :=
 Dv F kg (λhr=>(AE (An (i:=4) kg.nd rfl (Uf rfl) (cg hr kh (AA (AM (dv 0)) (AA (AM (dv 3)) AN))))
 (AE (Az (DTW.dt (Bs (Al Ih Ms (dv 4) BQ (Ak _)) (Bs (Al Ee Iu (AR AK Af (dv 3) AC) (dv 1) (Ak _)) (Bq (Al Ee Iu (AR AK Af (dv 3) (Ve AC)) (dv 2) (Ak _)))))) (AJ (AV BQ)) Am)
 (AJ (AV (dv 4)))))) GP
theorem Lv:Ae ["waiting","found"] ["waiting","found"] (AQ E3):=by walk_at "s"
theorem L6(T:Txt K mg)(F:Fu K "nearest_of" E3 f fd):A8 P w K mg base B9 1 f fd ["waiting","found"] (Cq K .sh R9 2) :=
 Dv F Lv (λhr=>(AJ (AV (AR AK Af (Ah (Ti hr) ZR rfl T.Gak boot_min (AO (Ip [("found":Str),("place":Str)] [some 1,none] (BI (J0 0)) (Ab (i:=1) (show dS [("found":Str),("place":Str)] by decide +kernel) rfl (Uf rfl)) A_ (A1 (AF (AR AK Af (CQ hr (J0 0) (dv 1)) AC) (AF (dv 1) AX))) (by kernel_rfl)) AT)) AC)))) Lz
theorem ki:Ae ["net","start","steps","found","waiting","place","other","step","length"] ["net","start"] (AQ E4):=by walk_at "s"
theorem L7(T:Txt K mg)(kj:IB P w K mg base)(ke:G_ P w K mg base)(F:Fu K "least_ways" E4 f fd):A8 P w K mg base B9 2 f fd ["net","start"] (Cq K .fr Lo 2) :=
 Dv F ki (λhr=>(AE (An (i:=2) ki.nd rfl (Uf rfl) (cg hr ke (AA (AM (dv 0)) AN)))
 (AE (CM (i:=3) ki.nd rfl (Uf rfl) (Pj (dv 1) (A1 (AF AC (AF BQ AX)))))
 (AE (CM (i:=4) ki.nd rfl (Uf rfl) (Cj (AF (dv 1) AX)))
 (AE (LK da (ZC (J0 4)) (AE (An (i:=5) ki.nd rfl (Uf rfl) (cg hr kj (AA (JG (J0 4)) (AA (JG (J0 3)) AN))))
 (AE (Ej 4 PySem.F.plainAttrs_list PySem.F.slot_list_remove PySem.F.type_list_remove (S7 hr) aq (pv 4) (AF (dv 5) AX))
 (AJ (CV da rfl (Vb (CQ hr (dv 2) (dv 5))) (DH rfl (Aw (Ab (i:=6) ki.nd rfl (Uf rfl)) (Aw (Ab (i:=7) ki.nd rfl (Uf rfl)) CO))) (AE (An (i:=8) ki.nd rfl (Uf rfl) (As A9 BR (AR AK Af (CQ hr (J0 3) (dv 5)) AC) (dv 7)))
 (AJ (Az (Al (GA hr) IA (dv 6) (J0 3) (by with_unfolding_all rfl)) (AE (Ej 4 PySem.F.plainAttrs_list PySem.F.slot_list_append PySem.F.type_list_append BZ FN (pv 4) (AF (dv 6) AX))
 (AJ (N4 (i:=3) hr (pv 3) (dv 6) (A1 (AF (dv 8) (AF (dv 5) AX)))))) (AJ (Az (Al (DD hr) FL (dv 8) (AR AK Af (CQ hr (J0 3) (dv 6)) AC) (Ak _)) (AJ (N4 (i:=3) hr (pv 3) (dv 6) (A1 (AF (dv 8) (AF (dv 5) AX))))) Am))))))))))
 (AJ (Ro 3 (pv 3)))))))) L1
theorem km:Ae ["net","a","b","found","way","place"] ["net","a","b"] (AQ Ki):=by walk_at "s"
theorem S1(T:Txt K mg)(kn:FE P w K mg base)(F:Fu K "way_of" Ki f fd):A8 P w K mg base B9 3 f fd ["net","a","b"] (Cq K .sh Vu 3) :=
 Dv F km (λhr=>(AE (An (i:=3) km.nd rfl (Uf rfl) (cg hr kn (AA (AM (dv 0)) (AA (AM (dv 1)) AN))))
 (AE (Az (Al (GA hr) IA (dv 2) (dv 3) (by with_unfolding_all rfl)) (AJ (AV BQ)) Am)
 (AE (CM (i:=4) km.nd rfl (Uf rfl) (Cj AX))
 (AE (An (i:=5) km.nd rfl (Uf rfl) (dv 2))
 (AE (LK da (Al Ju OI (dv 5) BQ (Ak _)) (AE (Ej 4 PySem.F.plainAttrs_list PySem.F.slot_list_append PySem.F.type_list_append BZ FN (pv 4) (AF (dv 5) AX))
 (AJ (An (i:=5) km.nd rfl (Uf rfl) (AR AK Af (CQ hr (dv 3) (dv 5)) AC)))))
 (AJ (AV (Tf rfl (J0 4) rfl T.Gab rfl T.Gal))))))))) Sa
theorem Lw:Ae ["net","thing"] ["net","thing"] (AQ E5):=by walk_at "s"
theorem L8(T:Txt K mg)(kZ:CK P w K mg base)(kW:HA P w K mg base)(F:Fu K "are_prices" E5 f fd):A8 P w K mg base B9 2 f fd ["net","thing"] (Cq K .sh J_ 2) :=
 Dv F Lw (λhr=>(AJ (AV (C1 (cg hr kZ (AA (AM (Ah A3 CJ rfl T.Gac PySem.boot_len (AO (AR AK Af (dv 0) AC) AT))) (AA (AM (dv 1)) AN))) (EX (Ah (Dy rfl) Lh rfl T.Gah fJ (AO (Ip [("price":Str)] [none] (BI (dv 1)) (Ab (i:=0) (show dS [("price":Str)] by decide +kernel) rfl (Uf rfl)) A_ (C1 (cg hr kW (AA (AM (dv 0)) AN)) (EX (BP Yi au (dv 0) AC (Ak _)))) (by kernel_rfl)) AT))))))) Kp
theorem NI:Ae ["net","prices","a","b"] ["net","prices","a","b"] (AQ FU):=by walk_at "s"
theorem Nf(T:Txt K mg)(F:Fu K "price_gap" FU f fd):A8 P w K mg base B9 1 f fd ["net","prices","a","b"] (Cq K .sh Vx 4) :=
 Dv F NI (λhr=>(AJ (AV (Ah LX Vt rfl T.Gai boot_abs (AO (As E9 G8 (AR AK Af (dv 1) (N9 hr (AR AK Af (dv 0) AC) (AO (dv 2) AT))) (AR AK Af (dv 1) (N9 hr (AR AK Af (dv 0) AC) (AO (dv 3) AT)))) AT))))) Ly
theorem QE:Ae ["net","thing"] ["net","thing"] (AQ IZ):=by walk_at "s"
theorem QW(T:Txt K mg)(ko:IC P w K mg base)(kq:Ft P w K mg base)(F:Fu K "is_fair" IZ f fd):A8 P w K mg base B9 3 f fd ["net","thing"] (Cq K .sh SD 2) :=
 Dv F QE (λhr=>(AE (Az (BM (BG (cg hr ko (AA (AM (dv 0)) (AA (AM (dv 1)) AN))))) (AJ (AV Bk)) Am)
 (AJ (AV (Ah (Dy rfl) Lh rfl T.Gah fJ (AO (Ip [("net":Str),("thing":Str),("a":Str),("b":Str),("length":Str)] [some 0,some 1,none,none,none] (BI (AR AK Af (dv 0) AC)) (DH rfl (Aw (Ab (i:=2) (show dS [("net":Str),("thing":Str),("a":Str),("b":Str),("length":Str)] by decide +kernel) rfl (Uf rfl)) (Aw (Ab (i:=3) (show dS [("net":Str),("thing":Str),("a":Str),("b":Str),("length":Str)] by decide +kernel) rfl (Uf rfl)) (Aw (Ab (i:=4) (show dS [("net":Str),("thing":Str),("a":Str),("b":Str),("length":Str)] by decide +kernel) rfl (Uf rfl)) CO)))) A_ (BP Gw Lg (cg hr kq (AA (AM (dv 0)) (AA (AM (dv 1)) (AA (AM (dv 2)) (AA (AM (dv 3)) AN))))) (dv 4) (Ak _)) (by kernel_rfl)) AT)))))) Ot
theorem kr:Ae ["net","place","most","found"] ["net","place","most"] (AQ EL):=by walk_at "s"
theorem Ku(T:Txt K mg)(kn:FE P w K mg base)(F:Fu K "prices_from" EL f fd):A8 P w K mg base B9 3 f fd ["net","place","most"] (Cq K .sh OM 3) :=
 Dv F kr (λhr=>(AE (An (i:=3) kr.nd rfl (fH rfl) (cg hr kn (AA (AM (dv 0)) (AA (AM (dv 1)) AN))))
 (AJ (AV (By BY C_ rfl T.Gab gW (AO (Ip [("most":Str),("found":Str),("other":Str)] [some 2,some 3,none] (BI (AR AK Af (dv 0) AC)) (Ab (i:=2) (show dS [("most":Str),("found":Str),("other":Str)] by decide +kernel) rfl (Uf rfl)) A_ (Ho (Al (U1 hr) Xu (dv 2) (dv 1) (by with_unfolding_all rfl)) (Ah (Mf rfl) Vr rfl T.Gak boot_min (AO (dv 0) (AO (AR AK Af (CQ hr (dv 1) (dv 2)) AC) AT))) (dv 0)) (by kernel_rfl)) AT)))))) JV
theorem NJ:Ae ["length","times","number"] ["length","times","number"] (AQ FW):=by walk_at "s"
theorem Nh(T:Txt K mg)(F:Fu K "is_within" FW f fd):A8 P w K mg base B9 1 f fd ["length","times","number"] (Cq K .sh GI 3) :=
 Dv F NJ (λhr=>(AJ (AV (BP Gw Lg (As Bo CW (dv 0) (AR AK Af (dv 1) AC)) (As Bo CW (dv 2) (AR AK Af (dv 1) AC)) (Ak _))))) NU
theorem JT:Ae ["times","number"] ["times","number"] (AQ De):=by walk_at "s"
theorem JZ(T:Txt K mg)(F:Fu K "least_beyond" De f fd):A8 P w K mg base B9 1 f fd ["times","number"] (Cq K .sh GO 2) :=
 Dv F JT (λhr=>(AJ (AV (As A9 BR (As HR Co (As Bo CW (dv 1) (AR AK Af (dv 0) AC)) (AR AK Af (dv 0) AC)) AC)))) Ox
theorem ku:Ae ["net","times","tie","way"] ["net","times","tie"] (AQ Gq):=by walk_at "s"
theorem O6(T:Txt K mg)(kz:EG P w K mg base)(kh:Fv P w K mg base)(k6:Li P w K mg base)(F:Fu K "near_way" Gq f fd):A8 P w K mg base B9 4 f fd ["net","times","tie"] (Cq K .sh Ln 3) :=
 Dv F ku (λhr=>(AE (An (i:=3) ku.nd rfl (Uf rfl) (cg hr k6 (AA (AM (dv 0)) (AA (AM (AR AK Af (dv 2) AC)) (AA (AM (AR AK Af (dv 2) AC)) AN)))))
 (AE (Az (DTW.dt (Bs (Al Ih Ms (dv 3) BQ (Ak _)) (Bq (BM (BG (cg hr kz (AA (AM (cg hr kh (AA (AM (dv 0)) (AA (AM (dv 3)) AN)))) (AA (AM (dv 1)) (AA (AM (AR AK Af (dv 2) AC)) AN))))))))) (AJ (AV BQ)) Am)
 (AJ (AV (dv 3)))))) L0
theorem k7:Ae ["net","times","kept","tie"] ["net","times"] (AQ IW):=by walk_at "s"
theorem QT(T:Txt K mg)(k8:Lj P w K mg base)(kc:Qx P w K mg base)(k9:FD P w K mg base)(F:Fu K "thinned" IW f fd):A8 P w K mg base B9 5 f fd ["net","times"] (Cq K .sh DA 2) :=
 Dv F k7 (λhr=>(AE (CM (i:=2) k7.nd rfl (Uf rfl) (Cj AX))
 (AE (CV da rfl (LO (cg hr k9 (AA (AM (AR AK Af (dv 0) AC)) AN))) (Ab (i:=3) k7.nd rfl (Uf rfl)) (AJ (Az (Al Ih Ms (cg hr k8 (AA (AM (cg hr kc (AA (AM (dv 0)) (AA (JG (J0 2)) AN)))) (AA (AM (dv 1)) (AA (AM (dv 3)) AN)))) BQ (Ak _)) (AJ (Ej 2 PySem.F.plainAttrs_list PySem.F.slot_list_append PySem.F.type_list_append BZ FN (pv 2) (AF (dv 3) AX))) Am)))
 (AJ (AV (cg hr kc (AA (AM (dv 0)) (AA (JG (J0 2)) AN)))))))) NQ
theorem k_:Ae ["net","times","thin","paper","tie","ahead"] ["net","times"] (AQ Df):=by walk_at "s"
theorem Ja(T:Txt K mg)(lA:HB P w K mg base)(lB:Fw P w K mg base)(k9:FD P w K mg base)(lC:Ge P w K mg base)(lD:Mt P w K mg base)(k6:Li P w K mg base)(F:Fu K "greedy_paper" Df f fd):A8 P w K mg base B9 6 f fd ["net","times"] (Cq K .sh GK 2) :=
 Dv F k_ (λhr=>(AE (An (i:=2) k_.nd rfl (Uf rfl) (cg hr lD (AA (AM (dv 0)) (AA (AM (dv 1)) AN))))
 (AE (CM (i:=3) k_.nd rfl (Uf rfl) (Cj AX))
 (AE (CV da rfl (LO (cg hr k9 (AA (AM (AR AK Af (dv 0) AC)) AN))) (Ab (i:=4) k_.nd rfl (Uf rfl)) (AE (An (i:=5) k_.nd rfl (Uf rfl) (cg hr lA (AA (AM (dv 2)) (AA (AM (dv 4)) AN))))
 (AJ (Az (Al (Bz hr) CD (dv 4) (AR AK Af (dv 2) AC) (by with_unfolding_all rfl)) (AJ (Ej 3 PySem.F.plainAttrs_list PySem.F.slot_list_append PySem.F.type_list_append BZ FN (pv 3) (AF (A1 (AF Ay (AF (cg hr lC (AA (AM (dv 5)) (AA (AM (AR AK Af (dv 4) AC)) (AA (AM (cg hr lB (AA (AM (dv 1)) (AA (AM (AR AK Af (dv 4) AC)) AN)))) AN)))) AX))) AX))) (AJ (Ej 3 PySem.F.plainAttrs_list PySem.F.slot_list_append PySem.F.type_list_append BZ FN (pv 3) (AF (A1 (AF Ay (AF (cg hr k6 (AA (AM (dv 5)) (AA (AM (AR AK Af (dv 4) AC)) (AA (AM (AR AK Af (dv 4) AC)) AN)))) AX))) AX)))))))
 (AJ (AV (By BY C_ rfl T.Gab gW (AO (J0 3) AT)))))))) Ou
theorem lE:Ae ["net","times","tie","thing","length"] ["net","times","tie","thing"] (AQ FT):=by walk_at "s"
theorem Nd(T:Txt K mg)(kz:EG P w K mg base)(lF:Ew P w K mg base)(F:Fu K "way_fault" FT f fd):A8 P w K mg base B9 4 f fd ["net","times","tie","thing"] (Cq K .sh J8 4) :=
 Dv F lE (λhr=>(AE (An (i:=4) lE.nd rfl (Uf rfl) (cg hr lF (AA (AM (dv 0)) (AA (AM (AR AK Af (dv 2) AC)) (AA (AM (AR AK Af (dv 2) AC)) (AA (AM (dv 3)) AN))))))
 (AE (Az (Al Ih Ms (dv 4) BQ (Ak _)) (AJ (AV Ay)) Am)
 (AJ (AV (Ho (BG (cg hr kz (AA (AM (dv 4)) (AA (AM (dv 1)) (AA (AM (AR AK Af (dv 2) AC)) AN))))) BQ Ay)))))) Kk
theorem JS:Ae ["net","times","tie","thing"] ["net","times","tie","thing"] (AQ Dd):=by walk_at "s"
theorem JY(T:Txt K mg)(lG:Mv P w K mg base)(kz:EG P w K mg base)(kq:Ft P w K mg base)(F:Fu K "prices_fault" Dd f fd):A8 P w K mg base B9 4 f fd ["net","times","tie","thing"] (Cq K .sh GJ 4) :=
 Dv F JS (λhr=>(AE (Az (BM (BG (cg hr lG (AA (AM (dv 0)) (AA (AM (dv 3)) AN))))) (AJ (AV Ay)) Am)
 (AJ (AV (Ho (BG (cg hr kz (AA (AM (cg hr kq (AA (AM (dv 0)) (AA (AM (dv 3)) (AA (AM (AR AK Af (dv 2) AC)) (AA (AM (AR AK Af (dv 2) AC)) AN)))))) (AA (AM (dv 1)) (AA (AM (AR AK Af (dv 2) AC)) AN))))) Ay BQ))))) Ol
theorem lH:Ae ["times","thin","tie","entry","kept","ahead"] ["times","thin","tie","entry"] (AQ Dg):=by walk_at "s"
theorem Jb(T:Txt K mg)(lA:HB P w K mg base)(lI:Fs P w K mg base)(lJ:JM P w K mg base)(F:Fu K "greedy_fault" Dg f fd):A8 P w K mg base B9 5 f fd ["times","thin","tie","entry"] (Cq K .sh GL 4) :=
 Dv F lH (λhr=>(AE (An (i:=4) lH.nd rfl (Uf rfl) (BP (Bz hr) CD (dv 2) (AR AK Af (dv 1) AC) (by with_unfolding_all rfl)))
 (AE (Az (Al Ee Iu (dv 4) (BP Ef Iv (AR AK Af (dv 3) AC) Ay (Ak _)) (Ak _)) (AJ (AV Ay)) Am)
 (AE (An (i:=5) lH.nd rfl (Uf rfl) (cg hr lA (AA (AM (dv 1)) (AA (AM (dv 2)) AN))))
 (AJ (AV (Ho (BG (dv 4)) (cg hr lI (AA (AM (dv 5)) (AA (AM (dv 0)) (AA (AM (dv 2)) (AA (AM (AR AK Af (dv 3) AC)) AN))))) (cg hr lJ (AA (AM (dv 5)) (AA (AM (dv 0)) (AA (AM (dv 2)) (AA (AM (AR AK Af (dv 3) AC)) AN)))))))))))) Ov
theorem Gm:Ae ["thing"] ["thing"] (AQ Ce):=by walk_at "s"
theorem Gx(T:Txt K mg)(kZ:CK P w K mg base)(F:Fu K "is_greedy_entry" Ce f fd):A8 P w K mg base B9 2 f fd ["thing"] (Cq K .sh GN 1) :=
 Dv F Gm (λhr=>(AJ (AV (C1 (cg hr kZ (AA (AM AC) (AA (AM (dv 0)) AN))) (EX (BP (Bz hr) CD (AR AK Af (dv 0) AC) (A1 (AF Ay (AF Ay AX))) (by with_unfolding_all rfl))))))) Ow
theorem lK:Ae ["net","times","thin","paper","number","tie","fault"] ["net","times","thin","paper"] (AQ EM):=by walk_at "s"
theorem Kv(T:Txt K mg)(lL:Fy P w K mg base)(lM:EH P w K mg base)(lN:Mu P w K mg base)(kZ:CK P w K mg base)(k9:FD P w K mg base)(F:Fu K "lets_greedy" EM f fd):A8 P w K mg base B9 6 f fd ["net","times","thin","paper"] (Cq K .sh F7 4) :=
 Dv F lK (λhr=>(AE (Az (DTW.dt (Bs (BM (BG (cg hr lN (AA (AM (dv 0)) (AA (AM (dv 2)) AN))))) (Bq (BM (BG (cg hr kZ (AA (AM (Ah A3 CJ rfl T.Gac PySem.boot_len (AO (AR AK Af (dv 0) AC) AT))) (AA (AM (dv 3)) AN)))))))) (AJ LL) Am)
 (AE (Az (BM (BG (Ah (Dy rfl) Lh rfl T.Gah fJ (AO (Ip [("entry":Str)] [none] (BI (dv 3)) (Ab (i:=0) (show dS [("entry":Str)] by decide +kernel) rfl (Uf rfl)) A_ (cg hr lM (AA (AM (dv 0)) AN)) (by kernel_rfl)) AT)))) (AJ LL) Am)
 (AE (CV da rfl (N7 rfl T.Gag (cg hr k9 (AA (AM (AR AK Af (dv 0) AC)) AN))) (DH rfl (Aw (Ab (i:=4) lK.nd rfl (Uf rfl)) (Aw (Ab (i:=5) lK.nd rfl (Uf rfl)) CO))) (AE (An (i:=6) lK.nd rfl (Uf rfl) (cg hr lL (AA (AM (dv 1)) (AA (AM (dv 2)) (AA (AM (dv 5)) (AA (AM (AR AK Af (dv 3) (dv 4))) AN))))))
 (AJ (Az (Al Ju OI (dv 6) BQ (Ak _)) (AJ LL) Am))))
 (AJ (AV Bk)))))) QJ
theorem Lx:Ae ["_law_thing","_law_least_here","_law_most"] ["_law_thing","_law_least_here","_law_most"] (AQ E6):=by walk_at "s"
theorem L9(T:Txt K mg)(F:Fu K "_law_whole" E6 f fd):A8 P w K mg base B9 1 f fd ["_law_thing","_law_least_here","_law_most"] (Cq K .sh IF 3) :=
 Dv F Lx (λhr=>(AJ (AV (C1 (B0 RU (dv 0) rfl T.Gaa rfl T.Gaj (by decide +kernel)) (C1 (Vd (B0 PU (dv 0) rfl T.Gaa rfl T.Gan (by decide +kernel))) (EX (Vg Gw Lg Gw Lg (dv 1) (dv 0) (dv 2)))))))) NS
theorem lO:Ae ["_law_feed_here","_law_many","_law_way","_law_words","_law_first","_law_letters","_law_word","_law_at","_law_names","_law_k","_law_sign"] ["_law_feed_here","_law_many"] (AQ EQ):=by walk_at "s"
theorem Ky(T:Txt K mg)(lP:B8 P w K mg base)(F:Fu K "_law_places" EQ f fd):A8 P w K mg base B9 2 f fd ["_law_feed_here","_law_many"] (Cq K .fr KA 2) :=
 Dv F lO (λhr=>(AE (An (i:=2) lO.nd rfl (Uf rfl) (cg hr lP (AA (Bt 0) (AA (AM AC) AN))))
 (AE (An (i:=3) lO.nd rfl (fH rfl) (Cj (AF Ay (AF Ay (AF Ay (AF Ay (AF Ay (AF Ay (AF Ay (AF Ay (AF Ay (AF Ay (AF Ay (AF Ay AX))))))))))))))
 (AE (Az (DTW.dt (LJ (Al Ef Iv (dv 2) AC (Ak _)) (Jz (Al (DD hr) FL (dv 1) AC (Ak _))))) (AE (An (i:=4) lO.nd rfl (fH rfl) (cg hr lP (AA (Bt 0) (AA (AM AC) AN))))
 (AJ (AV (Ah LW R6 rfl T.Gae iH (AO (Ip [("_law_words":Str),("_law_first":Str),("_law_k":Str)] [some 3,some 4,none] (DI.c (Cc rfl T.Gad (AO (dv 1) AT))) (Ab (i:=2) (show dS [("_law_words":Str),("_law_first":Str),("_law_k":Str)] by decide +kernel) rfl (Uf rfl)) A_ (AR AK Af (dv 0) (As EU Co (As A9 BR (dv 1) (dv 2)) AC)) (by kernel_rfl)) AT))))) Am)
 (AE (An (i:=5) lO.nd rfl (fH rfl) Ay)
 (AE (An (i:=6) lO.nd rfl (fH rfl) (ak PySem.F.plainAttrs_str PySem.F.slot_str_join PySem.F.type_str_join Wa ZS Ay (AO (Ip [("_law_letters":Str),("_law_feed_here":Str),("_law_k":Str)] [some 5,some 0,none] (DI.c (Cc rfl T.Gad (AO AC AT))) (Ab (i:=2) (show dS [("_law_letters":Str),("_law_feed_here":Str),("_law_k":Str)] by decide +kernel) rfl (Uf rfl)) A_ (AR AK Af (dv 0) (cg hr lP (AA (Bt 1) (AA (AM AC) AN)))) (by kernel_rfl)) AT)))
 (AE (Az (DTW.dt (LJ (Al Ef Iv (dv 2) AC (Ak _)) (Jz (Al (DD hr) FL (dv 1) AC (Ak _))))) (AJ (AV (Ip [("_law_word":Str),("_law_k":Str)] [some 6,none] (DI.c (Cc rfl T.Gad (AO (dv 1) AT))) (Ab (i:=1) (show dS [("_law_word":Str),("_law_k":Str)] by decide +kernel) rfl (Uf rfl)) A_ (GY Lu Gd (dv 0) EC (CN (As A9 BR AC (dv 1)))) (by kernel_rfl)))) Am)
 (AE (An (i:=7) lO.nd rfl (Uf rfl) (cg hr lP (AA (Bt 0) (AA (AM AC) AN))))
 (AE (An (i:=4) lO.nd rfl (fH rfl) (cg hr lP (AA (Bt 0) (AA (AM AC) AN))))
 (AE (CM (i:=8) lO.nd rfl (Uf rfl) (Cj AX))
 (AE (CV da rfl (Cc rfl T.Gad (AO (dv 1) AT)) (Ab (i:=9) lO.nd rfl (Uf rfl)) (AE (An (i:=10) lO.nd rfl (Uf rfl) (AR AK Af (dv 5) (As EU Co (As A9 BR (dv 4) (dv 9)) AC)))
 (AJ (Ej 8 PySem.F.plainAttrs_list PySem.F.slot_list_append PySem.F.type_list_append BZ FN (pv 8) (AF (As A9 BR (As A9 BR (As A9 BR (GY Lu Gd (dv 6) EC (CN (dv 7))) (dv 10)) (GY Lu Gd (dv 6) (CN (As A9 BR (dv 7) AC)) (CN AC))) (As Bo CW Ay (As EU Co (dv 9) AC))) AX)))))
 (AJ (AV (Ah LW R6 rfl T.Gae iH (AO (J0 8) AT))))))))))))))) Sf
theorem Kf:Ae ["_law_feed_here","_law_scale"] ["_law_feed_here","_law_scale"] (AQ ER):=by walk_at "s"
theorem Kz(T:Txt K mg)(lP:B8 P w K mg base)(F:Fu K "_law_length" ER f fd):A8 P w K mg base B9 2 f fd ["_law_feed_here","_law_scale"] (Cq K .sh XG 2) :=
 Dv F Kf (λhr=>(AE (Az (Al Ef Iv (dv 1) AC (Ak _)) (AJ (AV (As A9 BR AC (cg hr lP (AA (Bt 0) (AA (AM AC) AN)))))) Am)
 (AE (Az (Al Ef Iv (dv 1) AC (Ak _)) (AJ (AV (As A9 BR AC (cg hr lP (AA (Bt 0) (AA (AM AC) AN)))))) Am)
 (AJ (AV (Ho (Al Ef Iv (dv 1) AC (Ak _)) (As E9 G8 (As E_ Co AC AC) (cg hr lP (AA (Bt 0) (AA (AM AC) AN)))) (As A9 BR AC (cg hr lP (AA (Bt 0) (AA (AM (As E_ Co AC AC)) AN)))))))))) Sk
theorem lQ:Ae ["_law_feed_here","_law_most","_law_ties","_law_places_here","_law_few","_law_scale","_law_found","_law_one","_law_other"] ["_law_feed_here","_law_most","_law_ties"] (AQ Gu):=by walk_at "s"
theorem O9(T:Txt K mg)(lR:Gi P w K mg base)(lP:B8 P w K mg base)(lS:Gh P w K mg base)(F:Fu K "_law_net" Gu f fd):A8 P w K mg base B9 3 f fd ["_law_feed_here","_law_most","_law_ties"] (Cq K .sh Vv 3) :=
 Dv F lQ (λhr=>(AE (An (i:=3) lQ.nd rfl (Uf rfl) (cg hr lS (AA (Bt 0) (AA (AM (As A9 BR AC (cg hr lP (AA (Bt 0) (AA (AM (dv 1)) AN))))) AN))))
 (AE (An (i:=4) lQ.nd rfl (Uf rfl) (As A9 BR AC (cg hr lP (AA (Bt 0) (AA (AM AC) AN)))))
 (AE (An (i:=5) lQ.nd rfl (Uf rfl) (cg hr lP (AA (Bt 0) (AA (AM AC) AN))))
 (AE (CM (i:=6) lQ.nd rfl (Uf rfl) (Cj AX))
 (AE (CV da rfl (Cc rfl T.Gad (AO (Ah A3 CJ rfl T.Gac PySem.boot_len (AO (dv 3) AT)) AT)) (Ab (i:=7) lQ.nd rfl (Uf rfl)) (AJ (CV da rfl (Md rfl T.Gad (AO (As A9 BR (dv 7) AC) (AO (Ah A3 CJ rfl T.Gac PySem.boot_len (AO (dv 3) AT)) AT))) (Ab (i:=8) lQ.nd rfl (Uf rfl)) (AJ (Az (DTW.dt (LJ (Al Gw Lg (cg hr lP (AA (Bt 0) (AA (AM AC) AN))) (dv 4) (Ak _)) (Jz (Al (DD hr) FL (Ah A3 CJ rfl T.Gac PySem.boot_len (AO (J0 6) AT)) (dv 2) (Ak _))))) (AJ (Ej 6 PySem.F.plainAttrs_list PySem.F.slot_list_append PySem.F.type_list_append BZ FN (pv 6) (AF (A1 (AF (AR AK Af (dv 3) (dv 7)) (AF (AR AK Af (dv 3) (dv 8)) (AF (cg hr lR (AA (Bt 0) (AA (AM (dv 5)) AN))) AX)))) AX))) Am)))))
 (AJ (AV (A1 (AF (By BY C_ rfl T.Gab gW (AO (dv 3) AT)) (AF (By BY C_ rfl T.Gab gW (AO (J0 6) AT)) AX))))))))))) YL
theorem lT:Ae ["_law_feed_here","_law_some","_law_at","_law_bottom"] ["_law_feed_here"] (AQ E7):=by walk_at "s"
theorem L_(T:Txt K mg)(lP:B8 P w K mg base)(F:Fu K "_law_times" E7 f fd):A8 P w K mg base B9 2 f fd ["_law_feed_here"] (Cq K .sh Lm 1) :=
 Dv F lT (λhr=>(AE (An (i:=1) lT.nd rfl (Uf rfl) (Cj (AF (A1 (AF AC (AF AC AX))) (AF (A1 (AF AC (AF AC AX))) (AF (A1 (AF AC (AF AC AX))) (AF (A1 (AF AC (AF AC AX))) (AF (A1 (AF AC (AF AC AX))) (AF (A1 (AF AC (AF AC AX))) (AF (A1 (AF (As E_ Co AC AC) (AF AC AX))) (AF (A1 (AF (As E_ Co AC AC) (AF (As E_ Co AC AC) AX))) AX))))))))))
 (AE (An (i:=2) lT.nd rfl (Uf rfl) (cg hr lP (AA (Bt 0) (AA (AM AC) AN))))
 (AE (Az (Al (DD hr) FL (dv 2) AC (Ak _)) (AJ (AV (AR AK Af (dv 1) (dv 2)))) Am)
 (AE (An (i:=3) lT.nd rfl (Uf rfl) (As A9 BR AC (cg hr lP (AA (Bt 0) (AA (AM AC) AN)))))
 (AJ (AV (A1 (AF (As A9 BR (dv 3) (cg hr lP (AA (Bt 0) (AA (AM (As Bo CW AC (dv 3))) AN)))) (AF (dv 3) AX)))))))))) NT
theorem IV:Ae ["_law_ties"] ["_law_ties"] (AQ DC):=by walk_at "s"
theorem Ii(T:Txt K mg)(F:Fu K "_law_in_order" DC f fd):A8 P w K mg base B9 1 f fd ["_law_ties"] (Cq K .fr DK 1) :=
 Dv F IV (λhr=>(AJ (AV (Ip [("_law_length_here":Str),("_law_one":Str),("_law_other":Str)] [none,none,none] (BI (Ah G7 OH rfl T.Gae iH (AO (Ip [("_law_tie":Str)] [none] (BI (dv 0)) (Ab (i:=0) (show dS [("_law_tie":Str)] by decide +kernel) rfl (Uf rfl)) A_ (A1 (AF (AR AK Af (dv 0) AC) (AF (AR AK Af (dv 0) AC) (AF (AR AK Af (dv 0) AC) AX)))) (by kernel_rfl)) AT))) (DH rfl (Aw (Ab (i:=0) (show dS [("_law_length_here":Str),("_law_one":Str),("_law_other":Str)] by decide +kernel) rfl (Uf rfl)) (Aw (Ab (i:=1) (show dS [("_law_length_here":Str),("_law_one":Str),("_law_other":Str)] by decide +kernel) rfl (Uf rfl)) (Aw (Ab (i:=2) (show dS [("_law_length_here":Str),("_law_one":Str),("_law_other":Str)] by decide +kernel) rfl (Uf rfl)) CO)))) A_ (A1 (AF (dv 1) (AF (dv 2) (AF (dv 0) AX)))) (by kernel_rfl))))) JW
theorem lU:Ae ["_law_ties","_law_place","_law_known","_law_going","_law_one","_law_other","_law_length_here","_law_here","_law_there","_law_reach"] ["_law_ties","_law_place"] (AQ E8):=by walk_at "s"
theorem MA(T:Txt K mg)(F:Fu K "_law_least" E8 f fd):A8 P w K mg base B9 1 f fd ["_law_ties","_law_place"] (Cq K .fr D5 2) :=
 Dv F lU (λhr=>(AE (CM (i:=2) lU.nd rfl (Uf rfl) (Pj (dv 1) AC))
 (AE (An (i:=3) lU.nd rfl (Uf rfl) Bk)
 (AE (LK da (BG (dv 3)) (AE (An (i:=3) lU.nd rfl (Uf rfl) Bk)
 (AJ (Wv da rfl (pv 0) (DH rfl (Aw (Ab (i:=4) lU.nd rfl (Uf rfl)) (Aw (Ab (i:=5) lU.nd rfl (Uf rfl)) (Aw (Ab (i:=6) lU.nd rfl (Uf rfl)) CO)))) (AJ (CV da rfl (LO (Cj (AF (A1 (AF (dv 4) (AF (dv 5) AX))) (AF (A1 (AF (dv 5) (AF (dv 4) AX))) AX)))) (DH rfl (Aw (Ab (i:=7) lU.nd rfl (Uf rfl)) (Aw (Ab (i:=8) lU.nd rfl (Uf rfl)) CO))) (AJ (Az (Al (U1 hr) Xu (dv 7) (J0 2) (by with_unfolding_all rfl)) (AE (An (i:=9) lU.nd rfl (Uf rfl) (As A9 BR (CQ hr (J0 2) (dv 7)) (dv 6)))
 (AJ (Az (Al (DD hr) FL (dv 9) (Rv hr (J0 2) (dv 8) (As A9 BR (dv 9) AC)) (Ak _)) (AE (N4 (i:=2) hr (pv 2) (dv 8) (dv 9))
 (AJ (An (i:=3) lU.nd rfl (Uf rfl) Bk))) Am))) Am))))))))
 (AJ (Ro 2 (pv 2))))))) Kl
theorem lV:Ae ["_law_net_here","_law_times_here","_law_kept","_law_tie","_law_least_here"] ["_law_net_here","_law_times_here"] (AQ Dh):=by walk_at "s"
theorem Jc(T:Txt K mg)(lW:CS P w K mg base)(lX:FG P w K mg base)(F:Fu K "_law_thinned" Dh f fd):A8 P w K mg base B9 2 f fd ["_law_net_here","_law_times_here"] (Cq K .sh DA 2) :=
 Dv F lV (λhr=>(AE (CM (i:=2) lV.nd rfl (Uf rfl) (Cj AX))
 (AE (CV da rfl (LO (cg hr lW (AA (AM (AR AK Af (dv 0) AC)) AN))) (Ab (i:=3) lV.nd rfl (Uf rfl)) (AE (An (i:=4) lV.nd rfl (Uf rfl) (W6 hr (cg hr lX (AA (JG (J0 2)) (AA (AM (AR AK Af (dv 3) AC)) AN))) (AR AK Af (dv 3) AC)))
 (AJ (Az (DTW.dt (Bs (Al Ih Ms (dv 4) BQ (Ak _)) (Bq (Al Kt Px (As Bo CW (dv 4) (AR AK Af (dv 1) AC)) (As Bo CW (AR AK Af (dv 3) AC) (AR AK Af (dv 1) AC)) (Ak _))))) (AJ (Ej 2 PySem.F.plainAttrs_list PySem.F.slot_list_append PySem.F.type_list_append BZ FN (pv 2) (AF (dv 3) AX))) Am))))
 (AJ (AV (A1 (AF (AR AK Af (dv 0) AC) (AF (By BY C_ rfl T.Gab gW (AO (Ah G7 OH rfl T.Gae iH (AO (J0 2) AT)) AT)) AX)))))))) Ic
theorem JU:Ae ["_law_thing"] ["_law_thing"] (AQ Do):=by walk_at "s"
theorem Jh(T:Txt K mg)(F:Fu K "_law_is_name" Do f fd):A8 P w K mg base B9 1 f fd ["_law_thing"] (Cq K .sh Mz 1) :=
 Dv F JU (λhr=>(AE (Az (DTW.dt (Bs (BM (BG (B0 Nu (dv 0) rfl T.Gaa rfl T.Gam (by decide +kernel)))) (Bq (BM (Va (DD hr) FL (DD hr) FL AC (Ah A3 CJ rfl T.Gac PySem.boot_len (AO (dv 0) AT)) AC))))) (AJ (AV Bk)) Am)
 (AJ (AV (Ah (Dy rfl) Lh rfl T.Gah fJ (AO (Ip [("_law_sign":Str)] [none] (BI (dv 0)) (Ab (i:=0) (show dS [("_law_sign":Str)] by decide +kernel) rfl (Uf rfl)) A_ (BP Yh ar (dv 0) Ay (by with_unfolding_all rfl)) (by kernel_rfl)) AT)))))) Km
theorem Kg:Ae ["_law_places_here","_law_thing"] ["_law_places_here","_law_thing"] (AQ ES):=by walk_at "s"
theorem K0(T:Txt K mg)(lY:D1 P w K mg base)(lZ:FF P w K mg base)(F:Fu K "_law_is_tie" ES f fd):A8 P w K mg base B9 2 f fd ["_law_places_here","_law_thing"] (Cq K .sh R_ 2) :=
 Dv F Kg (λhr=>(AE (Az (DTW.dt (Bs (BM (BG (B0 kit_tuple (dv 1) rfl T.Gaa rfl T.Gab (by decide +kernel)))) (Bs (Al Ee Iu (Ah A3 CJ rfl T.Gac PySem.boot_len (AO (dv 1) AT)) AC (Ak _)) (Bq (BM (BG (cg hr lZ (AA (AM (AR AK Af (dv 1) AC)) (AA (AM AC) (AA (AM (As E_ Co AC AC)) AN)))))))))) (AJ (AV Bk)) Am)
 (AE (Az (DTW.dt (Bs (BM (BG (cg hr lY (AA (AM (AR AK Af (dv 1) AC)) AN)))) (Bq (BM (BG (cg hr lY (AA (AM (AR AK Af (dv 1) AC)) AN))))))) (AJ (AV Bk)) Am)
 (AJ (AV (C1 (BP (Bz hr) CD (AR AK Af (dv 1) AC) (dv 0) (by with_unfolding_all rfl)) (C1 (BP (Bz hr) CD (AR AK Af (dv 1) AC) (dv 0) (by with_unfolding_all rfl)) (EX (BP (DD hr) FL (AR AK Af (dv 1) AC) (AR AK Af (dv 1) AC) (Ak _)))))))))) L3
theorem NM:Ae ["_law_things"] ["_law_things"] (AQ FZ):=by walk_at "s"
theorem Nk(T:Txt K mg)(F:Fu K "_law_rise" FZ f fd):A8 P w K mg base B9 1 f fd ["_law_things"] (Cq K .sh DU 1) :=
 Dv F NM (λhr=>(AJ (AV (BP (F_ hr) CD Bk (Ip [("_law_things":Str),("_law_k":Str)] [some 0,none] (DI.c (Cc rfl T.Gad (AO (As E9 G8 (Ah A3 CJ rfl T.Gac PySem.boot_len (AO (dv 0) AT)) AC) AT))) (Ab (i:=1) (show dS [("_law_things":Str),("_law_k":Str)] by decide +kernel) rfl (Uf rfl)) A_ (BP (DD hr) FL (AR AK Af (dv 0) (dv 1)) (AR AK Af (dv 0) (As A9 BR (dv 1) AC)) (Ak _)) (by kernel_rfl)) (by with_unfolding_all rfl))))) Oo
theorem Kh:Ae ["_law_thing"] ["_law_thing"] (AQ ET):=by walk_at "s"
theorem K3(T:Txt K mg)(lY:D1 P w K mg base)(lc:Gj P w K mg base)(lf:JP P w K mg base)(F:Fu K "_law_is_net" ET f fd):A8 P w K mg base B9 3 f fd ["_law_thing"] (Cq K .sh R8 1) :=
 Dv F Kh (λhr=>(AE (Az (DTW.dt (Bs (BM (BG (B0 kit_tuple (dv 0) rfl T.Gaa rfl T.Gab (by decide +kernel)))) (Bs (Al Ee Iu (Ah A3 CJ rfl T.Gac PySem.boot_len (AO (dv 0) AT)) AC (Ak _)) (Bq (BM (BG (B0 kit_tuple (AR AK Af (dv 0) AC) rfl T.Gaa rfl T.Gab (by decide +kernel)))))))) (AJ (AV Bk)) Am)
 (AE (Az (DTW.dt (Bs (BM (BG (B0 kit_tuple (AR AK Af (dv 0) AC) rfl T.Gaa rfl T.Gab (by decide +kernel)))) (Bs (Al Kt Px (Ah A3 CJ rfl T.Gac PySem.boot_len (AO (AR AK Af (dv 0) AC) AT)) AC (Ak _)) (Bq (Al Kt Px (Ah A3 CJ rfl T.Gac PySem.boot_len (AO (AR AK Af (dv 0) AC) AT)) AC (Ak _)))))) (AJ (AV Bk)) Am)
 (AE (Az (DTW.dt (Bs (Al (Bz hr) CD Bk (Ip [("_law_one":Str)] [none] (BI (AR AK Af (dv 0) AC)) (Ab (i:=0) (show dS [("_law_one":Str)] by decide +kernel) rfl (Uf rfl)) A_ (cg hr lY (AA (AM (dv 0)) AN)) (by kernel_rfl)) (by with_unfolding_all rfl)) (Bq (BM (BG (cg hr lf (AA (AM (AR AK Af (dv 0) AC)) AN))))))) (AJ (AV Bk)) Am)
 (AE (Az (Al (Bz hr) CD Bk (Ip [("_law_thing":Str),("_law_tie":Str)] [some 0,none] (BI (AR AK Af (dv 0) AC)) (Ab (i:=1) (show dS [("_law_thing":Str),("_law_tie":Str)] by decide +kernel) rfl (Uf rfl)) A_ (cg hr lc (AA (AM (AR AK Af (dv 0) AC)) (AA (AM (dv 1)) AN))) (by kernel_rfl)) (by with_unfolding_all rfl)) (AJ (AV Bk)) Am)
 (AJ (AV (cg hr lf (AA (AM (Ip [("_law_tie":Str)] [none] (BI (AR AK Af (dv 0) AC)) (Ab (i:=0) (show dS [("_law_tie":Str)] by decide +kernel) rfl (Uf rfl)) A_ (GY Lu Gd (dv 0) EC (CN AC)) (by kernel_rfl))) AN))))))))) L4
theorem lg:Ae ["_law_net_here","_law_thing","_law_there"] ["_law_net_here","_law_thing"] (AQ Dn):=by walk_at "s"
theorem Jg(T:Txt K mg)(lh:Gk P w K mg base)(F:Fu K "_law_is_thin" Dn f fd):A8 P w K mg base B9 4 f fd ["_law_net_here","_law_thing"] (Cq K .sh JQ 2) :=
 Dv F lg (λhr=>(AE (Az (DTW.dt (Bs (BM (BG (cg hr lh (AA (AM (dv 1)) AN)))) (Bq (Al Ee Iu (Ah (C4 hr) G9 rfl T.Gaf iS (AO (AR AK Af (dv 1) AC) AT)) (Ah (C4 hr) G9 rfl T.Gaf iS (AO (AR AK Af (dv 0) AC) AT)) (Ak _))))) (AJ (AV Bk)) Am)
 (AE (An (i:=2) lg.nd rfl (fH rfl) (Ip [("_law_tie":Str)] [none] (BI (AR AK Af (dv 0) AC)) (Ab (i:=0) (show dS [("_law_tie":Str)] by decide +kernel) rfl (Uf rfl)) A_ (Ah (C4 hr) G9 rfl T.Gaf iS (AO (dv 0) AT)) (by kernel_rfl)))
 (AJ (AV (BP (F_ hr) CD Bk (Ip [("_law_there":Str),("_law_tie":Str)] [some 2,none] (BI (AR AK Af (dv 1) AC)) (Ab (i:=1) (show dS [("_law_there":Str),("_law_tie":Str)] by decide +kernel) rfl (Uf rfl)) A_ (BP (Bz hr) CD (Ah (C4 hr) G9 rfl T.Gaf iS (AO (dv 1) AT)) (dv 0) (by with_unfolding_all rfl)) (by kernel_rfl)) (by with_unfolding_all rfl))))))) Ie
theorem li:Ae ["_law_net_here","_law_way","_law_sum_of","_law_k","_law_here","_law_there","_law_steps"] ["_law_net_here","_law_way"] (AQ EO):=by walk_at "s"
theorem Kx(T:Txt K mg)(F:Fu K "_law_walked" EO f fd):A8 P w K mg base B9 1 f fd ["_law_net_here","_law_way"] (Cq K .sh IE 2) :=
 Dv F li (λhr=>(AE (Az (DTW.dt (Bs (BM (BG (B0 kit_tuple (dv 1) rfl T.Gaa rfl T.Gab (by decide +kernel)))) (Bs (Al Ef Iv (Ah A3 CJ rfl T.Gac PySem.boot_len (AO (dv 1) AT)) AC (Ak _)) (Bq (Al (Bz hr) CD Bk (Ip [("_law_one":Str)] [none] (BI (dv 1)) (Ab (i:=0) (show dS [("_law_one":Str)] by decide +kernel) rfl (Uf rfl)) A_ (B0 Nu (dv 0) rfl T.Gaa rfl T.Gam (by decide +kernel)) (by kernel_rfl)) (by with_unfolding_all rfl)))))) (AJ (AV BQ)) Am)
 (AE (Az (Al (Bz hr) CD Bk (Ip [("_law_net_here":Str),("_law_one":Str)] [some 0,none] (BI (dv 1)) (Ab (i:=1) (show dS [("_law_net_here":Str),("_law_one":Str)] by decide +kernel) rfl (Uf rfl)) A_ (BP (Bz hr) CD (dv 1) (AR AK Af (dv 0) AC) (by with_unfolding_all rfl)) (by kernel_rfl)) (by with_unfolding_all rfl)) (AJ (AV BQ)) Am)
 (AE (An (i:=2) li.nd rfl (Uf rfl) AC)
 (AE (CV da rfl (Md rfl T.Gad (AO AC (AO (Ah A3 CJ rfl T.Gac PySem.boot_len (AO (dv 1) AT)) AT))) (Ab (i:=3) li.nd rfl (Uf rfl)) (AE (ZE (GY Lu Gd (dv 1) (CN (As E9 G8 (dv 3) AC)) (CN (As A9 BR (dv 3) AC))) (DH rfl (Aw (Ab (i:=4) li.nd rfl (fH rfl)) (Aw (Ab (i:=5) li.nd rfl (fH rfl)) CO))))
 (AE (Wu (i:=6) li.nd rfl (Uf rfl) rfl [("_law_here":Str),("_law_there":Str),("_law_tie":Str)] [some 4,some 5,none] (BI (AR AK Af (dv 0) AC)) (λ_ _ _ _ _=>(Ab (i:=2) (show dS [("_law_here":Str),("_law_there":Str),("_law_tie":Str)] by decide +kernel) rfl (Uf rfl))) (λ_ _ _ _ _=>(Rq (DTW.dt (LJ (Al Ee Iu (dv 0) (dv 1) (Ak _)) (LJ (Al (Bz hr) CD (dv 0) (GY Lu Gd (dv 2) EC (CN AC)) (by with_unfolding_all rfl)) (Jz (Al (Bz hr) CD (dv 1) (GY Lu Gd (dv 2) EC (CN AC)) (by with_unfolding_all rfl)))))))) (λ_ _ _ _ _=>(AR AK Af (dv 2) AC)) (by kernel_rfl))
 (AE (Az (Al (U0 hr) Xt (dv 6) (Cj AX) (Ak _)) (AJ (AV BQ)) Am)
 (AJ (An (i:=2) li.nd rfl (Uf rfl) (As A9 BR (dv 2) (AR AK Af (dv 6) AC))))))))
 (AJ (AV (dv 2)))))))) Sb
theorem lj:Ae ["_law_places_here","_law_ties","_law_thing","_law_price"] ["_law_places_here","_law_ties","_law_thing"] (AQ Dq):=by walk_at "s"
theorem Ji(T:Txt K mg)(lZ:FF P w K mg base)(F:Fu K "_law_is_fair" Dq f fd):A8 P w K mg base B9 2 f fd ["_law_places_here","_law_ties","_law_thing"] (Cq K .sh IG 3) :=
 Dv F lj (λhr=>(AE (Az (DTW.dt (Bs (BM (BG (B0 kit_tuple (dv 2) rfl T.Gaa rfl T.Gab (by decide +kernel)))) (Bq (Al Ee Iu (Ah A3 CJ rfl T.Gac PySem.boot_len (AO (dv 2) AT)) (Ah A3 CJ rfl T.Gac PySem.boot_len (AO (dv 0) AT)) (Ak _))))) (AJ (AV Bk)) Am)
 (AE (Az (Al (Bz hr) CD Bk (Ip [("_law_one":Str)] [none] (BI (dv 2)) (Ab (i:=0) (show dS [("_law_one":Str)] by decide +kernel) rfl (Uf rfl)) A_ (cg hr lZ (AA (AM (dv 0)) (AA (AM AC) (AA (AM (As E_ Co AC AC)) AN)))) (by kernel_rfl)) (by with_unfolding_all rfl)) (AJ (AV Bk)) Am)
 (AE (An (i:=3) lj.nd rfl (fH rfl) (By (Qr rfl) XD rfl T.Gap boot_dict (AO (Ip [("_law_places_here":Str),("_law_thing":Str),("_law_k":Str)] [some 0,some 2,none] (DI.c (Cc rfl T.Gad (AO (Ah A3 CJ rfl T.Gac PySem.boot_len (AO (dv 2) AT)) AT))) (Ab (i:=2) (show dS [("_law_places_here":Str),("_law_thing":Str),("_law_k":Str)] by decide +kernel) rfl (Uf rfl)) A_ (A1 (AF (AR AK Af (dv 0) (dv 2)) (AF (AR AK Af (dv 1) (dv 2)) AX))) (by kernel_rfl)) AT)))
 (AJ (AV (BP (F_ hr) CD Bk (Ip [("_law_price":Str),("_law_one":Str),("_law_other":Str),("_law_length_here":Str)] [some 3,none,none,none] (BI (dv 1)) (DH rfl (Aw (Ab (i:=1) (show dS [("_law_price":Str),("_law_one":Str),("_law_other":Str),("_law_length_here":Str)] by decide +kernel) rfl (Uf rfl)) (Aw (Ab (i:=2) (show dS [("_law_price":Str),("_law_one":Str),("_law_other":Str),("_law_length_here":Str)] by decide +kernel) rfl (Uf rfl)) (Aw (Ab (i:=3) (show dS [("_law_price":Str),("_law_one":Str),("_law_other":Str),("_law_length_here":Str)] by decide +kernel) rfl (Uf rfl)) CO)))) A_ (BP Gw Lg (Ah LX Vt rfl T.Gai boot_abs (AO (As E9 G8 (CQ hr (dv 0) (dv 1)) (CQ hr (dv 0) (dv 2))) AT)) (dv 3) (Ak _)) (by kernel_rfl)) (by with_unfolding_all rfl)))))))) QI
theorem ll:Ae ["_law_net_here","_law_times_here","_law_kept","_law_tie","_law_row","_law_places_here","_law_length_here","_law_first","_law_second","_law_apart"] ["_law_net_here","_law_times_here","_law_kept","_law_tie","_law_row"] (AQ Di):=by walk_at "s"
theorem Jd(T:Txt K mg)(lm:F5 P w K mg base)(ln:EY P w K mg base)(F:Fu K "_law_row_due" Di f fd):A8 P w K mg base B9 3 f fd ["_law_net_here","_law_times_here","_law_kept","_law_tie","_law_row"] (Cq K .sh J9 5) :=
 Dv F ll (λhr=>(AE (An (i:=5) ll.nd rfl (Uf rfl) (AR AK Af (dv 0) AC))
 (AE (Az (Al Ef Iv (AR AK Af (dv 4) AC) Ay (Ak _)) (AE (An (i:=6) ll.nd rfl (Uf rfl) (cg hr ln (AA (AM (A1 (AF (dv 5) (AF (dv 2) AX)))) (AA (AM (AR AK Af (dv 4) AC)) AN))))
 (AE (Az (DTW.dt (Bs (Al Ih Ms (dv 6) BQ (Ak _)) (Bs (Al Ee Iu (AR AK Af (AR AK Af (dv 4) AC) AC) (AR AK Af (dv 3) AC) (Ak _)) (Bq (Al Ee Iu (AR AK Af (AR AK Af (dv 4) AC) (Ve AC)) (AR AK Af (dv 3) AC) (Ak _)))))) (AJ (AV Ay)) Am)
 (AJ (AV (Ho (Al Kt Px (As Bo CW (dv 6) (AR AK Af (dv 1) AC)) (As Bo CW (AR AK Af (dv 3) AC) (AR AK Af (dv 1) AC)) (Ak _)) Ay BQ))))) Am)
 (AE (Az (BM (BG (cg hr lm (AA (AM (dv 5)) (AA (AM (dv 2)) (AA (AM (AR AK Af (dv 4) AC)) AN)))))) (AJ (AV Ay)) Am)
 (AE (ZD (i:=7) (j:=8) rfl ll.nd rfl rfl (by decide) rfl rfl (AF (N9 hr (dv 5) (AO (AR AK Af (dv 3) AC) AT)) (AF (N9 hr (dv 5) (AO (AR AK Af (dv 3) AC) AT)) AX)) rfl)
 (AE (An (i:=9) ll.nd rfl (Uf rfl) (Ah LX Vt rfl T.Gai boot_abs (AO (As E9 G8 (AR AK Af (AR AK Af (dv 4) AC) (dv 7)) (AR AK Af (AR AK Af (dv 4) AC) (dv 8))) AT)))
 (AJ (AV (Ho (Al Kt Px (As Bo CW (dv 9) (AR AK Af (dv 1) AC)) (As Bo CW (AR AK Af (dv 3) AC) (AR AK Af (dv 1) AC)) (Ak _)) BQ Ay))))))))) Se
theorem lq:Ae ["_law_net_here","_law_times_here","_law_thin","_law_paper","_law_row","_law_kept","_law_number","_law_tie","_law_word"] ["_law_net_here","_law_times_here","_law_thin","_law_paper"] (AQ Cf):=by walk_at "s"
theorem Gy(T:Txt K mg)(lW:CS P w K mg base)(lr:F4 P w K mg base)(lu:F1 P w K mg base)(F:Fu K "_law_greedy_due" Cf f fd):A8 P w K mg base B9 5 f fd ["_law_net_here","_law_times_here","_law_thin","_law_paper"] (Cq K .sh KG 4) :=
 Dv F lq (λhr=>(AE (Az (DTW.dt (Bs (BM (BG (cg hr lr (AA (AM (dv 0)) (AA (AM (dv 2)) AN))))) (Bq (BM (BG (B0 kit_tuple (dv 3) rfl T.Gaa rfl T.Gab (by decide +kernel))))))) (AJ (AV (A1 (AF Ay (AF AC AX))))) Am)
 (AE (Az (Al Ee Iu (Ah A3 CJ rfl T.Gac PySem.boot_len (AO (dv 3) AT)) (Ah A3 CJ rfl T.Gac PySem.boot_len (AO (AR AK Af (dv 0) AC) AT)) (Ak _)) (AJ (AV (A1 (AF Ay (AF AC AX))))) Am)
 (AE (CV da rfl (LO (dv 3)) (Ab (i:=4) lq.nd rfl (Uf rfl)) (AE (Az (DTW.dt (Bs (BM (BG (B0 kit_tuple (dv 4) rfl T.Gaa rfl T.Gab (by decide +kernel)))) (Bq (Al Ee Iu (Ah A3 CJ rfl T.Gac PySem.boot_len (AO (dv 4) AT)) AC (Ak _))))) (AJ (AV (A1 (AF Ay (AF AC AX))))) Am)
 (AJ (Az (Al (F_ hr) CD (Ah (C4 hr) G9 rfl T.Gaf iS (AO (AR AK Af (dv 4) AC) AT)) (A1 (AF Ay (AF Ay AX))) (by with_unfolding_all rfl)) (AJ (AV (A1 (AF Ay (AF AC AX))))) Am))))
 (AE (CM (i:=5) lq.nd rfl (Uf rfl) (Cj AX))
 (AE (CV da rfl (N7 rfl T.Gag (cg hr lW (AA (AM (AR AK Af (dv 0) AC)) AN))) (DH rfl (Aw (Ab (i:=6) lq.nd rfl (Uf rfl)) (Aw (Ab (i:=7) lq.nd rfl (Uf rfl)) CO))) (AE (Az (Al Ee Iu (BP Ef Iv (AR AK Af (AR AK Af (dv 3) (dv 6)) AC) Ay (Ak _)) (BP (Bz hr) CD (dv 7) (AR AK Af (dv 2) AC) (by with_unfolding_all rfl)) (Ak _)) (AJ (AV (A1 (AF Ay (AF (dv 6) AX))))) Am)
 (AE (An (i:=8) lq.nd rfl (Uf rfl) (Ru 5 (cg hr lu (AA (AM (dv 0)) (AA (AM (dv 1)) (AA (AM (dv 5)) (AA (AM (dv 7)) (AA (AM (AR AK Af (dv 3) (dv 6))) AN))))))))
 (AE (Az (Al Ju OI (dv 8) BQ (Ak _)) (AJ (AV (A1 (AF (dv 8) (AF (dv 6) AX))))) Am)
 (AJ (Az (Al (Bz hr) CD (dv 7) (AR AK Af (dv 2) AC) (by with_unfolding_all rfl)) (AJ (Ej 5 PySem.F.plainAttrs_list PySem.F.slot_list_append PySem.F.type_list_append BZ FN (pv 5) (AF (dv 7) AX))) Am))))))
 (AJ (AV BQ)))))))) Sl
theorem lv:Ae ["_law_feed_here","_law_net_here","_law_times_here","_law_kept","_law_tie","_law_places_here","_law_known","_law_most","_law_more"] ["_law_feed_here","_law_net_here","_law_times_here","_law_kept","_law_tie"] (AQ Dl):=by walk_at "s"
theorem Jf(T:Txt K mg)(lX:FG P w K mg base)(lP:B8 P w K mg base)(F:Fu K "_law_own_row" Dl f fd):A8 P w K mg base B9 2 f fd ["_law_feed_here","_law_net_here","_law_times_here","_law_kept","_law_tie"] (Cq K .sh KD 5) :=
 Dv F lv (λhr=>(AE (An (i:=5) lv.nd rfl (Uf rfl) (AR AK Af (dv 1) AC))
 (AE (An (i:=6) lv.nd rfl (fH rfl) (cg hr lX (AA (JG (J0 3)) (AA (AM (AR AK Af (dv 4) AC)) AN))))
 (AE (An (i:=7) lv.nd rfl (fH rfl) (As A9 BR (As A9 BR (As HR Co (As Bo CW (AR AK Af (dv 4) AC) (AR AK Af (dv 2) AC)) (AR AK Af (dv 2) AC)) AC) (cg hr lP (AA (Bt 0) (AA (AM AC) AN)))))
 (AE (An (i:=8) lv.nd rfl (fH rfl) (As Bo CW (cg hr lP (AA (Bt 0) (AA (AM AC) AN))) (As E_ Co AC AC)))
 (AJ (AV (A1 (AF Ay (AF (By BY C_ rfl T.Gab gW (AO (Ip [("_law_more":Str),("_law_most":Str),("_law_known":Str),("_law_place":Str)] [some 8,some 7,some 6,none] (BI (dv 5)) (Ab (i:=3) (show dS [("_law_more":Str),("_law_most":Str),("_law_known":Str),("_law_place":Str)] by decide +kernel) rfl (Uf rfl)) A_ (As A9 BR (dv 0) (Ah (Mf rfl) Vr rfl T.Gak boot_min (AO (dv 1) (AO (Rv hr (dv 2) (dv 3) (dv 1)) AT)))) (by kernel_rfl)) AT)) AX)))))))))) Sh
theorem lw:Ae ["_law_net_here","_law_times_here","_law_kept","_law_tie","_law_way","_law_longer","_law_length_here"] ["_law_net_here","_law_times_here","_law_kept","_law_tie","_law_way"] (AQ Dk):=by walk_at "s"
theorem Je(T:Txt K mg)(ln:EY P w K mg base)(F:Fu K "_law_own_way" Dk f fd):A8 P w K mg base B9 2 f fd ["_law_net_here","_law_times_here","_law_kept","_law_tie","_law_way"] (Cq K .sh KC 5) :=
 Dv F lw (λhr=>(AE (An (i:=5) lw.nd rfl (Uf rfl) (As A9 BR (GY Lu Gd (dv 4) EC (CN AC)) (dv 4)))
 (AE (An (i:=6) lw.nd rfl (Uf rfl) (cg hr ln (AA (AM (A1 (AF (AR AK Af (dv 0) AC) (AF (dv 2) AX)))) (AA (AM (dv 5)) AN))))
 (AJ (AV (Ho (Al Gw Lg (As Bo CW (dv 6) (AR AK Af (dv 1) AC)) (As Bo CW (AR AK Af (dv 3) AC) (AR AK Af (dv 1) AC)) (Ak _)) (dv 5) (dv 4))))))) Sg
end
section
variable {P:Program}{w:World}{K:Frag}{mg:Str->Option Value}{base:Heap}
theorem NN:Ae ["_law_script"] ["_law_script"] (AQ Fa):=by constructor <;> first | rfl | decide +kernel
theorem Nl{f:Ch}{fd:eI}(T:Txt K mg)(F:Fun K "_law_feed" "_law_feed" Fa f fd):A8 P w K mg base B9 1 f fd ["_law_script"] (NE K):=by
 refine F.ok NN (λvs H Q E h=>?_) (λcdv A outer s H vs Q E hr h=>?_)
 ·obtain⟨a,ns,rfl,_⟩:=h
  rfl
 ·obtain⟨a,ns,rfl,⟨hl,hS⟩,q⟩:=h
  refine⟨_,D_ (Gv (QR (CA (MR OD rfl T.Gaq boot_list (CA (O0 sl_list (pv 0) RI (RH BC)) Ds)) (CA BC (CA BC Ds))))),?_⟩;refine⟨_,rfl,63,rfl,a,_,rfl,hS,λp hp=>⟨p,_,rfl,.inl (SqL.of Ap),λc hc=>⟨by show 3<=sizeLine; decide,λg hg=>?_⟩⟩⟩;rw [al hl] at hg ⊢;have ncg:c≠g:=λz=>by rw [← z,Ap] at hg; cases hg
  exact q c g _ ncg (by rw [Aa ncg,Ap]) Ap
theorem lz:Ae ["_law_script","_law_feed_here","_law_great","_law_net_here","_law_times_here","_law_stays","_law_thin","_law_turn","_law_paper","_law_kept","_law_rows","_law_number","_law_tie"] ["_law_script"] (AQ Kj):=by walk_at "s"
theorem Yj{f ff:Ch}{fd fdf:eI}(T:Txt K mg)(Gf:A8 P w K mg base B9 1 ff fdf ["_law_script"] (NE K))(mf:mg "_law_feed"=some (.ref ff))(kf:keepIn K (.ref ff)=true)(bf:Binds K fdf ["_law_script"] [])
  (l0:EI P w K mg base) (lW:CS P w K mg base) (l7:Lk P w K mg base) (lP:B8 P w K mg base) (l8:F3 P w K mg base) (l9:F2 P w K mg base) (l_:Fz P w K mg base) (mB:ID P w K mg base) (mC:Fx P w K mg base) (mE:Gg P w K mg base) (F:Fun K "law" "law" Kj f fd):A8 P w K mg base B9 7 f fd ["_law_script"] (Of K):=by
 exact aY (n0:=3000) F lz rfl (by decide) (λcdv A outer s H E hr=>Fb (i:=1) lz.nd rfl (Uf rfl) (RK Gf (hr.mono (by decide)) rfl mf kf bf .nil Xe (CA (pv 0) Ds)))
  (λcdv A outer s H E hr=>(AE (An (i:=2) lz.nd rfl (Uf rfl) (BP Ef Iv (cg hr lP (AA (Bt 1) (AA (AM AC) AN))) AC (Ak _)))
 (AE (An (i:=3) lz.nd rfl (Uf rfl) (Ho (BG (dv 2)) (cg hr l7 (AA (Bt 1) (AA (AM AC) (AA (AM AC) AN)))) (cg hr l7 (AA (Bt 1) (AA (AM AC) (AA (AM AC) AN))))))
 (AE (An (i:=4) lz.nd rfl (Uf rfl) (cg hr mB (AA (Bt 1) AN)))
 (AE (An (i:=5) lz.nd rfl (Uf rfl) (Ah (C4 hr) G9 rfl T.Gaf iS (AO (dv 3) AT)))
 (AE (An (i:=6) lz.nd rfl (Uf rfl) (cg hr l_ (AA (AM (dv 3)) (AA (AM (dv 4)) AN))))
 (AE (CV da rfl (Cc rfl T.Gad (AO (As E9 G8 AC (By Tj ZT rfl T.Gaj boot_int (AO (dv 2) AT))) AT)) (Ab (i:=7) lz.nd rfl (Uf rfl)) (AE (An (i:=8) lz.nd rfl (Uf rfl) (cg hr mC (AA (AM (dv 3)) (AA (AM (dv 4)) AN))))
 (AJ (Az (DTW.dt (Bs (Al Ju OI (cg hr l0 (AA (AM (dv 3)) (AA (AM (dv 4)) (AA (AM (dv 6)) (AA (AM (dv 8)) AN))))) BQ (Ak _)) (Bq (Al Sz Xs (cg hr mE (AA (AM (dv 3)) (AA (AM (dv 4)) (AA (AM (dv 6)) (AA (AM (dv 8)) AN))))) Bk (Ak _))))) (AJ (AV Bk)) Am))))
 (AE (CM (i:=9) lz.nd rfl (Uf rfl) (Cj AX))
 (AE (CM (i:=10) lz.nd rfl (Uf rfl) (Cj AX))
 (AE (CV da rfl (N7 rfl T.Gag (cg hr lW (AA (AM (AR AK Af (dv 3) AC)) AN))) (DH rfl (Aw (Ab (i:=11) lz.nd rfl (Uf rfl)) (Aw (Ab (i:=12) lz.nd rfl (Uf rfl)) CO))) (AJ (Az (Al (Bz hr) CD (dv 12) (AR AK Af (dv 6) AC) (by with_unfolding_all rfl)) (AE (Ej 10 PySem.F.plainAttrs_list PySem.F.slot_list_append PySem.F.type_list_append BZ FN (pv 10) (AF (cg hr l8 (AA (Bt 1) (AA (AM (dv 3)) (AA (AM (dv 4)) (AA (JG (J0 9)) (AA (AM (dv 12)) AN)))))) AX))
 (AJ (Ej 9 PySem.F.plainAttrs_list PySem.F.slot_list_append PySem.F.type_list_append BZ FN (pv 9) (AF (dv 12) AX)))) (AJ (Ej 10 PySem.F.plainAttrs_list PySem.F.slot_list_append PySem.F.type_list_append BZ FN (pv 10) (AF (A1 (AF Ay (AF (Ru 9 (cg hr l9 (AA (AM (dv 3)) (AA (AM (dv 4)) (AA (AM (dv 9)) (AA (AM (dv 12)) (AA (AM (AR AK Af (AR AK Af (dv 8) (dv 11)) AC)) AN))))))) AX))) AX))))))
 (AJ (AV (C1 (BP Yg Xs (cg hr mE (AA (AM (dv 3)) (AA (AM (dv 4)) (AA (AM (dv 6)) (AA (AM (By BY C_ rfl T.Gab gW (AO (J0 10) AT))) AN))))) Bk (Ak _)) (EX (BP Ef Iv (Ah (C4 hr) G9 rfl T.Gaf iS (AO (dv 3) AT)) (dv 5) (Ak _)))))))))))))))) QK
end
theorem G1{β:Type}{n:Nat}(g k:List Ev->β)(us:List Ev)(h:us.length=n+1)(c:∀(a:Ev) (r:List Ev),r.length=n->g (a::r)=k (a::r)):g us=k us:=by
 cases us with
 | nil=>cases h
 | cons a r=>exact c a r (Nat.succ.inj h)
theorem len0{β:Type}(g k:List Ev->β)(us:List Ev)(h:us.length=0)(c:g []=k []):g us=k us:=by
 cases us with
 | nil=>exact c
 | cons a r=>cases h
theorem cP{d:eI}{ps:List Str}(c:∀a0:Ev,bindArgs d ⟨[a0],[]⟩=pure (ps.zip [a0]))(us:List Ev)(h:us.length=1):bindArgs d ⟨us,[]⟩=pure (ps.zip us):=G1 (λr=>bindArgs d ⟨r,[]⟩) (λr=>pure (ps.zip (r))) us h λa0 r h=>len0 (λr=>bindArgs d ⟨a0::r,[]⟩) (λr=>pure (ps.zip (a0::r))) r h (c a0)
theorem cn{d:eI}{ps:List Str}(c:∀a0 a1:Ev,bindArgs d ⟨[a0,a1],[]⟩=pure (ps.zip [a0,a1]))(us:List Ev)(h:us.length=2):bindArgs d ⟨us,[]⟩=pure (ps.zip us):=G1 (λr=>bindArgs d ⟨r,[]⟩) (λr=>pure (ps.zip (r))) us h λa0 r h=>G1 (λr=>bindArgs d ⟨a0::r,[]⟩) (λr=>pure (ps.zip (a0::r))) r h λa1 r h=>len0 (λr=>bindArgs d ⟨a0::a1::r,[]⟩) (λr=>pure (ps.zip (a0::a1::r))) r h (c a0 a1)
theorem cm{d:eI}{ps:List Str}(c:∀a0 a1 a2:Ev,bindArgs d ⟨[a0,a1,a2],[]⟩=pure (ps.zip [a0,a1,a2]))(us:List Ev)(h:us.length=3):bindArgs d ⟨us,[]⟩=pure (ps.zip us):=G1 (λr=>bindArgs d ⟨r,[]⟩) (λr=>pure (ps.zip (r))) us h λa0 r h=>G1 (λr=>bindArgs d ⟨a0::r,[]⟩) (λr=>pure (ps.zip (a0::r))) r h λa1 r h=>G1 (λr=>bindArgs d ⟨a0::a1::r,[]⟩) (λr=>pure (ps.zip (a0::a1::r))) r h λa2 r h=>len0 (λr=>bindArgs d ⟨a0::a1::a2::r,[]⟩) (λr=>pure (ps.zip (a0::a1::a2::r))) r h (c a0 a1 a2)
theorem cj{d:eI}{ps:List Str}(c:∀a0 a1 a2 a3:Ev,bindArgs d ⟨[a0,a1,a2,a3],[]⟩=pure (ps.zip [a0,a1,a2,a3]))(us:List Ev)(h:us.length=4):bindArgs d ⟨us,[]⟩=pure (ps.zip us):=G1 (λr=>bindArgs d ⟨r,[]⟩) (λr=>pure (ps.zip (r))) us h λa0 r h=>G1 (λr=>bindArgs d ⟨a0::r,[]⟩) (λr=>pure (ps.zip (a0::r))) r h λa1 r h=>G1 (λr=>bindArgs d ⟨a0::a1::r,[]⟩) (λr=>pure (ps.zip (a0::a1::r))) r h λa2 r h=>G1 (λr=>bindArgs d ⟨a0::a1::a2::r,[]⟩) (λr=>pure (ps.zip (a0::a1::a2::r))) r h λa3 r h=>len0 (λr=>bindArgs d ⟨a0::a1::a2::a3::r,[]⟩) (λr=>pure (ps.zip (a0::a1::a2::a3::r))) r h (c a0 a1 a2 a3)
theorem ci{d:eI}{ps:List Str}(c:∀a0 a1 a2 a3 a4:Ev,bindArgs d ⟨[a0,a1,a2,a3,a4],[]⟩=pure (ps.zip [a0,a1,a2,a3,a4]))(us:List Ev)(h:us.length=5):bindArgs d ⟨us,[]⟩=pure (ps.zip us):=G1 (λr=>bindArgs d ⟨r,[]⟩) (λr=>pure (ps.zip (r))) us h λa0 r h=>G1 (λr=>bindArgs d ⟨a0::r,[]⟩) (λr=>pure (ps.zip (a0::r))) r h λa1 r h=>G1 (λr=>bindArgs d ⟨a0::a1::r,[]⟩) (λr=>pure (ps.zip (a0::a1::r))) r h λa2 r h=>G1 (λr=>bindArgs d ⟨a0::a1::a2::r,[]⟩) (λr=>pure (ps.zip (a0::a1::a2::r))) r h λa3 r h=>G1 (λr=>bindArgs d ⟨a0::a1::a2::a3::r,[]⟩) (λr=>pure (ps.zip (a0::a1::a2::a3::r))) r h λa4 r h=>len0 (λr=>bindArgs d ⟨a0::a1::a2::a3::a4::r,[]⟩) (λr=>pure (ps.zip (a0::a1::a2::a3::a4::r))) r h (c a0 a1 a2 a3 a4)
def Ht(K:Frag)(x:Str)(st:df):Prop:=∃(f:Ch) (oc:Ev) (od an:Option Ch) (sl:Array (Option Ev)) (kV dc pm cd ct:Ev),nsIn K mainGlobals x=some (some (.ref f))/\K.lookup f=some ⟨oc,od,.func (fnOf x x (ED st) (CP st) (AQ st) .none kV dc pm an cd ct),sl⟩/\codeIn K cd x=true/\keepIn K (.ref f)=true
def Hn(K:Frag)(x:Str):Prop:=nsIn K mainGlobals x=some none
theorem Ht.mk{K:Frag}{x:Str}{st:df}{f:Ch}{oc:Ev}{od an:Option Ch}{sl:Array (Option Ev)}{kV dc pm cd ct:Ev}(a:nsIn K mainGlobals x=some (some (.ref f)))(l:K.lookup f=some ⟨oc,od,.func (fnOf x x (ED st) (CP st) (AQ st) .none kV dc pm an cd ct),sl⟩)(c:codeIn K cd x=true)(k:keepIn K (.ref f)=true):Ht K x st:=⟨f,oc,od,an,sl,kV,dc,pm,cd,ct,a,l,c,k⟩
theorem Hn.mk{K:Frag}{x:Str}(a:nsIn K mainGlobals x=some none):Hn K x:=a
section
variable {P:Program}{w:World}{K:Frag}{mg:Str->Option Value}{h base:Heap}{x:Str}{st:Stmt}
theorem Ht.fn(X:K.In h)(G:h.Ns mainGlobals mg)(H:Ht K x st):∃f fd,mg x=some (.ref f)/\Fun K x x st f fd:=by
 obtain⟨f,oc,od,an,sl,kV,dc,pm,cd,ct,a,l,c,k⟩:=H;exact⟨f,_,mg_of X G a,VO (st:=st) l c k⟩
theorem Ht.got{k:Nat}{ps:List Str}{κ:Kd}{W:W2}(X:K.In h)(G:h.Ns mainGlobals mg)(H:Ht K x st)(hW:∀ss n P,W ss n P->ss.length=ps.length)
  (hb:∀(kV doc pm:Ev) (an:Option Ch) (cdv ct:Ev) (us:List Ev),us.length=ps.length->bindArgs (fnOf x x (ED st) (CP st) (AQ st) .none kV doc pm an cdv ct) ⟨us,[]⟩=pure (ps.zip us))
  (ok:∀{f:Ch} {fd:eI},Fun K x x st f fd->mg x=some (.ref f)->Binds K fd ps []->A8 P w K mg base B9 k f fd ps (Cq K κ W ps.length)):Got P w K mg base x k ps κ W:=by
 obtain⟨f,fd,m,F⟩:=H.fn X G;have b:=F.binds hb;exact Y6 F m b hW (ok F m b)
end
local macro_rules | `(tactic| walk_at "l")=>`(tactic| (intro _ _ _ h; repeat (first | (obtain⟨e,_⟩:=h; subst e; rfl) | (obtain⟨_,h⟩:=h))))
local macro_rules | `(tactic| walk_at "b")=>`(tactic| (intro _ _ _ _ _ _; first | exact cP λ_=>rfl | exact cn λ_ _=>rfl | exact cm λ_ _ _=>rfl | exact cj λ_ _ _ _=>rfl | exact ci λ_ _ _ _ _=>rfl))
theorem all_mk{l:PySem.W.OpenLaw}{w:dh}{K:Frag}{h:dL}{mg:Str->Option Ev}{fa:Ch}(X:K.In h)(G:h.Ns mainGlobals mg)(hfa:mg "law"=some (.ref fa))
  (h0:Ht K "is_whole" Gr) (h1:Ht K "is_tuple_of" EN) (h2:Ht K "is_rising" FY) (h3:Ht K "rank_of" IX) (h4:Ht K "order_of" Gp) (h5:Ht K "steps_of" Gn) (h6:Ht K "only" QF) (h7:Ht K "is_tie_of" FX) (h8:Ht K "is_thin" IY) (h9:Ht K "ahead_of" Gs) (h10:Ht K "length_of" FV) (h11:Ht K "length_between" Ct) (h12:Ht K "nearest_of" E3) (h13:Ht K "least_ways" E4) (h14:Ht K "way_of" Ki) (h15:Ht K "are_prices" E5) (h16:Ht K "price_gap" FU) (h17:Ht K "is_fair" IZ) (h18:Ht K "prices_from" EL) (h19:Ht K "is_within" FW) (h20:Ht K "least_beyond" De) (h21:Ht K "near_way" Gq) (h22:Ht K "thinned" IW) (h23:Ht K "greedy_paper" Df) (h24:Ht K "way_fault" FT) (h25:Ht K "prices_fault" Dd) (h26:Ht K "greedy_fault" Dg) (h27:Ht K "is_greedy_entry" Ce) (h28:Ht K "lets_greedy" EM) (h29:Ht K "_law_feed" Fa) (h30:Ht K "_law_next" D9) (h31:Ht K "_law_whole" E6) (h32:Ht K "_law_places" EQ) (h33:Ht K "_law_length" ER) (h34:Ht K "_law_net" Gu) (h35:Ht K "_law_times" E7) (h36:Ht K "_law_in_order" DC) (h37:Ht K "_law_least" E8) (h38:Ht K "_law_thinned" Dh) (h39:Ht K "_law_is_name" Do) (h40:Ht K "_law_is_tie" ES) (h41:Ht K "_law_rise" FZ) (h42:Ht K "_law_is_net" ET) (h43:Ht K "_law_is_thin" Dn) (h44:Ht K "_law_walked" EO) (h45:Ht K "_law_is_fair" Dq) (h46:Ht K "_law_row_due" Di) (h47:Ht K "_law_greedy_due" Cf) (h48:Ht K "_law_own_row" Dl) (h49:Ht K "_law_own_way" Dk) (h50:Ht K "law" Kj)
  (z0:Hn K "abs") (z1:Hn K "all") (z2:Hn K "bool") (z3:Hn K "dict") (z4:Hn K "enumerate") (z5:Hn K "int") (z6:Hn K "isinstance") (z7:Hn K "len") (z8:Hn K "list") (z9:Hn K "min") (z10:Hn K "range") (z11:Hn K "repr") (z12:Hn K "reversed") (z13:Hn K "sorted") (z14:Hn K "str") (z15:Hn K "tuple") (z16:Hn K "zip") 
  : ∃fd:eI,(∀(s:Op) (v:Ev),jW s fd ⟨[v],[]⟩ [("_law_script",v)])/\∀base:dL,K.In base->base.Ns mainGlobals mg->A8 l.prog w K mg base B9 7 fa fd ["_law_script"] (Of K):=by
 have T:Txt K mg:=⟨mg_none_of X G z0,mg_none_of X G z1,mg_none_of X G z2,mg_none_of X G z3,mg_none_of X G z4,mg_none_of X G z5,mg_none_of X G z6,mg_none_of X G z7,mg_none_of X G z8,mg_none_of X G z9,mg_none_of X G z10,mg_none_of X G z11,mg_none_of X G z12,mg_none_of X G z13,mg_none_of X G z14,mg_none_of X G z15,mg_none_of X G z16⟩;obtain⟨ff,ffd,mf,Ff⟩:=h29.fn X G;have bf:=Ff.binds (ps:=["_law_script"]) λ_ _ _ _ _ _=>cP λ_=>rfl;obtain⟨f,oc,od,an,sl,kV,dc,pm,cd,ct,a,l',c,k⟩:=h50;have e:=hfa.symm.trans (mg_of X G a);cases e;refine⟨fnOf "law" "law" (ED Kj) (CP Kj) (AQ Kj) .none kV dc pm an cd ct,λs v=>.of_eq rfl,λbase _ _=>?_⟩;have kW:HA l.prog w K mg base:=h0.got X G (λ_ _ _ h=>Ig h) (by walk_at "b") λF m b=>O7 T  F;have kZ:CK l.prog w K mg base:=h1.got X G (by walk_at "l") (by walk_at "b") λF m b=>Kw T  F;have kX:JO l.prog w K mg base:=h2.got X G (by walk_at "l") (by walk_at "b") λF m b=>Nj T  F;have kT:Iw l.prog w K mg base:=h3.got X G (by walk_at "l") (by walk_at "b") λF m b=>QU T  F;have k9:FD l.prog w K mg base:=h4.got X G (by walk_at "l") (by walk_at "b") λF m b=>O5 T kT F;have ke:G_ l.prog w K mg base:=h5.got X G (by walk_at "l") (by walk_at "b") λF m b=>O4 F;have kc:Qx l.prog w K mg base:=h6.got X G (by walk_at "l") (by walk_at "b") λF m b=>WW T  F;have kY:JN l.prog w K mg base:=h7.got X G (by walk_at "l") (by walk_at "b") λF m b=>Ni T kW F;have lN:Mu l.prog w K mg base:=h8.got X G (by walk_at "l") (by walk_at "b") λF m b=>QV T kX kY kZ F;have lA:HB l.prog w K mg base:=h9.got X G (by walk_at "l") (by walk_at "b") λF m b=>O8 T kc kT F;have kh:Fv l.prog w K mg base:=h10.got X G (by walk_at "l") (by walk_at "b") λF m b=>Ng T ke F;have lF:Ew l.prog w K mg base:=h11.got X G (by walk_at "l") (by walk_at "b") λF m b=>HS T kh F;have kj:IB l.prog w K mg base:=h12.got X G (by walk_at "l") (by walk_at "b") λF m b=>L6 T  F;have kn:FE l.prog w K mg base:=h13.got X G (by walk_at "l") (by walk_at "b") λF m b=>L7 T kj ke F;have k6:Li l.prog w K mg base:=h14.got X G (by walk_at "l") (by walk_at "b") λF m b=>S1 T kn F;have ko:IC l.prog w K mg base:=h15.got X G (by walk_at "l") (by walk_at "b") λF m b=>L8 T kZ kW F;have kq:Ft l.prog w K mg base:=h16.got X G (by walk_at "l") (by walk_at "b") λF m b=>Nf T  F;have lG:Mv l.prog w K mg base:=h17.got X G (by walk_at "l") (by walk_at "b") λF m b=>QW T ko kq F;have lC:Ge l.prog w K mg base:=h18.got X G (by walk_at "l") (by walk_at "b") λF m b=>Ku T kn F;have kz:EG l.prog w K mg base:=h19.got X G (by walk_at "l") (by walk_at "b") λF m b=>Nh T  F;have lB:Fw l.prog w K mg base:=h20.got X G (by walk_at "l") (by walk_at "b") λF m b=>JZ T  F;have k8:Lj l.prog w K mg base:=h21.got X G (by walk_at "l") (by walk_at "b") λF m b=>O6 T kz kh k6 F;have lD:Mt l.prog w K mg base:=h22.got X G (by walk_at "l") (by walk_at "b") λF m b=>QT T k8 kc k9 F;have mC:Fx l.prog w K mg base:=h23.got X G (by walk_at "l") (by walk_at "b") λF m b=>Ja T lA lB k9 lC lD k6 F;have lJ:JM l.prog w K mg base:=h24.got X G (by walk_at "l") (by walk_at "b") λF m b=>Nd T kz lF F;have lI:Fs l.prog w K mg base:=h25.got X G (by walk_at "l") (by walk_at "b") λF m b=>JY T lG kz kq F;have lL:Fy l.prog w K mg base:=h26.got X G (by walk_at "l") (by walk_at "b") λF m b=>Jb T lA lI lJ F;have lM:EH l.prog w K mg base:=h27.got X G (by walk_at "l") (by walk_at "b") λF m b=>Gx T kZ F;have mE:Gg l.prog w K mg base:=h28.got X G (by walk_at "l") (by walk_at "b") λF m b=>Kv T lL lM lN kZ k9 F;have Gf:=Nl (P:=l.prog) (w:=w) (base:=base) T Ff;have lP:B8 l.prog w K mg base:=h30.got X G (by walk_at "l") (by walk_at "b") λF m b=>WX F T.Gac;have lZ:FF l.prog w K mg base:=h31.got X G (by walk_at "l") (by walk_at "b") λF m b=>L9 T  F;have lS:Gh l.prog w K mg base:=h32.got X G (by walk_at "l") (by walk_at "b") λF m b=>Ky T lP F;have lR:Gi l.prog w K mg base:=h33.got X G (by walk_at "l") (by walk_at "b") λF m b=>Kz T lP F;have l7:Lk l.prog w K mg base:=h34.got X G (by walk_at "l") (by walk_at "b") λF m b=>O9 T lR lP lS F;have mB:ID l.prog w K mg base:=h35.got X G (by walk_at "l") (by walk_at "b") λF m b=>L_ T lP F;have lW:CS l.prog w K mg base:=h36.got X G (by walk_at "l") (by walk_at "b") λF m b=>Ii T  F;have lX:FG l.prog w K mg base:=h37.got X G (by walk_at "l") (by walk_at "b") λF m b=>MA T  F;have l_:Fz l.prog w K mg base:=h38.got X G (by walk_at "l") (by walk_at "b") λF m b=>Jc T lW lX F;have lY:D1 l.prog w K mg base:=h39.got X G (λ_ _ _ h=>Ig h) (by walk_at "b") λF m b=>Jh T  F;have lc:Gj l.prog w K mg base:=h40.got X G (by walk_at "l") (by walk_at "b") λF m b=>K0 T lY lZ F;have lf:JP l.prog w K mg base:=h41.got X G (by walk_at "l") (by walk_at "b") λF m b=>Nk T  F;have lh:Gk l.prog w K mg base:=h42.got X G (λ_ _ _ h=>Ig h) (by walk_at "b") λF m b=>K3 T lY lc lf F;have lr:F4 l.prog w K mg base:=h43.got X G (by walk_at "l") (by walk_at "b") λF m b=>Jg T lh F;have ln:EY l.prog w K mg base:=h44.got X G (by walk_at "l") (by walk_at "b") λF m b=>Kx T  F;have lm:F5 l.prog w K mg base:=h45.got X G (by walk_at "l") (by walk_at "b") λF m b=>Ji T lZ F;have lu:F1 l.prog w K mg base:=h46.got X G (by walk_at "l") (by walk_at "b") λF m b=>Jd T lm ln F;have l0:EI l.prog w K mg base:=h47.got X G (by walk_at "l") (by walk_at "b") λF m b=>Gy T lW lr lu F;have l8:F3 l.prog w K mg base:=h48.got X G (by walk_at "l") (by walk_at "b") λF m b=>Jf T lX lP F;have l9:F2 l.prog w K mg base:=h49.got X G (by walk_at "l") (by walk_at "b") λF m b=>Je T ln F;exact Yj T Gf mf Ff.kp bf l0 lW l7 lP l8 l9 l_ mB mC mE (VO (st:=Kj) l' c k)
theorem walk{l:PySem.W.OpenLaw}{q:dZ}{loose:List Str}{XP:(Str->Option Ev)->dL->Prop}{YP:dh->dL->Prop}{d:DefRec}{K:Params->Frag}(hn:l.most=some 63)(hdf:d.params.defaults=[])
  (hY:∀(w:dh) (h:dL),YP w h->(K w.params).In h)
  (F:∀(w:dh) (mg:Str->Option Ev) (fa:Ch) (h:dL),(K w.params).In h->h.Ns mainGlobals mg->mg d.name=some (.ref fa) ->
   ∃fd:eI,(∀(s:Op) (u:Ev),jW s fd ⟨[u],[]⟩ [("_law_script",u)])/\∀base:dL,(K w.params).In base->base.Ns mainGlobals mg->A8 l.prog w (K w.params) mg base B9 7 fa fd ["_law_script"] (Of (K w.params))) :
  PySem.W.WalkO q loose XP YP l.row.toRowW d [] (λf vs=>PySem.call f vs) :=
 L2.Qz (n:=63) (k:=7) (x := "_law_script") (CX:=λ_=>B9) (sp:=λw=>Of (K w.params)) hn (by decide) hdf ⟨rfl,by decide,by decide,rfl⟩ hY F (λ_ _ a ns hl _ hS=>⟨a,ns,rfl,⟨hl,hS⟩,λ_=>rfl⟩) λ_ _ _ _ _ z=>z
end K11
end _p
namespace PySem.W.Fast
theorem tw6881886040229041453:True:=⟨⟩
theorem tw11181223723078792838:True:=⟨⟩
theorem tw13230040089286708636:True:=⟨⟩
theorem tw14011685743165207401:True:=⟨⟩
theorem tw7547980310200190958:True:=⟨⟩
theorem tw17929537110590752826:True:=⟨⟩
theorem tw5727906662657940633:True:=⟨⟩
theorem tw7785774606670465294:True:=⟨⟩
theorem tw10355664426122659187:True:=⟨⟩
theorem tw2288692813994781734:True:=⟨⟩
theorem tw1504792932151427300:True:=⟨⟩
theorem tw16057738754369658636:True:=⟨⟩
theorem tw950849244656880687:True:=⟨⟩
theorem tw15129433035371004399:True:=⟨⟩
theorem tw9839286555178457235:True:=⟨⟩
theorem tw5369057589887482555:True:=⟨⟩
theorem tw2641664971522518036:True:=⟨⟩
theorem tw15850335110714643833:True:=⟨⟩
end PySem.W.Fast
open _p
open PySem.W
set_option maxRecDepth 100000 in
set_option maxHeartbeats 0 in
theorem PySem.Challenge.cw_thinnet_k11_greedy_papers_told_holds : PySem.Challenge.rw_thinnet_k11_greedy_papers_told.Holds := by
 w_on; o_law; k_head; (case hw=>w_witness2)
 k_fill
 refine K11.walk (l:=PySem.Challenge.rw_thinnet_k11_greedy_papers_told) rfl rfl (λw h Y=>PySem.W.kIn_of Y) ?F
 case F =>
  intro w mg fa h KX G hmg
  refine' K11.all_mk KX G hmg ?_ ?_ ?_ ?_ ?_ ?_ ?_ ?_ ?_ ?_ ?_ ?_ ?_ ?_ ?_ ?_ ?_ ?_ ?_ ?_ ?_ ?_ ?_ ?_ ?_ ?_ ?_ ?_ ?_ ?_ ?_ ?_ ?_ ?_ ?_ ?_ ?_ ?_ ?_ ?_ ?_ ?_ ?_ ?_ ?_ ?_ ?_ ?_ ?_ ?_ ?_ ?_ ?_ ?_ ?_ ?_ ?_ ?_ ?_ ?_ ?_ ?_ ?_ ?_ ?_ ?_ ?_ ?_
  all_goals first
   | (refine' K11.Ht.mk ?a ?l ?c ?k; (case a=>k_is); (case l=>k_is); (case c=>k_is); (case k=>k_is))
   | (refine' K11.Hi.mk ?a; (case a=>k_is))
   | (refine' K11.Hn.mk ?a; (case a=>k_is))
#print axioms PySem.Challenge.cw_thinnet_k11_greedy_papers_told_holds

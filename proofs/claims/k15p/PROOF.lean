import PyProof.Rows.All
import Wide.All
import OpenK.AllK
import Wide.FinOn
import Lean
import PyProof.EqAt
import PyProof.EqKinds
import PyProof.TupleCall
import PyProof.StationsW
import PyProof.PassesOwn
import PyProof.RulesAs
import PyProof.ExcClass3
import PyProof.Rows.CatchOwn
import OpenK.KMake
import OpenK.KWalk
import PyProof.InstStoreFacts
import PyProof.ExcBaseAll.ValueError
import PyProof.RangeIter
import OpenK.KRaise
import PyProof.NsDelKeeps
import KE.KIsAll
import PyProof.P3In
import PyProof.NeData
import PyProof.ExcArgs
import KE.KSortTup
import PyProof.CompUse
import KE.KRevIter
import PyProof.TupleOfGen
import PyProof.CollectIter
import PyProof.ListMulRoad
import PyProof.Draws
import PyProof.EnumMake
import PyProof.ListNew
import PyProof.AttrMissHeap
import PyProof.FactsAll.dict
import KE.KEqDict
import PyProof.FactsAll.zip
import PyProof.StrBlockH
import PyProof.MeetsStr2
import KE.KIntText
import PyProof.Rows.FStr
import PyProof.ReprLen
import PyProof.SumAny
import PyProof.Rows.SeqCalls
import PySem.Challenge.RW_thinnet_k15_whole_every_way_within
open PySem.W (Frag nsIn keepIn fnOf codeIn mg_of mg_none_of)
set_option Elab.async false
set_option linter.all false
set_option maxRecDepth 100000
open Array renaming length_toList->iz,getElem?_eq_getElem->jl,getElem?_eq_some_iff->kT,getElem_mem->mM
open Array.Perm renaming refl->my
open Bool renaming and_eq_true->gX,false_ne_true->gh,eq_iff_iff->iN,eq_false_iff->ig,false_eq_true->jB
open Classical renaming byContradiction->kd,propDecidable->k8
open False renaming elim->iZ
open ForInStep renaming yield->jO
open Int renaming le_refl->jo,mul_le_mul_of_nonneg_left->j7,toNat_natCast->j8,mul_le_mul_of_nonneg_right->lg,le_trans->mq,add_assoc->nQ
open List renaming getElem?_eq_getElem->FM,length_map->No,mem_cons_self->Op,mem_singleton->Re,mem_cons_of_mem->Rs,mem_map->TM,mem_cons->TW,replicate->Uf,getElem?_eq_some_iff->ZB,length_append->eq,mem_append_right->f8,mem_append->gP,size_toArray->gQ,getElem?_map->gR,length_cons->gS,not_mem_nil->gU,nodup_cons->gk,length_singleton->gl,toArray->gp,append_nil->gq,range->gs,nil_append->gy,map_cons->g7,getD_eq_getElem?_getD->g_,getElem_mem->hV,map_append->hX,Nodup->hZ,nodup_nil->h_,append_assoc->iA,nodup_append->iB,getElem?_append_right->iC,mem_append_left->iJ,pairwise_cons->iL,all_eq_true->iQ,getElem?_append_left->iR,mem_of_getElem?->iS,mem_range->iT,length_filter_le->iX,drop_eq_getElem_cons->ic,map_map->ij,length_nil->ik,length_set->i7,length_take->jA,mem_flatMap->jF,cons_ne_nil->jG,mem_filter->jM,length_range->jS,mem_iff_getElem?->je,lookup_cons->jq,drop_length->jr,filterMap_cons->jt,length_reverse->ju,reverse_cons->j9,pairwise_map->kA,filter_congr->kC,take_append_drop->kL,mem_of_mem_take->kO,pairwise_append->kP,any_eq_true->kQ,perm_ext_iff_of_nodup->kW,lookup->kX,length->kY,map_congr_left->kZ,forIn_cons->kc,mem_of_find?_eq_some->ke,zipWith->ki,lt_irrefl->kr,getElem?_replicate->kz,length_eq_zero_iff->k6,pairwise_singleton->k7,flatMap_cons->k_,getElem?_set_self->lD,take_length->lJ,getElem?_zipWith->lM,getElem?_eq_none->lN,singleton_append->lO,getElem?_set_ne->lQ,of_mem_zip->lR,mem_of_mem_drop->lf,filter_sublist->li,mem_filterMap->lu,filterMap_map->lv,zip_cons_cons->lz,pairwise_iff_getElem->mP,getElem?_zip_eq_some->mR,length_drop->mV,map_nil->mZ,cons_append->mj,mem_reverse->mn,sublist_append_left->mo,getElem?_cons_succ->mr,length_zip->mz,find?_some->m7,filter_map->m8,range_succ_eq_map->nA,take_of_length_le->nC,map_id->nE,length_replicate->nF,drop_zero->nG,any_cons->nN,all_cons->nO,sum_cons->nP,all_map->ni
open List.Pairwise renaming imp_of_mem->mh,nil->nk
open List.Sublist renaming refl->lC
open Nat renaming le_refl->On,zero_le->Tk,le_trans->gc,ne_of_lt->gg,lt_of_lt_of_le->gv,le_succ->iE,lt_irrefl->iY,lt_succ_of_lt->iw,ne_of_gt->jY,lt_of_le_of_lt->jx,min_le_right->kN,not_lt->ko,succ_le_succ->lI,lt_trans->lT,le_succ_of_le->mN,mod_lt->mQ,le_of_lt->mS,le_of_eq->mW,lt_succ_self->mX,sub_self->me,min_eq_left->m6
open Nat.succ renaming inj->kj
open Ne renaming symm->iM
open Option renaming map_eq_some_iff->g0,isSome_map->mI,some_beq_some->nL,isNone->nR
open Option.some renaming inj->gW
open Or renaming inl->T0,inr->jK
open PyProof.Rows renaming slot_tuple_getitem->gz,callWith_type1->iW,boot_all->jL,boot_tuple->jQ,listUpdate_at->jh,get?_update_seq->jz,AllBare->kE,boot_sorted->lE,listItems_at->lZ,entry_tuple_getitem->lh,seqEpoch_at->lr,args_tuple_getitem->lw,lt_int->m9
open PyProof.Rows.KeyOrd renaming kle_refl->i8,kle_of_klt->k9,kle_trans->lK,kle_antisymm->nX
open PySem renaming Addr->Ch,wpAny_bind->Cn,Value->Db,Shared->Go,wpAny_pure->Sc,Heap->gf,Program->gi,Expr->gj,Stmt->gm,World->gn,Around->gw,wpAny_mono->g9,FuncData->hU,wpAny_field->iD,wpAny_loadPart_at->iI,sizeLine_eq->iK,wpAny_holding->iP,wpAny_loadPart'->iU,wpAny_isSubtype_exc->iV,wpAny_Call_Name_kw->ia,wpAny_callSpecial?_slot->io,wpAny_seqItems->ir,wpAny_newObj_type->iu,wpAny_pyIter_list->iy,codeAny_builtin->i9,wpAny_pyIter_tuple->i_,IsPair->jC,Keyword->jJ,Scope->jN,wpAny_truthy_bool->jR,plainId_quiet->jT,NameKind->jU,wpAny_call_entry->jV,tupleKind_room_in1->jZ,PyData->ja,wpAny_setField_rec->jb,wpAny_passesOwn->jd,wpAny_call->jj,codeAny_call_builtin->jm,wpAny_getItem_str_slice->jv,wpAny_execs_nil->jw,wpAny_letGo->j1,IsZip->j_,codeAny_mono->kG,wpAny_typeOf->kH,Builtin->kI,ExceptHandler->kU,wpAny_setField->kq,wpAny_standAt->lF,wpAny_onRaise->lH,PassesOwn->lL,plainObj_wpAny_Assign_Attribute->lP,IsPart->lS,call_meetsIn->lU,post_val_or_str->lW,wpAny_updateSeq_pair->lX,wpAny_updateSeq->lc,BindsTo->lj,wpAny_tryCatch->lq,wpAny_newList->mE,wpAny_sequenceKey->mG,slot_list_getitem->mH,wpAny_rule->mO,wpAny_execs_cons->mT,noFill_tuple_add->mU,wpAny_madeBy_exc->mY,wpAny_specialOf->mw,codeAny_of_tree->mx,wpAny_of_eq->m_
open PySem.Around renaming under_plainId->jP
open PySem.Builtin.Builtins renaming bindParams->l9
open PySem.Builtin.List renaming listExtendWith->jc,listSameRef->mi
open PySem.Builtin.ObjectAttr renaming storeInDict->lV
open PySem.Builtin.Slice renaming slicePlaces->i6,sliceAdjust->jk,sliceApplied->mB
open PySem.Builtin.SmallTypes renaming nextOf->ie,ownedTupleIsFree->jD,ownedTupleHandOut->kh
open PySem.Builtin.Tuple renaming tupleExact->jp,tupleItemsOf->kR,tupleIsExact->mC
open PySem.Calls renaming spliced_cons->jI,callWith_builtin->jX,spliced_nil->ji,evalArgs_plain->kM,Name_function_global->l_
open PySem.Code renaming quiet_builtin->jy
open PySem.EntryCells renaming newEntry->nS
open PySem.Expr renaming Call->nj
open PySem.F renaming slot_tuple_iterator_next->jg,slot_zip_next->lY,args_tuple_iterator_next_1->ln,entry_tuple_iterator_next->l7,called_tuple->nH
open PySem.Heap renaming get?_push_of_some->Ev,lt_size->UF,get?_push_size->XV,get?_update_other->gZ,get?_update_self->ii,size_push->iq,SameBut->kF,IsTuple->md,IsList->nB
open PySem.Heap.IsSliceOf renaming new->nh
open PySem.Heap.SameBut renaming update->nW
open PySem.Heap.UpToSlots renaming refl->nU
open PySem.NameKind renaming free->iH,cell->lG
open PySem.Obj renaming mapSeq->iO,mapFields->jf,data_mapFields->kg
open PySem.PassesOwn renaming never->gu
open PySem.PyData renaming eqv->iF,depthAll->im,canLayAll0->jE,hasDict->kJ,eqvAll->mF,hasDictAll->mL,leavesShortAll->nI
open PySem.SeqAt.EqAt renaming int_str->nc,str_int->ng
open PySem.Shared renaming heap->j6
open PySem.Str renaming ofString->iG,length_append->mJ
open PySem.Value renaming ref->gY,none->g8,type->jW,bool->kn,int->nY,str->nZ
open Std.Legacy.Range renaming size->nJ
open Sum renaming inr->jH,inl->km
open Sum.inr renaming inj->jn
open True renaming intro->ip
open PySem PySem.Spec PyProof.Rows
local macro_rules | `(tactic| walk_at "s")=>`(tactic| (constructor <;> first | rfl | decide +kernel))
namespace _p
local macro_rules|`(tactic|let⟨$x,*⟩:=$e)=>open Lean Parser Tactic in do
 let q k a:=mkNode ``rcasesPatLo #[mkNode ``rcasesPatMed #[mkNullNode #[mkNode k a]],mkNullNode]
 let p:Syntax:=(← `(term|⟨$x,*⟩)).raw.rewriteBottomUp fun s=>if s.isIdent then q ``rcasesPat.one #[s] else if s.getKind= ``Term.hole then q ``rcasesPat.ignore s.getArgs else if s.getKind= ``Term.anonymousCtor then q ``rcasesPat.tuple s.getArgs else s
 let m:TSyntax ``rcasesPatMed:=⟨p[0]⟩
 `(tactic|obtain $m:rcasesPatMed:=$e)
local macro_rules|`(tactic|exists $x,*)=>`(tactic|refine⟨$x,*, ?_⟩)
open Option renaming some->P3,none->p_
open Bool renaming true->q_,false->r_
abbrev s_(a:Type u):=List a
abbrev t_(a:Type u):=Option a
namespace L2
abbrev Key:=Sum Int Str
def Mg:Key->Db->Bool
 |.inl k,v=>Value.isInt k v
 |.inr x,v=>Value.isStrOf x v
def fD(w:gn):Key->Int
 |.inl k=>hashInt k
 |.inr x=>hashStr w x
theorem BS:∀{k:Key}{v:Db},Mg k v=q_->(∃i t,k=km i/\v=nY i t)\/(∃x t,k=jH x/\v=nZ x t)
 |.inl i,v,h=>by
  let⟨t,e⟩:=Value.isInt_shape h;exact .inl ⟨i,t,rfl,e⟩
 |.inr x,v,h=>by
  let⟨t,e⟩:=Value.isStrOf_shape h;exact .inr ⟨x,t,rfl,e⟩
theorem UL(i:Int)(t:Tok):Mg (.inl i) (.int i t)=q_:=by simp[Mg,Value.isInt]
theorem UK(x:Str)(t:Tok):Mg (.inr x) (.str x t)=q_:=by simp[Mg,Value.isStrOf]
theorem aR(a b:Int):decide ((km a:Key)=km b)=(a==b):=by
 grind
theorem aO(a b:Str):decide ((jH a:Key)=jH b)=decide (a=b):=by
 grind
theorem aQ(a:Int)(b:Str):decide ((km a:Key)=jH b)=r_:=decide_eq_false (λq=>nomatch q)
theorem aP(a:Str)(b:Int):decide ((jH a:Key)=km b)=r_:=decide_eq_false (λq=>nomatch q)
def BO(c:gi)(w:gn):PySem.KeyKind c w Key where
 is:=Mg
 hash:=fD w
 inj:=λv a b l g=>by
  rcases BS l with⟨i,t,rfl,rfl⟩|⟨x,t,rfl,rfl⟩
  ·rcases BS g with⟨j,u,rfl,e⟩|⟨y,u,rfl,e⟩
   ·injection e with d _;rw[d]
   ·exact nomatch e
  ·rcases BS g with⟨j,u,rfl,e⟩|⟨y,u,rfl,e⟩
   ·exact nomatch e
   ·injection e with d _;rw[d]
 byValue:=λk v h=>by
  rcases BS h with⟨i,t,rfl,rfl⟩|⟨x,t,rfl,rfl⟩ <;>rfl
 pyHash:=λf h=>by
  rcases BS f with⟨i,t,rfl,rfl⟩|⟨x,t,rfl,rfl⟩
  ·exact wpAny_pyHash_int h
  ·exact wpAny_pyHash_str h
 eqBool:=λm f h=>by
  rcases BS m with⟨i,t,rfl,rfl⟩|⟨x,t,rfl,rfl⟩
  ·rcases BS f with⟨j,u,rfl,rfl⟩|⟨y,u,rfl,rfl⟩
   ·rw[aR]at h;exact wpAny_eqBool_int h
   ·rw[aQ]at h;exact nc i t y u _ _ _ _ h
  ·rcases BS f with⟨j,u,rfl,rfl⟩|⟨y,u,rfl,rfl⟩
   ·rw[aP]at h;exact ng x t j u _ _ _ _ h
   ·rw[aO]at h;exact wpAny_eqBool_str h
 «strs»:=λk x t v h=>by
  rcases BS h with⟨i,u,rfl,e⟩|⟨y,u,rfl,e⟩
  ·exact nomatch e
  ·injection e with d _
   subst d
   cases v <;>rfl
theorem Pj(a:gi)(w:gn)(i:Int)(t:Tok):(BO a w).is (.inl i) (.int i t)=q_:=UL i t
theorem Ph(a:gi)(w:gn)(x:Str)(t:Tok):(BO a w).is (.inr x) (.str x t)=q_:=UK x t
inductive V where
 |non|bl (b:Bool)|int (i:Int)|str (x:Str)|byt (b:Array UInt8)|flt (b:UInt64)|ref (a:Ch)|ty (n:String)
 deriving DecidableEq
def RelV:V->Db->Prop
 |.non,u=>u=g8
 |.bl b,u=>u=kn b
 |.int i,u=>∃t,u=nY i t
 |.str x,u=>∃t,u=nZ x t
 |.byt b,u=>∃t,u=Value.bytes b t
 |.flt b,u=>∃t,u=Value.float b t
 |.ref a,u=>u=gY a
 |.ty n,u=>u=jW n
abbrev Vals:s_ V->s_ Db->Prop:=Paired RelV
theorem Vals.length{a:s_ V}{b:s_ Db}(r:Vals a b):a.length=b.length:=Paired.length r
theorem Vals.get:∀{a:s_ V}{b:s_ Db}{i:Nat}{x:V},Vals a b->a[i]?=P3 x->∃u,b[i]?=P3 u/\RelV x u
 |_,_,_,_,.nil,e=>by simp at e
 |_,_,0,_,.cons r _,e=>by simp_all
 |_,_,i+1,x,.cons _ t,e=>by
  let⟨u,c,d⟩:=Vals.get t (by simpa using e)
  simp_all
theorem Vals.set{x:V}{u:Db}(r:RelV x u):∀{a:s_ V}{b:s_ Db} (i:Nat),Vals a b->Vals (a.set i x) (b.set i u)
 |_,_,_,.nil=>.nil
 |_,_,0,.cons _ t=>.cons r t
 |_,_,i+1,.cons q t=>.cons q (Vals.set r i t)
theorem Vals.append:∀{a b:s_ V}{c d:s_ Db},Vals a c->Vals b d->Vals (a++b) (c++d)
 |_,_,_,_,.nil,s=>s
 |_,_,_,_,.cons r t,s=>.cons r (Vals.append t s)
theorem Vals.take:∀{a:s_ V}{b:s_ Db} (n:Nat),Vals a b->Vals (a.take n) (b.take n)
 |_,_,0,_=>.nil
 |_,_,_+1,.nil=>.nil
 |_,_,n+1,.cons r t=>.cons r (Vals.take n t)
theorem Vals.drop:∀{a:s_ V}{b:s_ Db} (n:Nat),Vals a b->Vals (a.drop n) (b.drop n)
 |_,_,0,r=>r
 |_,_,_+1,.nil=>.nil
 |_,_,n+1,.cons _ t=>Vals.drop n t
def RelO:t_ V->t_ Db->Prop
 |some v,P3 u=>RelV v u
 |none,p_=>True
 |_,_=>False
def KV{a:Type}:s_ (a×V)->s_ (a×Db)->Prop:=Paired fun(p:a×V) (q:a×Db)=>p.1=q.1/\RelV p.2 q.2
def kV:Key->V
 |.inl i=>.int i
 |.inr x=>.str x
inductive HO where
 |lst (xs:List V)
 |tup (xs:List V)
 |dK (kvs:List (Key×V))|dT (kvs:List (List Key×V))
 |set (S:Int->Bool) (n:Nat)
 |ins (C dx:Ch) (fs:List (Str×V))
 |own (x:Ch)
 |xd (fs:List (Str×V))
 |met (f x:Ch)
 |rng (lo hi:Int)
 |frz (o:Obj) (u:HO)
 |tbl (ps:Array Db)
 |ext (φ:gf->Prop)
abbrev Hp:=Ch->t_ HO
def A2(H:Hp)(a:Ch)(o:HO):Hp:=λb=>if b=a then P3 o else H b
theorem AX{H:Hp}{a:Ch}{o:HO}:A2 H a o a=P3 o:=by unfold A2;grind
theorem AT{H:Hp}{a b:Ch}{o:HO}(h:b≠a):A2 H a o b=H b:=by unfold A2;rw[if_neg h]
theorem c0{H:Hp}{a b:Ch}{o u:HO}(h:H a=P3 o)(c:H b=P3 u)(d:o≠u):a≠b:=by
 grind
theorem Ax{H:Hp}{a b:Ch}{o:HO}(h:H a=P3 o)(c:H b=p_):a≠b:=by
 grind
def IsTupN(h:gf)(a:Ch)(b:Array Db):Prop:=∃o,h.get? a=P3 o/\o.cls=.type "tuple"/\∃n,o.data=.seq b n/\o.dict=p_/\o.slots=#[]
theorem IsTupN.tup{h:gf}{a:Ch}{b:Array Db}(x:IsTupN h a b):IsTup h a b:=let ⟨o,c,d,n,e,_⟩:=x;⟨o,c,d,n,e⟩
theorem IsTupN.new(h:gf)(a:Array Db):IsTupN (h.push {cls:=.type "tuple",data:=.seq a}) h.objs.size a:=⟨_,XV _ rfl,rfl,_,rfl,rfl,rfl⟩
section
variable (P:Program)(w:World)
def ObjOk(H:Hp)(h:gf)(a:Ch):HO->Prop
 |.lst d=>d.length<=sizeLine/\∃(b:s_ Db) (n:Nat),Vals d b/\h.get? a=P3 {cls:=.type "list",data:=.seq b.toArray n}
 |.tup d=>d.length<=sizeLine/\∃b:s_ Db,Vals d b/\IsTupN h a b.toArray
 |.dK c=>c.length<=sizeLine/\(a==sysModules)=r_/\∃k,KV c k/\h.DictOf (BO P w) a k
 | .dT c=>c.length<=sizeLine/\(a==sysModules)=r_/\∃d:s_ (s_ Key×Ch×Db),
   Paired (fun(p:s_ Key×V) (q:s_ Key×Ch×Db)=>p.1=q.1/\H q.2.1=P3 (.tup (p.1.map kV))/\RelV p.2 q.2.2) c d /\
   ∃o l y,h.get? a=P3 o/\o.ExactDict/\o.data=.dict l y/\l.toList=d.map (entryOfKey (tupleKind (BO P w)))/\(d.map (·.1)).Nodup
 |.set S n=>h.SetOf (intKind P w) a S n
 | .ins C i g=>H i=P3 (.own a)/\g.length<=1000/\i≠a/\h.get? a=P3 (PySem.W.instObj C i) /\
   ∃e,h.Ns1 i e/\(∀f,RelO (g.lookup f) (e f))/\PySem.Within e (g.map (·.1))
 |.own _=>∃o,h.get? a=P3 o
 |.xd g=>∃e,h.Ns1 a e/\∀f,RelO (g.lookup f) (e f)
 |.rng z A=>∃t u v,h.get? a=P3 {cls:=.type "range",data:=.fields #[.int z t,.int A u,.int 1 v]}
 |.frz o u=>h.get? a=P3 o/\ObjOk H h a u
 |.tbl B=>h.get? a=P3 {cls:=.none,data:=.fields B}
 |.met f x=>h.get? a=P3 (PySem.W.methodObj (.ref f) (.ref x))
 |.ext j=>j h/\(∃o,h.get? a=P3 o)/\∀m r:gf,j m->(∀o,m.get? a=P3 o->r.get? a=P3 o)->j r
def HOk(H:Hp)(h:gf):Prop:=∀a o,H a=P3 o->ObjOk P w H h a o
end
section
variable {P:Program}{w:World}{H H':Hp}{h h':Heap}{a:Addr}{o:HO}
theorem ObjOk.lt(x:ObjOk P w H h a o):a<h.objs.size:=by
 cases o with
 |lst c=>let⟨_,_,_,_,e⟩:=x;exact UF e
 |tup c=>let⟨_,_,_,p⟩:=x;exact p.tup.lt
 |dK b=>let⟨_,_,_,_,o,_,_,e,_⟩:=x;exact UF e
 |dT b=>let⟨_,_,_,_,o,_,_,e,_⟩:=x;exact UF e
 |set S n=>let⟨o,_,_,_,e,_⟩:=x;exact UF e
 |ins C g d=>let⟨_,_,_,e,_⟩:=x;exact UF e
 |own y=>let⟨_,e⟩:=x;exact UF e
 |xd d=>let⟨_,⟨_,_,_,e,_⟩,_⟩:=x;exact UF e
 |rng i j=>let⟨_,_,_,e⟩:=x;exact UF e
 |frz k u=>let⟨e,_⟩:=x;exact UF e
 |tbl l=>exact UF (show h.get? a=P3 _ from x)
 |met f y=>exact UF (show h.get? a=P3 _ from x)
 |ext m=>let⟨_,⟨_,e⟩,_⟩:=x;exact UF e
theorem Paired.mapP{e g:Type}{F G:e->g->Prop}:∀{c:s_ e}{d:s_ g},Paired F c d->(∀a b,F a b->G a b)->Paired G c d
 |_,_,.nil,_=>.nil
 |_,_,.cons r t,f=>.cons (f _ _ r) (Paired.mapP t f)
theorem ObjOk.stay(x:ObjOk P w H h a o)(k:∀b u,(b=a\/H b=P3 (.own a))->h.get? b=P3 u->h'.get? b=P3 u)
  (F:∀b,H b=P3 (.own a)->H' b=P3 (.own a)) (G:∀b m,H b=P3 (.tup m)->H' b=P3 (.tup m)):ObjOk P w H' h' a o:=by
 induction o with
 |lst m=>let⟨z,l,n,r,e⟩:=x;exact⟨z,l,n,r,k _ _ (.inl rfl) e⟩
 |tup m=>let⟨z,l,r,g,e,c⟩:=x;exact⟨z,l,r,g,k _ _ (.inl rfl) e,c⟩
 |dK s=>let⟨z,y,I,r,g,i,j,e,c⟩:=x;exact⟨z,y,I,r,g,i,j,k _ _ (.inl rfl) e,c⟩
 |dT s=>
  let⟨z,y,m,r,g,i,j,e,c⟩:=x;exact⟨z,y,m,Paired.mapP r λp q z=>⟨z.1,G _ _ z.2.1,z.2.2⟩,g,i,j,k _ _ (.inl rfl) e,c⟩
 |set S n=>let⟨g,i,j,t,e,c⟩:=x;exact⟨g,i,j,t,k _ _ (.inl rfl) e,c⟩
 |ins C N J=>
  let⟨d,z,K,e,A,⟨B,i,j,L,c⟩,r⟩:=x;exact⟨F _ d,z,K,k _ _ (.inl rfl) e,A,⟨B,i,j,k _ _ (.inr d) L,c⟩,r⟩
 |own y=>let⟨g,e⟩:=x;exact⟨g,k _ _ (.inl rfl) e⟩
 |xd J=>let⟨A,⟨B,i,j,e,c⟩,r⟩:=x;exact⟨A,⟨B,i,j,k _ _ (.inl rfl) e,c⟩,r⟩
 |rng O Q=>let⟨t,u,v,e⟩:=x;exact⟨t,u,v,k _ _ (.inl rfl) e⟩
 |frz g u M=>let⟨e,q⟩:=x;exact⟨k _ _ (.inl rfl) e,M q⟩
 |tbl D=>
  have e:h.get? a=P3 {cls:=.none,data:=.fields D}:=x;show h'.get? a=P3 {cls:=.none,data:=.fields D};exact k a _ (.inl rfl) e
 |met f y=>
  have e:h.get? a=P3 (PySem.W.methodObj (.ref f) (.ref y)):=x;show h'.get? a=P3 (PySem.W.methodObj (.ref f) (.ref y));exact k a _ (.inl rfl) e
 |ext R=>let⟨p,⟨o,e⟩,E⟩:=x;exact⟨E _ _ p λo q=>k _ _ (.inl rfl) q,⟨o,k _ _ (.inl rfl) e⟩,E⟩
theorem HOk.lt(x:HOk P w H h)(e:H a=P3 o):a<h.objs.size:=(x a o e).lt
theorem HOk.fresh(x:HOk P w H h)(e:h.objs.size<=a):H a=p_:=by
 cases q:H a with
 |none=>rfl
 |some u=>exact absurd (gv (x.lt q) e) (iY _)
theorem HOk.kept(x:HOk P w H h)(k:∀b u,h.get? b=P3 u->h'.get? b=P3 u):HOk P w H h':=λa o e=>
 (x a o e).stay (λb u _ q=>k b u q) (λ_ q=>q) λ_ _ q=>q
theorem HOk.laid(x:HOk P w H h)(k:∀b u,h.get? b=P3 u->h'.get? b=P3 u)(g:h.objs.size<=a)(new:ObjOk P w (A2 H a o) h' a o):HOk P w (A2 H a o) h':=λb u e=>by
 have d:=x.fresh g
 by_cases f:b=a
 ·subst f;rw[AX]at e;grind
 ·rw[AT f]at e
  exact(x b u e).stay (λc v _ q=>k c v q) (λc q=>by rw[AT (Ax q d)];exact q) λc i q=>by rw[AT (Ax q d)];exact q
end
def Rd(H:Hp)(a:Ch)(u:HO):Prop:=H a=P3 u\/∃o,H a=P3 (.frz o u)
theorem Rd.ok{P:gi}{w:gn}{H:Hp}{h:gf}{a:Ch}{u:HO}(r:Rd H a u)(x:HOk P w H h):ObjOk P w H h a u:=by
 rcases r with r|⟨o,r⟩
 ·exact x a u r
 ·let⟨_,q⟩:=x a _ r
  exact q
def dh:t_ HO->Prop
 |some (.lst _)=>True
 |some (.dK _)=>True
 |some (.dT _)=>True
 |some (.set _ _)=>True
 |some (.ins _ _ _)=>True
 |some (.ext _)=>True
 |_=>False
section
variable {P:Program}{w:World}{H:Hp}{h h':Heap}{x e:Addr}{o':HO}
theorem HOk.write(ok:HOk P w H h)(f:dh (H x))(o:e=x\/H e=P3 (.own x))(k:∀b u,b≠e->h.get? b=P3 u->h'.get? b=P3 u)(i:∃u,h'.get? e=P3 u)
  (new:ObjOk P w (A2 H x o') h' x o'):HOk P w (A2 H x o') h':=λb u q=>by
 have a:∀c y,H c=P3 (.own y)->c≠x:=λc y r z=>by subst z;rw[r]at f;exact f
 have d:∀c g,H c=P3 (.tup g)->c≠x:=λc g r z=>by subst z;rw[r]at f;exact f
 by_cases l:b=x
 ·subst l;rw[AX]at q;cases q;exact new
 ·rw[AT l]at q
  by_cases j:b=e
  ·have m:H b=P3 (.own x):=by
    grind
   rw[q]at m;cases m
   let⟨v,n⟩:=i;exact⟨v,by rw[j];exact n⟩
  ·refine(ok b u q).stay (λc v p r=>k c v ?_ r) (λc r=>by rw[AT (a c b r)];exact r) λc g r=>by rw[AT (d c g r)];exact r
   grind
end
structure Un (fs ex:List Ch) (H H':Hp) (h h':gf):Prop where
 keep:∀b o,h.get? b=P3 o->H b=p_->b∉fs->b∉ex->h'.get? b=P3 o
 slot:∀b o,h.get? b=P3 o->H b=p_->b∈fs->b∉ex->∃sl,h'.get? b=P3 {o with slots:=sl}
 free:∀b o,h.get? b=P3 o->H b=p_->b∉ex->H' b=p_
 there:∀b o,h.get? b=P3 o->b∉ex->∃o',h'.get? b=P3 o'
 tups:∀b xs,H b=P3 (.tup xs)->H' b=P3 (.tup xs)
 frzs:∀b o u,H b=P3 (.frz o u)->H' b=P3 (.frz o u)
 tbls:∀b ps,H b=P3 (.tbl ps)->∃more,H' b=P3 (.tbl (ps++more))
section
variable {fs ex:s_ Addr}{H H1 H2:Hp}{h h1 h2 h':Heap}{a x e:Addr}{o:HO}
theorem Un.any(u:Un fs ex H H1 h h1){b:Ch}{c:Obj}(q:h.get? b=P3 c)(n:H b=p_)(d:b∉ex):∃f,h1.get? b=P3 {c with slots:=f}:=by
 by_cases e:b∈fs
 ·exact u.slot b c q n e d
 ·exact⟨_,u.keep b c q n e d⟩
theorem Un.trans(a:Un fs ex H H1 h h1)(b:Un fs ex H1 H2 h1 h2):Un fs ex H H2 h h2 where
 keep:=λc d q n g e=>b.keep c d (a.keep c d q n g e) (a.free c d q n e) g e
 slot:=λc d q n g e=>by
  let⟨p,f⟩:=a.slot c d q n g e;let⟨l,k⟩:=b.slot c _ f (a.free c d q n e) g e;exact⟨_,k⟩
 free:=λc d q n e=>by
  let⟨j,f⟩:=a.there c d q e;exact b.free c j f (a.free c d q n e) e
 there:=λc d q e=>by
  let⟨j,f⟩:=a.there c d q e;exact b.there c j f e
 tups:=λc i q=>b.tups c i (a.tups c i q)
 frzs:=λc d i q=>b.frzs c d i (a.frzs c d i q)
 tbls:=λc m q=>by
  let⟨r,f⟩:=a.tbls c m q;let⟨s,k⟩:=b.tbls c _ f
  grind
theorem Un.kept(k:∀b u,h.get? b=P3 u->h'.get? b=P3 u):Un fs ex H H h h':=
 ⟨λb c q _ _ _=>k b c q,λb c q _ _ _=>⟨_,k b c q⟩,λ_ _ _ n _=>n,λb c q _=>⟨c,k b c q⟩,λ_ _ q=>q,λ_ _ _ q=>q,λ_ d q=>⟨#[],by rw[q];simp⟩⟩
theorem Un.refl:Un fs ex H H h h:=Un.kept λ_ _ q=>q
theorem Un.laid(k:∀b u,h.get? b=P3 u->h'.get? b=P3 u)(d:h.objs.size<=a)(c:H a=p_):Un fs ex H (A2 H a o) h h' where
 keep:=λb u q _ _ _=>k b u q
 slot:=λb u q _ _ _=>⟨_,k b u q⟩
 free:=λb u q n _=>by rw[AT (gg (gv (UF q) d))];exact n
 there:=λb u q _=>⟨u,k b u q⟩
 tups:=λb e q=>by rw[AT (Ax q c)];exact q
 frzs:=λb u e q=>by rw[AT (Ax q c)];exact q
 tbls:=λb f q=>⟨#[],by rw[AT (Ax q c),q];simp⟩
theorem Un.write(f:dh (H x))(m:e=x\/H e=P3 (.own x))(k:∀b u,b≠e->h.get? b=P3 u->h'.get? b=P3 u)(i:∃u,h'.get? e=P3 u):Un fs ex H (A2 H x o) h h':=by
 have j:∀b,H b=p_->b≠x:=λb n z=>by subst z;rw[n]at f;exact f
 have g:∀b,H b=p_->b≠e:=λb n z=>by
  grind
 have c:∀b u,H b=P3 u->¬dh (P3 u)->b≠x:=λb u q p z=>by grind
 refine⟨λb u q n _ _=>k b u (g b n) q,λb u q n _ _=>⟨u.slots,k b u (g b n) q⟩,λb u q n _=>by rw[AT (j b n)];exact n,λb u q _=>?_,
  λb l q=>by rw[AT (c b _ q λz=>z)];exact q,λb u l q=>by rw[AT (c b _ q λz=>z)];exact q,λb r q=>⟨#[],by rw[AT (c b _ q λz=>z),q];simp⟩⟩
 by_cases d:b=e
 ·simp_all
 ·exact⟨u,k b u d q⟩
end
def f_(h:gf)(H:Hp):s_ Ch:=(gs h.objs.size).filter λa=>(H a).isSome
def N_(h:gf)(H:Hp):gf:=PySem.W.hideAll h (f_ h H)
theorem UQ(h:gf)(H:Hp):(N_ h H).objs.size=h.objs.size:=PySem.W.hideAll_size _ _
theorem WP{h:gf}{H:Hp}{b:Ch}{o:Obj}(e:h.get? b=P3 o)(n:H b=p_):(N_ h H).get? b=P3 o:=
 PySem.W.hideAll_get _ e λa=>by
  have q:=(jM.mp a).2
  grind
theorem X6{h:gf}{H:Hp}{b:Ch}{o:Obj}(e:(N_ h H).get? b=P3 o):h.get? b=P3 o/\H b=p_:=by
 have a:=PySem.W.of_hideAll _ e;exists a;cases q:H b with
 |none=>rfl
 |some x=>
  have z:(N_ h H).get? b=p_:=PySem.W.hideAll_none _ (jM.mpr ⟨iT.mpr (UF a),by simp[q]⟩)
  grind
structure Mod (K:Frag) (mg:Str->Option Db) (base:gf):Prop where
 kin:K.In base
 glob:base.Ns mainGlobals mg
 blt:∃mb,base.Ns builtinsNs mb/\∀x:Str,x ≠ "__name__"->mb x=bootBuiltins x
 nolimit:base.NoLimit
/-- the context:a def's body (or a comprehension's block) running. base:fixed through the whole law;s₀,H₀:the entry;outer:the frames whose slots others may change (a def's callers);stack:all frames that run;
   ex:iterators that were made ahead of the entry and are walked here (a comprehension's);fn:the names whose cells were made at the entry (a def:all;a comprehension's block:its own);calm:not within an except suite;pn:zH that every state bears;xe:what is wanted of an exception that leaves the code -/
structure Cx where
 prog:gi
 w:gn
 K:Frag
 mg:Str->Option Db
 base:gf
 A:gw
 N:List Str
 s₀:Go
 H₀:Hp
 env:Env
 outer:List Env
 stack:List Env
 ex:List Ch
 fn:Str->Bool
 calm:Bool
 pn:List (Ch×Obj)
 xe:Db->Go->Prop
def Ml(l:s_ Env):s_ Ch:=l.filterMap (·.frame)
abbrev Cx.fs(X:Cx):s_ Ch:=Ml X.outer
def bM(a:jN)(x:Str):Prop:=a.names.lookup x=P3 .local\/a.names.lookup x=P3 .cell\/a.names.lookup x=P3 .free
def Loc(a:jN)(x:Str):Prop:=a.names.lookup x=P3 .local\/a.names.lookup x=P3 .cell
def Look(a:Env)(h:gf)(m:Str->t_ Db)(x:Str)(u:Db):Prop:=
 (a.kindOf x=P3 .local/\m x=P3 u)\/((a.kindOf x=P3 .cell\/a.kindOf x=P3 .free)/\∃c,a.cells.lookup x=P3 c/\h.IsCell c (P3 u))
structure Cx.Ok (X:Cx):Prop where
 mod:Mod X.K X.mg X.base
 kind:X.env.scope.kind=.function
 glob:X.env.globals=mainGlobals
 blt:X.env.builtins=builtinsNs
 above:X.s₀.heap.objs.size<=X.env.locals
 inj:∀x y c,X.env.cells.lookup x=P3 c->X.env.cells.lookup y=P3 c->x=y
 has:∀x,(X.env.kindOf x=P3 .cell\/X.env.kindOf x=P3 .free)->∃c,X.env.cells.lookup x=P3 c
 cab:∀x c,X.fn x=q_->X.env.cells.lookup x=P3 c->X.s₀.heap.objs.size<=c
 hd:X.calm=q_->X.A.handled=p_
 frames:X.A.frames=P3 X.stack
 stk:X.stack=X.outer\/(X.stack=X.env::X.outer/\X.env.frame=P3 X.env.locals)
 exf:∀b∈X.ex,b≠X.env.locals/\∀x c,X.env.cells.lookup x=P3 c->c≠b
 bs:∀b o,X.base.get? b=P3 o->X.s₀.heap.get? b=P3 o/\X.H₀ b=p_
 bsz:X.base.objs.size<=X.s₀.heap.objs.size
 noex:∀b o,X.base.get? b=P3 o->b∉X.ex
 exfs:∀b∈X.ex,b∉X.fs
 funs:X.s₀.heap.FunFrames X.base X.outer
 frf:∀b∈X.fs,X.H₀ b=p_
structure Inv (X:Cx) (zH:List (Ch×Obj)) (σ:List (Option V)) (H:Hp) (s:Go):Prop where
 ok:X.Ok
 os:s.os=X.s₀.os
 bare:kE s.gens
 base:Un X.fs X.ex X.H₀ H X.s₀.heap s.heap
 loc:∃m,s.heap.Ns X.env.locals m/\∀(i:Nat) (x:Str) (v:V),X.N[i]?=P3 x->σ[i]?=P3 (P3 v)->bM X.env.scope x->∃u,RelV v u/\Look X.env s.heap m x u
 cell:∀x c,X.env.cells.lookup x=P3 c->∃v,s.heap.IsCell c v
 free:H X.env.locals=p_
 freeC:∀x c,X.env.cells.lookup x=P3 c->H c=p_
 pin:∀p∈X.pn++zH,s.heap.get? p.1=P3 p.2/\H p.1=p_/\p.1≠X.env.locals/\p.1∉X.fs/\∀v,p.2.data≠.cell v
 hok:HOk X.prog X.w H s.heap
 len:σ.length=X.N.length
section
variable {X:Cx}{zH:s_ (Addr×Obj)}{σ:s_ (t_ V)}{H H':Hp}{s:Shared}{h':Heap}
theorem Cx.Ok.nofr(ok:X.Ok){b:Ch}{o:Obj}(e:X.base.get? b=P3 o):b∉X.fs:=λa=>by
 have:=(ok.funs.mem a).1
 grind
theorem Inv.bs(I:Inv X zH σ H s):∀b o,X.base.get? b=P3 o->s.heap.get? b=P3 o/\H b=p_:=λb o e=>
 ⟨I.base.keep b o (I.ok.bs b o e).1 (I.ok.bs b o e).2 (I.ok.nofr e) (I.ok.noex b o e),I.base.free b o (I.ok.bs b o e).1 (I.ok.bs b o e).2 (I.ok.noex b o e)⟩
theorem Inv.bk(I:Inv X zH σ H s):∀b o,X.base.get? b=P3 o->s.heap.get? b=P3 o:=λb o e=>(I.bs b o e).1
theorem Inv.mod(I:Inv X zH σ H s):Mod X.K X.mg X.base:=I.ok.mod
theorem Inv.kIn(I:Inv X zH σ H s):X.K.In s.heap:=I.ok.mod.kin.keeps I.bk
theorem Inv.lt(I:Inv X zH σ H s):X.env.locals<s.heap.objs.size:=let ⟨_,a,_⟩:=I.loc;a.lt
theorem Inv.sz(I:Inv X zH σ H s):X.s₀.heap.objs.size<=s.heap.objs.size:=gc I.ok.above (mS I.lt)
theorem Inv.nofs(I:Inv X zH σ H s){a:Ch}(h:s.heap.objs.size<=a):a∉X.fs:=λb=>by
 let⟨_,o,c,_⟩:=I.ok.funs.mem b;exact absurd (gv (UF c) (gc I.sz h)) (iY _)
theorem Inv.cne(I:Inv X zH σ H s):∀x c,X.env.cells.lookup x=P3 c->c≠X.env.locals:=λx c e z=>by
 let⟨v,o,d,f⟩:=I.cell x c e;let⟨m,⟨g,h,i,a,b,_⟩,_⟩:=I.loc
 grind
theorem Inv.funs(I:Inv X zH σ H s):s.heap.FunFrames X.base X.outer:=by
 have all:∀(l:s_ _),(∀b∈Ml l,b∈X.fs)->X.s₀.heap.FunFrames X.base l->s.heap.FunFrames X.base l:=by
  intro l
  induction l with
  |nil=>intro _ _;trivial
  |cons g r h=>
   intro d i;let⟨j,⟨L,o,f,k,m,n⟩,p⟩:=i;have a:=d L (by unfold Ml;simp_all);let⟨q,e⟩:=I.base.slot L o m (I.ok.frf L a) a λz=>I.ok.exfs L z a;exact⟨j,⟨L,_,f,k,e,n⟩,h (λb c=>d b (by unfold Ml;rw[jt,f];exact Rs _ c)) p⟩
 exact all _ (λ_ c=>c) I.ok.funs
theorem Inv.stack(I:Inv X zH σ H s):s.heap.FunFrames X.base X.stack:=by
 rcases I.ok.stk with e|⟨e,a⟩
 ·rw[e];exact I.funs
 ·rw[e]
  let⟨m,b,_⟩:=I.loc;exact .cons (by rw[I.ok.kind];decide) a b (Heap.get?_none_of_le (gc I.ok.bsz I.ok.above)) I.funs
theorem Inv.stkSub(I:Inv X zH σ H s):∀b∈Ml X.stack,b∈X.env.locals::X.fs:=λb a=>by
 rcases I.ok.stk with e|⟨e,c⟩
 ·grind
 ·rw[e]at a
  unfold Ml at a;rw[jt,c]at a;exact a
theorem Inv.stkFree(I:Inv X zH σ H s):∀b∈Ml X.stack,H b=p_:=λb a=>by
 rcases TW.mp (I.stkSub b a)with e|a
 ·rw[e];exact I.free
 ·let⟨_,o,c,_⟩:=I.ok.funs.mem a
  exact I.base.free b o c (I.ok.frf b a) λz=>I.ok.exfs b z a
theorem Inv.step{g':Array GenState}{t':Nat}{d':Drawn}{ch:s_ Ch}(I:Inv X zH σ H s)
  (f:∀b∈ch,(b∈X.ex\/X.s₀.heap.objs.size<=b)/\b≠X.env.locals/\(∀x c,X.env.cells.lookup x=P3 c->c≠b)/\∀p∈X.pn++zH,p.1≠b)
  (keep:∀b o,b≠X.env.locals->b∉X.fs->b∉ch->s.heap.get? b=P3 o->H b=p_->h'.get? b=P3 o)
  (y:∀b o,b≠X.env.locals->b∈X.fs->b∉ch->s.heap.get? b=P3 o->H b=p_->∃N,h'.get? b=P3 {o with slots:=N}) (free:∀b o,b∉ch->s.heap.get? b=P3 o->H b=p_->H' b=p_)
  (B:∀b o,b∉ch->s.heap.get? b=P3 o->∃E,h'.get? b=P3 E)
  (tups:∀b A,H b=P3 (.tup A)->H' b=P3 (.tup A)) (F:∀b o u,H b=P3 (.frz o u)->H' b=P3 (.frz o u)) (G:∀b M,H b=P3 (.tbl M)->∃J,H' b=P3 (.tbl (M++J)))
  (V:∀m,s.heap.Ns X.env.locals m->h'.Ns X.env.locals m) (O:HOk X.prog X.w H' h') (W:kE g'):
  Inv X zH σ H' {s with heap:=h',gens:=g',drawn:=d',toks:=t'}:=by
 have K:∀b o,X.s₀.heap.get? b=P3 o->b≠X.env.locals:=λb o e=>gg (gv (UF e) I.ok.above)
 have j:∀b o,X.s₀.heap.get? b=P3 o->b∉X.ex->b∉ch:=λb o e a C=>by
  rcases(f b C).1 with z|z
  ·exact a z
  ·exact absurd (gv (UF e) z) (iY _)
 have g:∀x c,X.env.cells.lookup x=P3 c->∀v,s.heap.IsCell c v->h'.IsCell c v:=λx c e v ⟨o,D,P⟩=>by
  have h:c∉ch:=λz=>(f c z).2.2.1 x c e rfl
  by_cases R:c∈X.fs
  ·let⟨N,q⟩:=y c o (I.cne x c e) R h D (I.freeC x c e)
   exact⟨_,q,P⟩
  ·exact⟨o,keep c o (I.cne x c e) R h D (I.freeC x c e),P⟩
 refine⟨I.ok,I.os,W,⟨λb o e n C a=>?_,λb o e n C a=>?_,λb o e n a=>?_,λb o e a=>?_,λb A e=>tups b A (I.base.tups b A e),λb o A e=>F b o A (I.base.frzs b o A e),λb M e=>?_⟩,?_,λx c e=>?_,?_,λx c e=>?_,λp S=>?_,O,I.len⟩
 ·exact keep b o (K b o e) C (j b o e a) (I.base.keep b o e n C a) (I.base.free b o e n a)
 ·let⟨N,t⟩:=I.base.slot b o e n C a
  let⟨Q,L⟩:=y b _ (K b o e) C (j b o e a) t (I.base.free b o e n a);exact⟨Q,L⟩
 ·let⟨E,t⟩:=I.base.there b o e a
  exact free b E (j b o e a) t (I.base.free b o e n a)
 ·let⟨E,t⟩:=I.base.there b o e a
  exact B b E (j b o e a) t
 ·let⟨Y,t⟩:=I.base.tbls b M e
  let⟨Z,L⟩:=G b _ t;exact⟨Y++Z,by rw[L,Array.append_assoc]⟩
 ·let⟨m,hn,hl⟩:=I.loc
  refine⟨m,V m hn,λi x v t L e3=>?_⟩;let⟨u,r,l⟩:=hl i x v t L e3;exists u,r
  rcases l with l|⟨k,c,e,z⟩
  ·exact .inl l
  ·exact .inr ⟨k,c,e,g x c e _ z⟩
 ·let⟨v,z⟩:=I.cell x c e
  exact⟨v,g x c e v z⟩
 ·let⟨m,⟨o,_,_,D,_⟩,_⟩:=I.loc
  exact free _ o (λz=>(f _ z).2.1 rfl) D I.free
 ·let⟨v,o,D,P⟩:=I.cell x c e
  exact free c o (λz=>(f c z).2.2.1 x c e rfl) D (I.freeC x c e)
 ·let⟨e,n,T,U,d⟩:=I.pin p S
  have h:p.1∉ch:=λz=>(f p.1 z).2.2.2 p S rfl;exact⟨keep p.1 p.2 T U h e n,free p.1 p.2 h e n,T,U,d⟩
theorem Inv.un{t':Nat}(I:Inv X zH σ H s)(u:Un X.fs [] H H' s.heap h')(c:HOk X.prog X.w H' h'):Inv X zH σ H' {s with heap:=h',toks:=t'}:=by
 let⟨m,⟨o,l,p,f,r⟩,_⟩:=id I.loc;let⟨q,g⟩:=u.any f I.free (by simp)
 exact I.step (ch:=[]) (λ_ z=>nomatch z) (λb o _ d _ e n=>u.keep b o e n d (by simp)) (λb o _ d _ e n=>u.slot b o e n d (by simp)) (λb o _ e n=>u.free b o e n (by simp)) (λb o _ e=>u.there b o e (by simp)) u.tups u.frzs u.tbls (λt h=>by
  let⟨v,i,j,a,k⟩:=h;rw[f]at a;cases a
  exact⟨_,_,_,g,k⟩) c I.bare
theorem Inv.call{i:Array GenState}{l:Nat}{q:Drawn}{j:s_ Ch}(I:Inv X zH σ H s)(u:Un (Ml X.stack) j H H' s.heap h')(g:HOk X.prog X.w H' h')(t:kE i)
  (d:∀b∈j,(b∈X.ex\/X.s₀.heap.objs.size<=b)/\b≠X.env.locals/\(∀x c,X.env.cells.lookup x=P3 c->c≠b)/\∀p∈X.pn++zH,p.1≠b):
  Inv X zH σ H' {s with heap:=h',gens:=i,drawn:=q,toks:=l}:=by
 let⟨m,⟨o,D,E,k,r⟩,_⟩:=id I.loc;let⟨F,h⟩:=u.any k I.free λz=>(d _ z).2.1 rfl
 exact I.step d (λb o h v a e n=>u.keep b o e n (λz=>(TW.mp (I.stkSub b z)).elim h v) a) (λb o _ _ a e n=>u.any e n a) (λb o a e n=>u.free b o e n a) (λb o a e=>u.there b o e a) u.tups u.frzs u.tbls (λG y=>by
  let⟨J,A,B,f,C⟩:=y;rw[k]at f;cases f
  exact⟨_,_,_,h,C⟩) g t
theorem Inv.turned{t':Nat}{it:Ch}(I:Inv X zH σ H s)(k:∀b o,b≠it->s.heap.get? b=P3 o->h'.get? b=P3 o)(A:H it=p_)(d:it≠X.env.locals)
  (f:it∈X.ex\/X.s₀.heap.objs.size<=it) (g:∀x c,X.env.cells.lookup x=P3 c->c≠it) (h:∀p∈X.pn++zH,p.1≠it):Inv X zH σ H {s with heap:=h',toks:=t'}:=by
 have i:∀b u,H b=P3 u->b≠it:=λb u e z=>by grind
 refine I.step (g':=s.gens) (d':=s.drawn) (ch:=[it]) (λb j=>?_) (λb o _ _ a e _=>k b o (λz=>a (by simp[z])) e) (λb o _ _ a e _=>⟨o.slots,k b o (λz=>a (by simp[z])) e⟩) (λ_ _ _ _ n=>n)
  (λb o a e=>⟨o,k b o (λz=>a (by simp[z])) e⟩) (λ_ _ e=>e) (λ_ _ _ e=>e) (λb B e=>⟨#[],by rw[e];simp⟩) (λm l=>?_) (λb u e=>?_) I.bare
 ·have e:b=it:=by simpa using j
  subst e;exact⟨f,d,g,h⟩
 ·let⟨o,t,w,y,r⟩:=l
  exact⟨o,t,w,k _ o (iM d) y,r⟩
 ·refine(I.hok b u e).stay (λc v a q=>k c v ?_ q) (λ_ q=>q) λ_ _ q=>q
  grind
theorem Inv.tok(I:Inv X zH σ H s)(t:Nat):Inv X zH σ H {s with toks:=t}:=I.un Un.refl I.hok
theorem Inv.kept{t':Nat}(I:Inv X zH σ H s)(k:∀b u,s.heap.get? b=P3 u->h'.get? b=P3 u):Inv X zH σ H {s with heap:=h',toks:=t'}:=I.un (Un.kept k) (I.hok.kept k)
theorem Inv.laid{a:Ch}{o:HO}{t':Nat}(I:Inv X zH σ H s)(k:∀b u,s.heap.get? b=P3 u->h'.get? b=P3 u)(c:s.heap.objs.size<=a)(d:ObjOk X.prog X.w (A2 H a o) h' a o):
  Inv X zH σ (A2 H a o) {s with heap:=h',toks:=t'}:=I.un (Un.laid k c (I.hok.fresh c)) (I.hok.laid k c d)
theorem Inv.write{x e:Ch}{o:HO}{g:Nat}(I:Inv X zH σ H s)(d:dh (H x))(f:e=x\/H e=P3 (.own x))(k:∀b u,b≠e->s.heap.get? b=P3 u->h'.get? b=P3 u)(a:∃u,h'.get? e=P3 u)
  (c:ObjOk X.prog X.w (A2 H x o) h' x o):Inv X zH σ (A2 H x o) {s with heap:=h',toks:=g}:=I.un (Un.write d f k a) (I.hok.write d f k a c)
theorem Inv.pins_of{a:s_ (Ch×Obj)}(I:Inv X zH σ H s)(h:∀p∈a,s.heap.get? p.1=P3 p.2/\H p.1=p_/\p.1≠X.env.locals/\p.1∉X.fs/\∀v,p.2.data≠.cell v):Inv X a σ H s:=
 ⟨I.ok,I.os,I.bare,I.base,I.loc,I.cell,I.free,I.freeC,λp b=>(gP.mp b).elim (λz=>I.pin p (iJ _ z)) (h p),I.hok,I.len⟩
theorem Pc{N:s_ Str}(c:N.Nodup){i j:Nat}{x:Str}(a:N[i]?=P3 x)(b:N[j]?=P3 x):i=j:=by
 let⟨f,d⟩:=ZB.mp a;let⟨g,e⟩:=ZB.mp b;exact(List.getElem_inj c).mp (d.trans e.symm)
theorem MT{M:Model}{A:gw}{E:Db->Go->Prop}{i:Nat}{x:Str}{v:V}{u:Db}{Q:Unit->Go->Prop}(I:Inv X zH σ H s)(hN:X.N.Nodup)(P:X.N[i]?=P3 x)(B:Loc X.env.scope x)(r:RelV v u)
  (h:∀s',Inv X zH (σ.set i (P3 v)) H s'->(∃a,kF a s.heap s'.heap/\(a=X.env.locals\/X.env.cells.lookup x=P3 a))->Q () s') (hf:X.fn x=q_\/X.env.scope.names.lookup x=P3 .local:=by first|exact .inl rfl|exact .inr rfl|assumption):wpAny M A (storeName X.env x u) Q E s:=by
 let⟨m,hn,hl⟩:=id I.loc;have R:(X.env.scope.kind==.class||(X.env.scope.kind==.module&&X.env.locals !=X.env.globals))=r_:=by rw[I.ok.kind];rfl
 have F:i<σ.length:=by rw[I.len];exact(ZB.mp P).1
 have J:=I.cne
 have g:∀{a:Ch}{h':gf},(∃o,s.heap.get? a=P3 o/\H a=p_)->kF a s.heap h'->HOk X.prog X.w H h':=λ{a h'} ha f b ob e=>by
  let⟨_,_,C⟩:=ha;refine(I.hok b ob e).stay (λc Y t q=>(f.2 c ?_).trans q) (λ_ q=>q) λ_ _ q=>q;rintro rfl
  rcases t with rfl|t
  ·rw[C]at e;cases e
  ·rw[C]at t;cases t
 rcases B with G|G
 ·refine wpAny_storeName_local G hn (λh' a0 f=>?_) R
  let⟨oL,_,_,a1,_⟩:=id hn;refine h _ ⟨I.ok,I.os,I.bare,⟨λb o e n K B=>?_,λb o e n K B=>?_,I.base.free,λb o e B=>?_,I.base.tups,I.base.frzs,I.base.tbls⟩,⟨_,a0,λj y v' l D e3=>?_⟩,λy c e=>?_,I.free,I.freeC,λp hp=>?_,g ⟨oL,a1,I.free⟩ f,by simpa using I.len⟩ ⟨_,f,.inl rfl⟩
  ·exact(f.2 b (gg (gv (UF e) I.ok.above))).trans (I.base.keep b o e n K B)
  ·let⟨sl,l⟩:=I.base.slot b o e n K B
   exact⟨sl,(f.2 b (gg (gv (UF e) I.ok.above))).trans l⟩
  ·let⟨o',l⟩:=I.base.there b o e B
   exact⟨o',(f.2 b (gg (gv (UF e) I.ok.above))).trans l⟩
  ·by_cases L:j=i
   ·subst L
    rw[P]at l;cases l
    rw[lD F]at D;cases D;exact⟨u,r,.inl ⟨G,by simp⟩⟩
   ·rw[lQ (iM L)]at D
    let⟨u',r',q⟩:=hl j y v' l D e3;exists u',r'
    rcases q with⟨k,e⟩|⟨k,c,e,z⟩
    ·refine .inl ⟨k,?_⟩
     have:y≠x:=λe=>L (Pc hN l (e▸P))
     simp[this,e]
    ·exact .inr ⟨k,c,e,z.sameBut f (J y c e)⟩
  ·let⟨Y,z⟩:=I.cell y c e
   exact⟨Y,z.sameBut f (J y c e)⟩
  ·let⟨e,n,Z,nf,d⟩:=I.pin p hp
   exact⟨(f.2 p.1 Z).trans e,n,Z,nf,d⟩
 ·have O:X.fn x=q_:=by
   rcases hf with z|z
   ·exact z
   ·rw[z]at G;cases G
  let⟨c,t⟩:=I.ok.has x (.inl G);let⟨Y,z⟩:=I.cell x c t;refine wpAny_storeName_cell I.ok.kind G t z (λh' S f=>?_);let⟨oc,T,U⟩:=id z;refine h {s with heap:=h'} ⟨I.ok,I.os,I.bare,⟨λb o e n K B=>?_,λb o e n K B=>?_,I.base.free,λb o e B=>?_,I.base.tups,I.base.frzs,I.base.tbls⟩,⟨m,hn.sameBut f (iM (J x c t)),λj y v' l D e3=>?_⟩,λy c' e=>?_,I.free,I.freeC,λp hp=>?_,g ⟨oc,T,I.freeC x c t⟩ f,by simpa using I.len⟩ ⟨c,f,.inr t⟩
  ·exact(f.2 b (gg (gv (UF e) (I.ok.cab x c O t)))).trans (I.base.keep b o e n K B)
  ·let⟨sl,l⟩:=I.base.slot b o e n K B
   exact⟨sl,(f.2 b (gg (gv (UF e) (I.ok.cab x c O t)))).trans l⟩
  ·let⟨o',l⟩:=I.base.there b o e B
   exact⟨o',(f.2 b (gg (gv (UF e) (I.ok.cab x c O t)))).trans l⟩
  ·by_cases L:j=i
   ·subst L
    rw[P]at l;cases l
    rw[lD F]at D;cases D;exact⟨u,r,.inr ⟨.inl G,c,t,S⟩⟩
   ·rw[lQ (iM L)]at D
    let⟨u',r',q⟩:=hl j y v' l D e3;exists u',r'
    rcases q with q|⟨k,c',e,z'⟩
    ·exact .inl q
    ·refine .inr ⟨k,c',e,z'.sameBut f ?_⟩
     rintro rfl;exact L (Pc hN l (I.ok.inj _ _ _ e t▸P))
  ·by_cases W:c'=c
   ·subst W;exact⟨_,S⟩
   ·let⟨w2,z2⟩:=I.cell y c' e
    exact⟨w2,z2.sameBut f W⟩
  ·let⟨e,n,Z,nf,d⟩:=I.pin p hp
   refine⟨(f.2 p.1 ?_).trans e,n,Z,nf,d⟩;intro q;rw[q,T]at e;have q':oc=p.2:=gW e;exact d Y (by rw[←q'];exact U)
theorem Hf{M:Model}{A:gw}{E:Db->Go->Prop}{i:Nat}{x:Str}{v:V}{u:Db}{Q:Unit->Go->Prop}(I:Inv X zH σ H s)(b:X.N.Nodup)(c:X.N[i]?=P3 x)(d:Loc X.env.scope x)(r:RelV v u)
  (h:∀a,Inv X zH (σ.set i (P3 v)) H a->Q () a) (e:X.fn x=q_\/X.env.scope.names.lookup x=P3 .local:=by first|exact .inl rfl|exact .inr rfl|assumption):wpAny M A (storeName X.env x u) Q E s:=
 MT I b c d r (λa f _=>h a f) e
theorem Inv.call'{a:Go}{f:s_ Ch}(I:Inv X zH σ H s)(g:a.os=s.os)(u:Un (Ml X.stack) f H H' s.heap a.heap)(d:HOk X.prog X.w H' a.heap)(h:kE a.gens)
  (e:∀b∈f,(b∈X.ex\/X.s₀.heap.objs.size<=b)/\b≠X.env.locals/\(∀x c,X.env.cells.lookup x=P3 c->c≠b)/\∀p∈X.pn++zH,p.1≠b):Inv X zH σ H' a:=by
 let⟨h',i,j,k,l⟩:=a;subst g;exact I.call u d h e
end
abbrev XK:=Db->t_ Ch->Hp->Prop
abbrev St:=s_ (t_ V)
abbrev VK:=V->Hp->Prop
abbrev TE:=St->Hp->VK->Prop
abbrev TT:=St->Hp->(Bool->Hp->Prop)->Prop
abbrev TA:=St->Hp->(s_ V->Hp->Prop)->Prop
structure Ends where
 nx:St->Hp->Prop
 rt:VK
 bk:St->Hp->Prop:=λ_ _=>False
 ct:St->Hp->Prop:=λ_ _=>False
abbrev TS:=Ends->St->Hp->Prop
def EP(X:Cx)(b:s_ (Ch×Obj))(c:St)(Q:VK)(u:Db)(d:Go):Prop:=∃v a,Inv X b c a d/\RelV v u/\Q v a
def TP(X:Cx)(c:s_ (Ch×Obj))(d:St)(Q:Bool->Hp->Prop)(b:Bool)(e:Go):Prop:=∃a,Inv X c d a e/\Q b a
def AP(X:Cx)(c:s_ (Ch×Obj))(d:St)(Q:s_ V->Hp->Prop)(e:s_ Db)(f:Go):Prop:=∃a b,Inv X c d b f/\Vals a e/\Q a b
def SP(X:Cx)(c:s_ (Ch×Obj))(D:Ends)(f:Flow)(d:Go):Prop:=
 match f with
 |.next=>∃b a,Inv X c b a d/\D.nx b a
 |.brk=>∃b a,Inv X c b a d/\D.bk b a
 |.cont=>∃b a,Inv X c b a d/\D.ct b a
 |.ret u=>∃v b a,Inv X c b a d/\RelV v u/\D.rt v a
def PE(X:Cx)(e:gj)(t:TE):Prop:=
 ∀(b:s_ (Ch×Obj)) (s:Go) (a:St) (H:Hp) (Q:VK),Inv X b a H s->t a H Q->wpAny (model X.prog X.w) X.A (eval e X.env) (EP X b a Q) X.xe s
def PT(X:Cx)(e:gj)(t:TT):Prop:=
 ∀(b:s_ (Ch×Obj)) (s:Go) (a:St) (H:Hp) (Q:Bool->Hp->Prop),Inv X b a H s->t a H Q->wpAny (model X.prog X.w) X.A (isTrue e X.env (eval e X.env)) (TP X b a Q) X.xe s
def PW(X:Cx)(e:gj)(t:TT):Prop:=
 ∀(a:Sem Db) (c:s_ (Ch×Obj)) (s:Go) (b:St) (H:Hp) (Q:Bool->Hp->Prop),Inv X c b H s->t b H Q->wpAny (model X.prog X.w) X.A (isTrue e X.env a) (TP X c b Q) X.xe s
theorem PW.pt{X:Cx}{e:gj}{t:TT}(h:PW X e t):PT X e t:=h _
def PA(X:Cx)(c:s_ gj)(t:TA):Prop:=
 ∀(pos:Pos) (b:s_ (Ch×Obj)) (s:Go) (a:St) (H:Hp) (Q:s_ V->Hp->Prop),Inv X b a H s->t a H Q->wpAny (model X.prog X.w) X.A (spliced (backTo pos (starEach c X.env))) (AP X b a Q) X.xe s
def PS(X:Cx)(c:gm)(t:TS):Prop:=
 ∀(a:s_ (Ch×Obj)) (s:Go) (b:St) (H:Hp) (D:Ends),Inv X a b H s->t D b H->wpAny (model X.prog X.w) X.A (exec c X.env) (SP X a D) X.xe s
def PSs(X:Cx)(c:s_ gm)(t:TS):Prop:=
 ∀(a:s_ (Ch×Obj)) (s:Go) (b:St) (H:Hp) (D:Ends),Inv X a b H s->t D b H->wpAny (model X.prog X.w) X.A (execs c X.env) (SP X a D) X.xe s
theorem thn{b:Type}{t:Sem b}{Q c:b->Go->Prop}{M:Model}{A:gw}{E:Db->Go->Prop}{s:Go}(h:wpAny M A t Q E s)(d:∀a s,Q a s->c a s):wpAny M A t c E s:=g9 h d λ_ _ x=>x
section
variable {X:Cx}
def B3(i:Nat):TE:=λa H Q=>∃v,a[i]?=P3 (P3 v)/\Q v H
def tC(v:V):TE:=λ_ H Q=>Q v H
theorem Nj{i:Nat}{x:Str}{pos:Pos}(k:X.N[i]?=P3 x)(n:bM X.env.scope x)(f:(x==("__debug__":Str))=r_:=by decide)(g:(x==("__classdict__":Str))=r_:=by decide):PE X (.Name x pos) (B3 i):=by
 intro w s o H Q I h;let⟨v,e,h⟩:=h;let⟨m,p,q⟩:=I.loc;let⟨u,r,l⟩:=q i x v k e n;have b:EP X _ o Q u s:=⟨v,H,I,r,h⟩
 rcases l with⟨d,t⟩|⟨d,c,j,a⟩
 ·exact wpAny_Name (wpAny_loadName_local I.ok.kind d p t b) f
 ·rcases d with d|d
  ·exact wpAny_Name (wpAny_loadName_cell I.ok.kind d j a b) f
  ·exact wpAny_Name (wpAny_loadName_free I.ok.kind d j a b g) f
theorem A1{i j pos}:PE X (.Constant (.int i) j pos) (tC (.int i)):=λ_ _ _ H _ I h=>wpAny_Constant_int ⟨.int i,H,I.tok _,⟨_,rfl⟩,h⟩
theorem cx{b j pos}:PE X (.Constant (.bool b) j pos) (tC (.bl b)):=λ_ _ _ H _ I h=>Constant_bool ⟨.bl b,H,I,rfl,h⟩
theorem aE{j pos}:PE X (.Constant .none j pos) (tC .non):=λ_ _ _ H _ I h=>Constant_none ⟨.non,H,I,rfl,h⟩
theorem aB{x j pos}:PE X (.Constant (.str x) j pos) (tC (.str x)):=λ_ _ _ H _ I h=>Calls.Constant_str ⟨.str x,H,I.tok _,⟨_,rfl⟩,h⟩
def Gl(X:Cx)(x:Str):Prop:=X.env.kindOf x=P3 .globalImplicit
theorem GK{E:Db->Go->Prop}{a:s_ (Ch×Obj)}{s:Go}{b:St}{H:Hp}{x:Str}{u:Db}{pos:Pos}{Q:Db->Go->Prop}(I:Inv X a b H s)(c:Gl X x)(d:X.mg x=P3 u)(h:Q u s)
  (e:(x==("__debug__":Str))=r_:=by decide):wpAny (model X.prog X.w) X.A (eval (.Name x pos) X.env) Q E s:=
 l_ I.ok.kind c (Calls.loadGlobal_global (by rw[I.ok.glob];exact I.mod.glob.keeps I.bk) d h) e
theorem EQ{E:Db->Go->Prop}{a:s_ (Ch×Obj)}{s:Go}{b:St}{H:Hp}{x:Str}{u:Db}{pos:Pos}{Q:Db->Go->Prop}(I:Inv X a b H s)(c:Gl X x)(d:X.mg x=p_)(e:bootBuiltins x=P3 u)(h:Q u s)
  (f:x ≠ "__name__":=by decide) (g:(x==("__debug__":Str))=r_:=by decide):wpAny (model X.prog X.w) X.A (eval (.Name x pos) X.env) Q E s:=by
 let⟨k,i,j⟩:=I.mod.blt;exact l_ I.ok.kind c (Calls.loadGlobal_builtin (by rw[I.ok.glob];exact I.mod.glob.keeps I.bk) d (by rw[I.ok.blt];exact i.keeps I.bk) ((j x f).trans e) h) g
theorem Nm{x:Str}{v:V}{u:Db}{pos:Pos}(a:Gl X x)(b:X.mg x=p_)(c:bootBuiltins x=P3 u)(r:RelV v u)(d:x ≠ "__name__":=by decide)(e:(x==("__debug__":Str))=r_:=by decide):PE X (.Name x pos) (tC v):=
 λ_ _ _ H _ I h=>EQ I a b c ⟨v,H,I,r,h⟩ d e
variable {a b:Expr}{ta tb:TE}{pos:Pos}
def tB(t:TE):TT:=λd H Q=>t d H λx e=>∃c,x=.bl c/\Q c e
theorem Z4{e:gj}{t:TE}(h:PE X e t)(f:∀c,isTrue e X.env c=(do let v ←c;standAt e.pos;holding [v] (truthy v)):=by intro _;rfl):PT X e (tB t):=by
 intro n s g H Q I i;refine isTrue_plain (thn (h _ s g H _ I i) λv o ⟨x,j,k,l,m⟩=>?_) (f _);let⟨d,rfl,q⟩:=m;cases l;exact jR ⟨j,k,q⟩
variable {tA tB':TT}{rest:s_ Expr}
def cH(t u:TT):TT:=λd H Q=>t d H λc e=>if c=q_ then u d e Q else Q r_ e
def gC(t u:TT):TT:=λd H Q=>t d H λc e=>if c=q_ then Q q_ e else u d e Q
def eg(t:TT):TT:=λd H Q=>t d H λc e=>Q (!c) e
theorem Rx(d:PT X a tA):PW X (.BoolOp .And [a] pos) tA:=by
 intro g i s f H Q I h;refine isTrue_and (thn (d _ s f H Q I h) λc j e=>?_);cases c with
 |true=>exact isTrue_and_nil e
 |false=>exact e
theorem Z3(d:PT X a tA):PW X (.BoolOp .Or [a] pos) tA:=by
 intro g i s f H Q I h;refine isTrue_or (thn (d _ s f H Q I h) λc j e=>?_);cases c with
 |false=>exact isTrue_or_nil e
 |true=>exact e
theorem Vb(e:PT X a tA)(f:PW X (.BoolOp .And (b::rest) pos) tB'):PW X (.BoolOp .And (a::b::rest) pos) (cH tA tB'):=by
 intro g m s d H Q I h;refine isTrue_and (thn (e _ s d H _ I h) λc i ⟨j,k,l⟩=>?_);cases c with
 |true=>exact f g _ i d j Q k l
 |false=>assumption
theorem cr(e:PT X a tA)(f:PW X (.BoolOp .Or (b::rest) pos) tB'):PW X (.BoolOp .Or (a::b::rest) pos) (gC tA tB'):=by
 intro g m s d H Q I h;refine isTrue_or (thn (e _ s d H _ I h) λc i ⟨j,k,l⟩=>?_);cases c with
 |true=>assumption
 |false=>exact f g _ i d j Q k l
theorem Z5(c:PT X a tA):PT X (.UnaryOp .Not a pos) (eg tA):=λe s d H Q I h=>isTrue_not (c _ s d H _ I h)
def cG(ta tb:TE):TE:=λd H Q=>ta d H λx e=>∃c,x=.bl c/\if c=q_ then tb d e Q else Q (.bl r_) e
def cB(ta:TE):TE:=λd H Q=>ta d H λx e=>∃c,x=.bl c/\Q (.bl (!c)) e
theorem aF(i:PE X a ta)(j:PE X (.BoolOp .And (b::rest) pos) tb):PE X (.BoolOp .And (a::b::rest) pos) (cG ta tb):=by
 intro m s e H Q I h;refine BoolOp_and (thn (i _ s e H _ I h) λv k ⟨x,f,g,l,d⟩=>?_);let⟨c,rfl,d⟩:=d;cases l;refine jR ?_;cases c with
 |true=>exact j _ k e f Q g d
 |false=>exact⟨.bl _,f,g,rfl,d⟩
theorem aD(e:PE X a ta):PE X (.UnaryOp .Not a pos) (cB ta):=by
 intro k s f H Q I h;refine UnaryOp_ (thn (e _ s f H _ I h) λv l ⟨x,g,i,j,d⟩=>?_);let⟨c,rfl,d⟩:=d;cases j;exact not_of (jR ⟨.bl _,g,i,rfl,d⟩)
def gD(t:TT)(ta tb:TE):TE:=λd H Q=>t d H λc e=>if c=q_ then ta d e Q else tb d e Q
theorem PK{c:gj}(k:PT X c tA)(l:PE X a ta)(m:PE X b tb):PE X (.IfExp c a b pos) (gD tA ta tb):=by
 intro n s e H Q I h;refine wpAny_IfExp (thn (k _ s e H _ I h) λd f ⟨g,i,j⟩=>?_);cases d with
 |true=>exact l _ f e g Q i j
 |false=>exact m _ f e g Q i j
end
def SqL(K:Frag)(H:Hp)(a:Ch)(c:s_ V):Prop:=
 Rd H a (.lst c) \/
  ∃(o:Obj) (b:Array Db) (n:Nat),K.lookup a=P3 o/\o.cls=.type "list"/\o.dict=p_/\o.data=.seq b n/\b.size<=sizeLine/\Vals c b.toList
def SqT(K:Frag)(H:Hp)(a:Ch)(c:s_ V):Prop:=
 Rd H a (.tup c) \/
  ∃(o:Obj) (b:Array Db) (n:Nat),K.lookup a=P3 o/\o.cls=.type "tuple"/\o.data=.seq b n/\b.size<=sizeLine/\Vals c b.toList
def fR:Db->t_ V
 |.none=>P3 .non
 |.bool b=>P3 (.bl b)
 |.int i _=>P3 (.int i)
 |.str x _=>P3 (.str x)
 |.bytes b _=>P3 (.byt b)
 |.float b _=>P3 (.flt b)
 |.ref a=>P3 (.ref a)
 |.type n=>P3 (.ty n)
 |_=>p_
theorem RelV.abs{x:V}{u:Db}(r:RelV x u):fR u=P3 x:=by
 cases x with
 |non=>cases r;rfl
 |bl _=>cases r;rfl
 |int _=>let⟨t,rfl⟩:=r;rfl
 |str _=>let⟨t,rfl⟩:=r;rfl
 |byt _=>let⟨t,rfl⟩:=r;rfl
 |flt _=>let⟨t,rfl⟩:=r;rfl
 |ref _=>cases r;rfl
 |ty _=>cases r;rfl
theorem RelV.inj{x y:V}{u:Db}(r:RelV x u)(q:RelV y u):x=y:=gW (r.abs.symm.trans q.abs)
theorem Vals.inj:∀{a b:s_ V}{c:s_ Db},Vals a c->Vals b c->a=b
 |_,_,_,.nil,.nil=>rfl
 |_,_,_,.cons r t,.cons d e=>by rw[r.inj d,Vals.inj t e]
section
variable {X:Cx}{zH:s_ (Addr×Obj)}{σ:St}{H:Hp}{s:Shared}{a:Addr}{xs ys:s_ V}
theorem SqL.of{K:Frag}(h:H a=P3 (.lst xs)):SqL K H a xs:=.inl (.inl h)
theorem SqT.of{K:Frag}(h:H a=P3 (.tup xs)):SqT K H a xs:=.inl (.inl h)
theorem Inv.list(I:Inv X zH σ H s)(h:SqL X.K H a xs):∃b:s_ Db,Vals xs b/\PlainL s.heap a b.toArray/\xs.length<=sizeLine:=by
 rcases h with h|⟨o,b,n,c,d,f,g,i,r⟩
 ·let⟨z,b,n,r,e⟩:=h.ok I.hok
  exact⟨_,r,⟨_,n,e,rfl,rfl,rfl⟩,z⟩
 ·exists _,r,⟨o,n,I.kIn a o c,d,f,by omega⟩
  have e:=r.length
  grind
theorem Inv.tuple(I:Inv X zH σ H s)(h:SqT X.K H a xs):∃b:s_ Db,Vals xs b/\IsTup s.heap a b.toArray/\xs.length<=sizeLine:=by
 rcases h with h|⟨o,b,n,c,d,f,g,r⟩
 ·let⟨z,b,r,p⟩:=h.ok I.hok
  exact⟨_,r,p.tup,z⟩
 ·exists _,r,⟨o,I.kIn a o c,d,n,by omega⟩
  have e:=r.length
  grind
theorem Inv.list_inj(I:Inv X zH σ H s)(h:SqL X.K H a xs)(f:SqL X.K H a ys):xs=ys:=by
 let⟨c,r,⟨o,n,e,_,_,d⟩,_⟩:=I.list h;let⟨b,g,⟨i,j,k,_,_,l⟩,_⟩:=I.list f
 have:c=b:=by grind
 subst this;exact r.inj g
theorem Inv.tuple_inj(I:Inv X zH σ H s)(h:SqT X.K H a xs)(f:SqT X.K H a ys):xs=ys:=by
 let⟨c,r,⟨o,e,_,n,d⟩,_⟩:=I.tuple h;let⟨b,g,⟨i,j,_,k,l⟩,_⟩:=I.tuple f
 have:c=b:=by grind
 subst this;exact r.inj g
end
abbrev Cx.wish(X:Cx)(E:Db->Go->Prop):Cx:={X with xe:=E}
abbrev Cx.nox(X:Cx):Cx:=X.wish λ_ _=>False
theorem Cx.Ok.wish{X:Cx}(ok:X.Ok)(E:Db->Go->Prop):(X.wish E).Ok:=
 ⟨ok.mod,ok.kind,ok.glob,ok.blt,ok.above,ok.inj,ok.has,ok.cab,ok.hd,ok.frames,ok.stk,ok.exf,ok.bs,ok.bsz,ok.noex,ok.exfs,ok.funs,ok.frf⟩
theorem Cx.Ok.unwish{X:Cx}{E:Db->Go->Prop}(ok:(X.wish E).Ok):X.Ok:=
 ⟨ok.mod,ok.kind,ok.glob,ok.blt,ok.above,ok.inj,ok.has,ok.cab,ok.hd,ok.frames,ok.stk,ok.exf,ok.bs,ok.bsz,ok.noex,ok.exfs,ok.funs,ok.frf⟩
section
variable {X:Cx}{zH:s_ (Addr×Obj)}{σ:St}{H:Hp}{s:Shared}{E:Value->Shared->Prop}
theorem Inv.wish(I:Inv X zH σ H s)(E:Db->Go->Prop):Inv (X.wish E) zH σ H s:=⟨I.ok.wish E,I.os,I.bare,I.base,I.loc,I.cell,I.free,I.freeC,I.pin,I.hok,I.len⟩
theorem Inv.unwish(I:Inv (X.wish E) zH σ H s):Inv X zH σ H s:=⟨I.ok.unwish,I.os,I.bare,I.base,I.loc,I.cell,I.free,I.freeC,I.pin,I.hok,I.len⟩
theorem SP.unwish{D:Ends}{f:Flow}{c:Go}(h:SP (X.wish E) zH D f c):SP X zH D f c:=by
 cases f with
 |next=>let⟨b,a,I,q⟩:=h;exact⟨_,a,I.unwish,q⟩
 |brk=>let⟨b,a,I,q⟩:=h;exact⟨_,a,I.unwish,q⟩
 |cont=>let⟨b,a,I,q⟩:=h;exact⟨_,a,I.unwish,q⟩
 |ret u=>let⟨v,b,a,I,r,q⟩:=h;exact⟨v,_,a,I.unwish,r,q⟩
theorem PSs.nox{a:s_ gm}{t:TS}(h:PSs X.nox a t):PSs X a t:=λzH s σ H D I b=>
 g9 (h _ s σ H D (I.wish _) b) (λ_ _ q=>q.unwish) λ_ _ z=>iZ z
end
section
variable {X:Cx}{st:Stmt}{rest:s_ Stmt}{t u:TS}{e:Expr}{te:TE}{pos:Pos}
def Yx:TS:=λD a H=>D.nx a H
def TL(t u:TS):TS:=λD a H=>t {D with nx:=u D} a H
theorem Hl:PSs X [] Yx:=λ_ _ a H _ I h=>jw ⟨a,H,I,h⟩
theorem BD(a:PS X st t)(b:PSs X rest u):PSs X (st::rest) (TL t u):=by
 intro i s c H D I h;refine mT (thn (a _ s c H _ I h) λf d q=>?_);cases f with
 |next=>
  let⟨j,e,g,q⟩:=q;exact b _ d _ e D g q
 |ret v=>exact q
 |brk=>exact q
 |cont=>exact q
theorem CL(a:PS X st t):PSs X [st] t:=by
 intro c s b H D I h;refine mT (thn (a _ s b H D I h) λf d q=>?_);cases f with
 |next=>exact jw q
 |ret v=>exact q
 |brk=>exact q
 |cont=>exact q
theorem Inv.quiet{a:s_ (Ch×Obj)}{b:St}{H:Hp}{s:Go}(I:Inv X a b H s):interactive X.env=r_:=by simp[interactive,I.ok.kind]
def cD(te:TE):TS:=λD a H=>te a H λ_ b=>D.nx a b
theorem KD(b:PE X e te)(c:swapsWith e p_ pos.line X.env=pure r_:=by rfl):PS X (.Expr e pos) (cD te):=λi s a H D I h=>wpAny_Expr_any (thn (b _ s a H _ I h) λv j ⟨x,d,f,k,g⟩=>⟨a,d,f,g⟩) I.quiet c
def Xe(te:TE):TS:=λD a H=>te a H D.rt
theorem HD(b:PE X e te):PS X (.Return (P3 e) pos) (Xe te):=λi s a H D I h=>wpAny_Return_some (thn (b _ s a H _ I h) λv j ⟨x,c,d,f,g⟩=>⟨x,a,c,d,f,g⟩)
def cC(c:TT)(t u:TS):TS:=λD a H=>c a H λb d=>if b=q_ then t D a d else u D a d
theorem MZ{c:gj}{a b:s_ gm}{f:TT}(l:PT X c f)(m:PSs X a t)(n:PSs X b u):PS X (.If c a b pos) (cC f t u):=by
 intro o s e H D I h;refine wpAny_If (thn (l _ s e H _ I h) λd g ⟨i,j,k⟩=>?_);cases d with
 |true=>exact m _ g e i D j k
 |false=>exact n _ g e i D j k
end
abbrev TG:=V->St->Hp->(St->Hp->Prop)->Prop
abbrev bP:=s_ V->St->Hp->(St->Hp->Prop)->Prop
def PG(X:Cx)(a:gj)(t:TG):Prop:=
 ∀(b:s_ (Ch×Obj)) (s:Go) (c:St) (H:Hp) (v:V) (u:Db) (Q:St->Hp->Prop),Inv X b c H s->RelV v u->t v c H Q->
  wpAny (model X.prog X.w) X.A (assign a X.env u) (λ_ f=>∃d e,Inv X b d e f/\Q d e) X.xe s
def de(X:Cx)(g:s_ gj)(t:bP):Prop:=
 ∀(a:s_ (Ch×Obj)) (s:Go) (b:St) (H:Hp) (c:s_ V) (d:s_ Db) (Q:St->Hp->Prop),Inv X a b H s->Vals c d->t c b H Q->
  wpAny (model X.prog X.w) X.A (assignInOrder ((assignEach g X.env).map (·.2)) d) (λ_ h=>∃e f,Inv X a e f h/\Q e f) X.xe s
abbrev bO:=V->V->V->Hp->(Hp->Prop)->Prop
def dZ(X:Cx)(t:bO):Prop:=
 ∀(a:s_ (Ch×Obj)) (s:Go) (b:St) (H:Hp) (o i v:V) (c d u:Db) (Q:Hp->Prop),Inv X a b H s->RelV o c->RelV i d->RelV v u->t o i v H Q->
  wpAny (model X.prog X.w) X.A (setItem c d u) (λ_ f=>∃e,Inv X a b e f/\Q e) X.xe s
abbrev eL:=V->V->Hp->VK->Prop
def fu(X:Cx)(c:Operator)(t:eL):Prop:=
 ∀(a:s_ (Ch×Obj)) (s:Go) (b:St) (H:Hp) (x y:V) (v u:Db) (Q:VK),Inv X a b H s->RelV x v->RelV y u->t x y H Q->
  wpAny (model X.prog X.w) X.A (inplaceOp c v u) (EP X a b Q) X.xe s
section
variable {X:Cx}{pos:Pos}
def Je(i:Nat):TG:=λv a H Q=>Q (a.set i (P3 v)) H
theorem Ho{i:Nat}{x:Str}(a:X.N.Nodup)(b:X.N[i]?=P3 x)(c:Loc X.env.scope x)(d:X.fn x=q_\/X.env.scope.names.lookup x=P3 .local:=by first|exact .inl rfl|exact .inr rfl|assumption):PG X (.Name x pos) (Je i):=λf s g H v u Q I r h=>wpAny_assign_Name (Hf I a b c r (λj e=>⟨_,H,e,h⟩) d)
def fK:bP:=λa b H Q=>a=[]/\Q b H
def dD(t:TG)(u:bP):bP:=λa b H Q=>∃v r,a=v::r/\t v b H λc d=>u r c d Q
theorem R9:de X [] fK:=by
 intro b s a H c d Q I r h;let⟨e,h⟩:=h;exact assignInOrder_nil ⟨a,H,I,h⟩
theorem Hm{e:gj}{a:s_ gj}{t:TG}{u:bP}(b:PG X e t)(c:de X a u)
  (d:(assignEach (e::a) X.env).map (·.2)=assign e X.env::(assignEach a X.env).map (·.2):=by rfl):de X (e::a) (dD t u):=by
 intro n s f H o p Q I r h;let⟨v,q,g,h⟩:=h;subst g;cases r with
 |cons r i=>
  rw[d];exact assignInOrder_cons (thn (b _ s f H _ _ _ I r h) λ_ j ⟨_,k,l,m⟩=>c _ j _ k _ _ Q l i m)
def fJ(K:Frag)(n:Nat)(t:bP):TG:=λv c H Q=>∃a b,v=.ref a/\SqT K H a b/\b.length=n/\t b c H Q
theorem Vn{c:s_ gj}{k:Nat}{t:bP}{n:Nat}(g:X.calm=q_)(h:de X c t)
  (i:(assignEach c X.env).length=n:=by rfl) (d:(assignEach c X.env).findIdx? (·.1)=p_:=by rfl):PG X (.Tuple c k pos) (fJ X.K n t):=by
 intro A s j H v u Q I r f;let⟨a,l,m,p,q,f⟩:=f;subst m;cases r;let⟨w,x,y,B⟩:=I.tuple p;exact assign_Tuple_tuple (I.ok.hd g) y (by simp[i,←q,x.length]) d λC z=>h _ _ j H l _ Q (I.kept λb o e=>z b o (gg (UF e)) e) (by omega) f
def dC(b c:TE)(t:bO):TG:=λv a H Q=>b a H λo d=>c a d λi H2=>t o i v H2 λe=>Q a e
theorem Qx{o i:gj}{d e:TE}{t:bO}(f:PE X o d)(g:PE X i e)(j:dZ X t)
  (E:∀v,assign (.Subscript o i pos) X.env v=(do
   let a ←holding [v] (eval o X.env)
   let b ←holding [v,a] (eval i X.env)
   standAt pos
   holding [v,a,b] (setItem a b v)
   release [v,a,b] []):=by intro _;rfl):PG X (.Subscript o i pos) (dC d e t):=λF s c H v u Q I r h=>Cn (iP (thn (f _ s c H _ I h) λa k ⟨x,l,m,n,p⟩=>Cn (iP (thn (g _ k c l _ m p) λb q ⟨y,H2,w,z,A⟩=>Cn (lF (Cn (iP (thn (j _ q c H2 x y v a b u _ w n z r A) λ_ G ⟨B,C,D⟩=>wpAny_release ⟨c,B,C,D⟩))))))))
def Ow(b:TE)(g:TG):TS:=λD a H=>b a H λx c=>g x a c D.nx
theorem Nh{a e:gj}{b:TE}{g:TG}(d:PE X e b)(f:PG X a g)(i:swapsWithSole [a] e pos.line X.env=pure r_:=by rfl)(j:swappedStores [a] e X.env=pure p_:=by rfl)
  (k:(assignEach [a] X.env).map (·.2)=[assign a X.env]:=by rfl):PS X (.Assign [a] e pos) (Ow b g):=by
 intro r s c H D I h;refine wpAny_Assign_stores (thn (d _ s c H _ I h) λv l ⟨x,m,n,o,p⟩=>?_) i j;rw[k];exact thn (f _ l c m x v _ n o p) λ_ t q=>q
theorem E4{i:Nat}{x:Str}{e:gj}{b:TE}{a:Pos}(c:X.N.Nodup)(d:X.N[i]?=P3 x)(f:Loc X.env.scope x)(g:PE X e b)(j:swapsWith e (P3 (.Name x a)) pos.line X.env=pure r_:=by rfl)(k:X.fn x=q_\/X.env.scope.names.lookup x=P3 .local:=by first|exact .inl rfl|exact .inr rfl|assumption):
  PS X (.Assign [.Name x a] e pos) (Ow b (Je i)):=λr s l H D I h=>wpAny_Assign_Name (thn (g _ s l H _ I h) λv t ⟨y,m,n,o,p⟩=>Hf n c d f o (λu q=>⟨_,m,q,p⟩) k) j
def e8(i:Nat)(b:TE)(c:eL):TS:=λD a H=>∃x,a[i]?=P3 (P3 x)/\b a H λy d=>c x y d λz H2=>D.nx (a.set i (P3 z)) H2
theorem Z8{i:Nat}{x:Str}{e:gj}{q:TE}{j:Operator}{t:eL}{d:Pos}(F:X.N.Nodup)(B:X.N[i]?=P3 x)(n:Loc X.env.scope x)(G:PE X e q)(J:fu X j t)(K:X.fn x=q_\/X.env.scope.names.lookup x=P3 .local:=by first|exact .inl rfl|exact .inr rfl|assumption):
  PS X (.AugAssign (.Name x d) j e pos) (e8 i q t):=by
 intro o s C H D I h;let⟨v,L,h⟩:=h;let⟨m,M,O⟩:=I.loc;have p:bM X.env.scope x:=by rcases n with k|k;exact .inl k;exact .inr (.inl k)
 let⟨u,r,l⟩:=O i x v B L p;refine wpAny_AugAssign_Name ?_
 have E:wpAny (model X.prog X.w) X.A (eval e X.env) (λw f=>wpAny (model X.prog X.w) X.A (inplaceOp j u w) (λr g=>wpAny (model X.prog X.w) X.A (storeName X.env x r) (λ_=>SP X o D .next) X.xe g) X.xe f) X.xe s:=by
  refine thn (G o s C H _ I h) λw P ⟨y,Q,R,S,T⟩=>?_;refine thn (J o P C Q v y u w _ R r S T) λz s2 ⟨zv,H2,U,V,W⟩=>?_;exact Hf U F B n V (λs3 Y=>⟨_,H2,Y,W⟩) K
 rcases l with⟨a,Z⟩|⟨a,c,hc,b⟩
 ·exact wpAny_loadName_local I.ok.kind a M Z E
 ·rcases a with a|a
  ·exact wpAny_loadName_cell I.ok.kind a hc b E
  ·rcases n with k|k
   ·have:X.env.scope.names.lookup x=P3 .free:=a
    rw[k]at this;cases this
   ·have:X.env.scope.names.lookup x=P3 .free:=a
    rw[k]at this;cases this
def gH(f:Int->Int->Int):eL:=λx y H Q=>∃i j,x=.int i/\y=.int j/\Q (.int (f i j)) H
theorem aV:fu X .Add (gH λi j=>i+j):=by
 intro e s f H x y v u Q I a b h;let⟨i,j,c,d,q⟩:=h;subst c;subst d
 let⟨t,rfl⟩:=a;let⟨g,rfl⟩:=b;exact iadd_int ⟨.int _,H,I.tok _,⟨_,rfl⟩,q⟩
end
section
variable {X:Cx}{pos:Pos}
def Zl(c:TT)(h:TS):TS:=λD a H=>∃W:Nat->St->Hp->Prop,(∃m,W m a H)/\∀m a H,W m a H->
 c a H λb d=>if b=q_ then ∃N:St->Hp->Prop,(∀e f,N e f->∃g,g<m/\W g e f)/\h {D with nx:=N,ct:=N,bk:=D.nx} a d else D.nx a d
theorem Vg{c:gj}{a:s_ gm}{t:TT}{u:TS}(x:lL (model X.prog X.w) X.A X.env X.xe)(F:PT X c t)(G:PSs X a u):PS X (.While c a [] pos) (Zl t u):=by
 intro l s J H D I h;let⟨W,⟨K,L⟩,d⟩:=h;refine wpAny_While (codeAny_whileLoop (λn M=>∃y z,Inv X l y z M/\W n y z) ?_ K ⟨J,H,I,L⟩);rintro n O ⟨i,B,P,Q⟩;refine jd x (thn (F l O i B _ P (d n i B Q)) λb R ⟨H2,C,j⟩=>?_);cases b with
 | true=>
  let⟨N,E,j⟩:=j;rw[if_pos rfl];refine jd x (thn (G l R i H2 _ C j) λf S k=>?_);cases f with
  |next=>
   let⟨e,g,m,o⟩:=k;let⟨p,q,r⟩:=E e g o;exact⟨p,q,e,g,m,r⟩
  |cont=>
   let⟨e,g,m,o⟩:=k;let⟨p,q,r⟩:=E e g o;exact⟨p,q,e,g,m,r⟩
  |brk=>exact k
  |ret v=>exact k
 |false=>
  rw[if_neg gh];exact jw ⟨i,H2,C,j⟩
end
structure It where
 go:Nat->Hp->Prop
 yld:Nat->Hp->V->Hp->Prop
 stop:Nat->Hp->Prop
def Ge(X:Cx)(a:s_ (Ch×Obj))(H:Hp)(b:Ch):Prop:=
 H b=p_/\b≠X.env.locals/\b∉X.fs/\(b∈X.ex\/X.s₀.heap.objs.size<=b)/\(∀x c,X.env.cells.lookup x=P3 c->c≠b)/\∀p∈X.pn++a,p.1≠b
theorem Inv.fpOk{X:Cx}{d:s_ (Ch×Obj)}{g:St}{H f:Hp}{s:Go}{b:Ch}(I:Inv X d g H s)(a:s.heap.objs.size<=b)(h:f b=p_):Ge X d f b:=by
 refine⟨h,jY (gv I.lt a),I.nofs a,.inr (gc I.sz a),λx c e z=>?_,λp i z=>?_⟩
 ·let⟨v,q⟩:=I.cell x c e
  exact absurd (gv q.lt (by rw[z];exact a)) (iY _)
 ·exact absurd (gv (UF (I.pin p i).1) (by rw[z];exact a)) (iY _)
structure Turn (P:gi) (w:gn) (K:Frag) (tg:gj) (J:It) (fp:List Ch) (it:Ch) (tn:Nat->gf->Prop):Prop where
 mem:it∈fp
 obj:∀i h,tn i h->∀b∈fp,∃o,h.get? b=P3 o/\∀v,o.data≠.cell v
 keep:∀i h h',tn i h->(∀b∈fp,∀o,h.get? b=P3 o->h'.get? b=P3 o)->tn i h'
 item:∀(X:Cx),X.prog=P->X.w=w->X.K=K->X.calm=q_->∀(i:Nat) (zH:List (Ch×Obj)) (s:Go) (σ:St) (H:Hp) (E:Db->Go->Prop),Inv X zH σ H s->(∀b∈fp,Ge X zH H b)->tn i s.heap->J.go i H->
  wpAny (model P w) X.A (pyNext (.ref it)) (λr s1=>∃u,r=P3 u /\
   wpAny (model P w) X.A (letOwnedTupleGo tg (.ref it) u) (λ_ s2=>∃x H',Inv X zH σ H' s2/\RelV x u/\J.yld i H x H'/\tn (i+1) s2.heap/\∀b∈fp,H' b=p_) E s1) E s
 done:∀(X:Cx),X.prog=P->X.w=w->X.K=K->X.calm=q_->∀(i:Nat) (zH:List (Ch×Obj)) (s:Go) (σ:St) (H:Hp) (E:Db->Go->Prop),Inv X zH σ H s->(∀b∈fp,Ge X zH H b)->tn i s.heap->J.stop i H->
  wpAny (model P w) X.A (pyNext (.ref it)) (λr s1=>r=p_/\Inv X zH σ H s1) E s
 self:∀(A:gw) (i:Nat) (s:Go) (Q:Db->Go->Prop) (E:Db->Go->Prop),tn i s.heap->Q (.ref it) s->wpAny (model P w) A (pyIter (.ref it)) Q E s
abbrev TI:=St->Hp->(It->Hp->Prop)->Prop
def fw(X:Cx)(d:s_ (Ch×Obj))(i:St)(j:gj)(R:It->Hp->Prop)(a:Db)(e:Go):Prop:=
 ∃(f:Ch) (g:s_ Ch) (h:Nat->gf->Prop) (J:It) (c:Hp),a=.ref f/\Inv X d i c e/\Turn X.prog X.w X.K j J g f h/\h 0 e.heap/\(∀b∈g,Ge X d c b)/\R J c
def PI(X:Cx)(d a:gj)(e:TI):Prop:=
 ∀(c:s_ (Ch×Obj)) (s:Go) (b:St) (H:Hp) (R:It->Hp->Prop),Inv X c b H s->e b H R->
  wpAny (model X.prog X.w) X.A (eval a X.env) (λv f=>wpAny (model X.prog X.w) X.A (pyIter v) (fw X c b d R) X.xe f) X.xe s
theorem Pw {M:Model}{A:gw}{E:Db → Go → Prop}{s:Go}{b:gj}{c:Ch}{u:Db}{o:Obj}{n:String}{d:Array Db}{Q:Unit → Go → Prop} (e:s.heap.get? c=P3 o) (f:o.cls=.type n) (g:o.data=.fields d)
    (h:["enumerate","zip","dict_itemiterator","dict_reverseitemiterator","odict_iterator","itertools.zip_longest","itertools.pairwise"].contains n=r_) (a:Q () s):wpAny M A (letOwnedTupleGo b (.ref c) u) Q E s:=by
  unfold letOwnedTupleGo
  cases b <;>first
    |exact Sc a
    |(cases u <;>first
        |exact Sc a
        | (refine Cn (wpAny_load e ?_)
           rw[f,g];show wpAny M A (if(["enumerate","zip","dict_itemiterator","dict_reverseitemiterator","odict_iterator","itertools.zip_longest","itertools.pairwise"].contains n && d[0]?==P3 (rawInt _))=q_ then _ else _) Q E s;rw[if_neg (by grind)];exact Sc a))
def fX(K:Frag)(a:Ch):It:=
 ⟨λi H=>∃b x,SqL K H a b/\b[i]?=P3 x,λi H x c=>c=H/\∀b,SqL K H a b->b[i]?=P3 x,λi H=>∃b,SqL K H a b/\b.length<=i⟩
def bX(K:Frag)(a:Ch):It:=
 ⟨λi H=>∃b x,SqT K H a b/\b[i]?=P3 x,λi H x c=>c=H/\∀b,SqT K H a b->b[i]?=P3 x,λi H=>∃b,SqT K H a b/\b.length<=i⟩
def di(a:Int)(n:Nat):It:=⟨λi _=>i<n,λi H x b=>b=H/\x=.int (a+i),λi _=>n<=i⟩
theorem TB{P:gi}{w:gn}{K:Frag}{R:gj}(a g:Ch):Turn P w K R (fX K a) [g] g (λi h=>h.IsListIter g a i) where
 mem:=by simp
 obj:=λi h f b j=>by
  have e:b=g:=by simpa using j
  subst e;let⟨o,e,c,d⟩:=f;exact⟨o,e,λv z=>by rw[d]at z;cases z⟩
 keep:=λi h m f k=>f.at λo e=>k g (by simp) o e
 item:=by
  intro X r t y N i O s Q H E I n f A;subst r t y;let⟨S,x,q,B⟩:=A;let⟨C,D,p,T⟩:=I.list q;let⟨u,U,V⟩:=D.get B;let⟨F,G,W,J,L,M⟩:=n g (by simp);refine wpAny_pyNext_list_item f p.isList (x:=u) (by simpa using U) λm l Y=>?_;have Z:Inv X O Q H {s with heap:=m}:=I.turned (t':=s.toks) (λb o j e=>(Y.2 b j).trans e) F G J L M;let⟨o,e,c,d⟩:=id l;exact⟨u,rfl,Pw (s:={s with heap:=m}) e c d (by decide) ⟨x,H,Z,V,⟨rfl,λys hy=>by rw[I.list_inj hy q];exact B⟩,l,λb j=>(n b j).1⟩⟩
 done:=by
  intro X r t y N i O s Q H E I n f A;subst r t y;let⟨S,q,B⟩:=A;let⟨C,D,p,T⟩:=I.list q;let⟨F,G,W,J,L,M⟩:=n g (by simp);have hl:=D.length;exact wpAny_pyNext_list_end (I.ok.hd N) f p.isList (by simp;omega) λm eb=>⟨rfl,I.turned (t':=s.toks) (λb o j e=>eb b o j e) F G J L M⟩
 self:=λ_ _ _ _ _ f h=>wpAny_pyIter_listiter f h
theorem Kh{P:gi}{w:gn}{K:Frag}{R:gj}(a g:Ch):Turn P w K R (bX K a) [g] g (λi h=>h.IsTupleIter g a i) where
 mem:=by simp
 obj:=λi h f b j=>by
  have e:b=g:=by simpa using j
  subst e;let⟨o,e,c,d⟩:=f;exact⟨o,e,λv z=>by rw[d]at z;cases z⟩
 keep:=λi h n f k=>f.at λo e=>k g (by simp) o e
 item:=by
  intro X t y A N i O s Q H E I q f B;subst t y A;let⟨S,x,r,C⟩:=B;let⟨l,D,p,T⟩:=I.tuple r;let⟨u,U,V⟩:=D.get C;let⟨F,G,W,J,L,M⟩:=q g (by simp);refine wpAny_pyNext_tuple_item f (show s.heap.IsTuple a l.toArray from p) (x:=u) (by simpa using U) λn m Y=>?_;have Z:Inv X O Q H {s with heap:=n}:=I.turned (t':=s.toks) (λb o j e=>(Y.2 b j).trans e) F G J L M;let⟨o,e,c,d⟩:=id m;exact⟨u,rfl,Pw (s:={s with heap:=n}) e c d (by decide) ⟨x,H,Z,V,⟨rfl,λys hy=>by rw[I.tuple_inj hy r];exact C⟩,m,λb j=>(q b j).1⟩⟩
 done:=by
  intro X t y A N i O s Q H E I q f B;subst t y A;let⟨S,r,C⟩:=B;let⟨l,D,p,T⟩:=I.tuple r;let⟨F,G,W,J,L,M⟩:=q g (by simp);have hl:=D.length;exact wpAny_pyNext_tuple_end (I.ok.hd N) f (show s.heap.IsTuple a l.toArray from p) (by simp;omega) λn eb=>⟨rfl,I.turned (t':=s.toks) (λb o j e=>eb b o j e) F G J L M⟩
 self:=λ_ _ _ _ _ f h=>wpAny_pyIter_tupleiter f h
theorem QZ{P:gi}{w:gn}{K:Frag}{G:gj}(c:Ch)(g:Int)(n:Nat):Turn P w K G (di g n) [c] c (λi h=>IsRangeIter h c (g+(i:Nat)*1) ((n:Int) - (i:Nat)) 1) where
 mem:=by simp
 obj:=λi h a b d=>by
  simp_all
 keep:=λi h j a k=>k c (by simp) _ a
 item:=by
  intro X m p q r i C s D H E I l a u;subst m p q;let⟨x,y,J,z,A,B⟩:=l c (by simp);have W:=Walks.range (prog:=X.prog) (w:=X.w) (I.ok.hd r) c g 1 n;refine W.item i s _ _ u a λv j F L f M=>?_;let⟨t,rfl⟩:=L;have N:Inv X C D H {s with heap:=j,toks:=F}:=I.turned (λb o d e=>M b o (by simpa using d) e) x y z A B;refine⟨_,rfl,Pw (s:={s with heap:=j,toks:=F}) (n:="range_iterator") f rfl rfl (by decide) ⟨.int (g+i),H,N,⟨t,?_⟩,⟨rfl,rfl⟩,f,λb d=>(l b d).1⟩⟩;rw[Int.mul_one]
 done:=by
  intro X m p q r i C s D H E I l a u;subst m p q;let⟨x,y,J,z,A,B⟩:=l c (by simp);exact wpAny_pyNext_range_end (I.ok.hd r) a (by have:n<=i:=u;omega) λj O=>⟨rfl,I.turned (t':=s.toks) (λb o d e=>O b o d e) x y z A B⟩
 self:=λ_ _ _ _ _ a h=>wpAny_pyIter_rangeiter a h
section
variable {X:Cx}{tg:Expr}
def fH(K:Frag)(c:TE):TI:=λd H R=>c d H λx b=>∃a,x=.ref a/\(∃e,SqT K b a e)/\R (bX K a) b
theorem Vk{l:gj}{d:TE}(f:PE X l d):PI X tg l (fH X.K d):=by
 intro t s g H R I h;refine thn (f _ s g H _ I h) λv i ⟨x,j,c,k,m⟩=>?_;let⟨a,e,⟨u,n⟩,q⟩:=m;subst e;cases k;let⟨r,w,p,y⟩:=c.tuple n;refine i_ (p) ?_;refine⟨_,_,_,_,j,rfl,c.kept λb o e=>Ev _ e,Kh a _,⟨_,XV _ rfl,rfl,rfl⟩,λb z=>?_,q⟩;have e:b=i.heap.objs.size:=by grind
 subst e;exact c.fpOk (On _) (c.hok.fresh (On _))
theorem PF{d:s_ (Ch×Obj)}{f:St}{H:Hp}{s:Go}{R:It->Hp->Prop}{E:Db->Go->Prop}{a c:Int}{t u v:Tok}{g:Nat}(I:Inv X d f H s)(i:-(2 ^ 62)<=a)(j:a<2 ^ 62)(k:-(2 ^ 62)<=c)(l:c<2 ^ 62)
  (q:R (di a (c - a).toNat) H):wpAny (model X.prog X.w) X.A (pyIter (.ref s.heap.objs.size)) (fw X d f tg R) E {s with heap:=s.heap.push {cls:=.type "range",data:=.fields #[.int a t,.int c u,.int 1 v]},toks:=g}:=by
 refine wpAny_pyIter_range (IsRange.new ..) (small_one i j k l) ?_;have h:Inv X d f H {s with heap:=s.heap.push {cls:=.type "range",data:=.fields #[.int a t,.int c u,.int 1 v]},toks:=g}:=I.kept λb o e=>Ev _ e
 refine⟨(s.heap.push {cls:=.type "range",data:=.fields #[.int a t,.int c u,.int 1 v]}).objs.size,[(s.heap.push {cls:=.type "range",data:=.fields #[.int a t,.int c u,.int 1 v]}).objs.size],_,_,H,rfl,
  h.kept (t':=g) λb o e=>Ev _ e,QZ _ a (c - a).toNat,?_,λb m=>?_,q⟩
 ·have n:a+((0:Nat):Int)*1=a:=by simp
  have p:(((c - a).toNat:Nat):Int) - ((0:Nat):Int)=Builtin.Range.rangeSize a c 1:=by rw[rangeSize_one];grind
  show IsRangeIter _ _ (a+((0:Nat):Int)*1) ((((c - a).toNat:Nat):Int) - ((0:Nat):Int)) 1;rw[n,p];exact XV _ rfl
 ·have e:b=(s.heap.push {cls:=.type "range",data:=.fields #[.int a t,.int c u,.int 1 v]}).objs.size:=by simpa using m
  subst e;exact h.fpOk (On _) (h.hok.fresh (On _))
def c8(a:TA):TI:=λb H R=>a b H λc d=>∃j:Int,c=[.int j]/\-(2 ^ 62)<=j/\j<2 ^ 62/\R (di 0 j.toNat) d
def c7(a:TA):TI:=λb H R=>a b H λc d=>∃i j:Int,c=[.int i,.int j]/\(-(2 ^ 62)<=i/\i<2 ^ 62/\-(2 ^ 62)<=j/\j<2 ^ 62)/\R (di i (j - i).toNat) d
theorem Tj{a:gj}{c:TA}{p pos:Pos}(d:Gl X "range")(f:X.mg "range"=p_)(g:PA X [a] c)(i:starEach [a] X.env=[(r_,eval a X.env)]:=by rfl):PI X tg (.Call (.Name "range" p) [a] [] pos) (c8 c):=by
 intro u s k H R I h;refine Call_ (EQ I d f boot_range (iW (thn (g _ _ s k H _ I h) λv w ⟨x,y,l,m,b⟩=>?_) i rfl));let⟨j,e,b,n,q⟩:=b;subst e;cases m with
 |cons r o=>
  cases o;let⟨t,rfl⟩:=r;exact call_range_1 (PF l (by omega) (by omega) b n (by simpa using q))
theorem Ti{a b:gj}{g:TA}{p pos:Pos}(k:Gl X "range")(l:X.mg "range"=p_)(m:PA X [a,b] g)(n:starEach [a,b] X.env=[(r_,eval a X.env),(r_,eval b X.env)]:=by rfl)(c:starEach [b] X.env=[(r_,eval b X.env)]:=by rfl):
  PI X tg (.Call (.Name "range" p) [a,b] [] pos) (c7 g):=by
 intro A s o H R I h;refine Call_ (EQ I k l boot_range (iW (thn (m _ _ s o H _ I h) λB C ⟨D,E,u,v,d⟩=>?_) (by rw[n,c]) (by rw[c];rfl)));let⟨i,j,e,⟨d,w,x,y⟩,q⟩:=d;subst e;cases v with
 | cons r f=>
  cases f with
  |cons z f=>
   cases f;let⟨t,rfl⟩:=r;let⟨F,rfl⟩:=z;exact call_range_2 (PF u d w x y q)
def e7(e:TI)(g:TG)(f:TS):TS:=λD a H=>e a H λJ h=>∃W:Nat->Nat->St->Hp->Prop,(∃m,W 0 m a h)/\∀i m a H,W i m a H->
 (J.stop i H/\D.nx a H)\/(J.go i H/\∃N:St->Hp->Prop,(∀c b,N c b->∃d,d<m/\W (i+1) d c b)/\∀x b,J.yld i H x b->g x a b λj H2=>f {D with nx:=N,ct:=N,bk:=D.nx} j H2)
def K6(a:s_ Ch)(h:gf):s_ (Ch×Obj):=a.filterMap λb=>(h.get? b).map λo=>(b,o)
theorem E5{a:s_ Ch}{h:gf}{b:Ch}{o:Obj}(c:b∈a)(e:h.get? b=P3 o):(b,o)∈K6 a h:=lu.mpr ⟨b,c,by rw[e];rfl⟩
theorem Tz{a:s_ Ch}{h:gf}{p:Ch×Obj}(c:p∈K6 a h):p.1∈a/\h.get? p.1=P3 p.2:=by
 let⟨b,f,e⟩:=lu.mp c;cases q:h.get? b with
 |none=>grind
 |some o=>
  rw[q]at e;have d:=gW e;subst d
  simp_all
theorem Inv.pinned{a:s_ (Ch×Obj)}{f:St}{H:Hp}{s:Go}{c:s_ Ch}(I:Inv X a f H s)(h:∀b∈c,Ge X a H b)(i:∀b∈c,∃o,s.heap.get? b=P3 o/\∀v,o.data≠.cell v):Inv X (a++K6 c s.heap) f H s:=
 I.pins_of λp j=>(gP.mp j).elim (λz=>I.pin p (f8 _ z)) λz=>by
  let⟨g,e⟩:=Tz z;let⟨k,l,m,_⟩:=h _ g;let⟨o,n,d⟩:=i _ g
  grind
theorem Inv.unpinned{a c:s_ (Ch×Obj)}{b:St}{H:Hp}{s:Go}(I:Inv X (a++c) b H s):Inv X a b H s:=I.pins_of λp d=>I.pin p (f8 _ (iJ _ d))
theorem K3{a:gj}{t:s_ gm}{Z:TI}{g:TG}{tb:TS}{pos:Pos}(C:lL (model X.prog X.w) X.A X.env X.xe)(hc:X.calm=q_)(hi:PI X tg a Z)(hg:PG X tg g)(c:PSs X t tb)
  (hs:∀x,foldedSetIterable a X.env x=pure x:=by intro _;rfl):PS X (.For tg a t [] pos) (e7 Z g tb):=by
 intro z s σ H D I h;refine wpAny_For (thn (hi z s σ H _ I h) λv s1 h1=>thn h1 λa0 s2 h2=>?_) hs;let⟨it,E,tn,J,H2,e,I2,T,Rp,f2,W,⟨m0,w0⟩,F⟩:=h2;subst e;have j:∀{q:Hp},(∀b∈E,q b=p_)->∀b∈E,Ge X z q b:=λhn b c=>⟨hn b c,(f2 b c).2⟩;refine codeAny_forLoop_any (λn s'=>∃i G q,Inv X z G q s'/\tn i s'.heap/\(∀b∈E,q b=p_)/\W i n G q) ?_ m0 ⟨0,σ,H2,I2,Rp,λb c=>(f2 b c).1,w0⟩;rintro n s3 ⟨i,K,Q,I3,L,M,w3⟩
 rcases F i n K Q w3 with⟨O,qn⟩|⟨go,N,hN,step⟩
 ·refine jd C (thn (T.done X rfl rfl rfl hc i z s3 K Q X.xe I3 (j M) L O) λr s4 ⟨R,I4⟩=>?_)
  subst R;exact jw ⟨K,Q,I4,qn⟩
 ·refine jd C (thn (T.item X rfl rfl rfl hc i z s3 K Q X.xe I3 (j M) L go) λr s4 ⟨u,R,h4⟩=>?_)
  subst R;refine jd C (thn h4 λ_ s5 ⟨x,H5,I5,r5,y5,B,S⟩=>?_);have U:=I5.pinned (j S) (T.obj _ _ B);refine jd C (thn (hg _ s5 K H5 x u _ U r5 (step x H5 y5)) λ_ s6 ⟨V,H6,I6,q6⟩=>?_);refine jd C (thn (c _ s6 V H6 _ I6 q6) λf Y y=>?_)
  have again:∀{k:St}{l:Hp},Inv X (z++K6 E s5.heap) k l Y->N k l->∃m,m<n/\∃i G q,Inv X z G q Y/\tn i Y.heap/\(∀b∈E,q b=p_)/\W i m G q:=λ{k l} p P=>by
   let⟨m',hm,w7⟩:=hN k l P;refine⟨m',hm,i+1,k,l,p.unpinned,T.keep _ _ _ B λb c o e=>(p.pin (b,o) (f8 _ (f8 _ (E5 c e)))).1,λb c=>?_,w7⟩;let⟨o,e,d⟩:=T.obj _ _ B b c;exact(p.pin (b,o) (f8 _ (f8 _ (E5 c e)))).2.1
  cases f with
  |next=>let⟨k,l,p,P⟩:=y;exact again p P
  |cont=>let⟨k,l,p,P⟩:=y;exact again p P
  |brk=>let⟨k,l,p,y⟩:=y;exact⟨k,l,p.unpinned,y⟩
  |ret v=>let⟨x7,k,l,p,r7,y⟩:=y;exact⟨x7,k,l,p.unpinned,r7,y⟩
end
theorem SW{K:Frag}{a:Ch}{xs:s_ V}{g:TG}{k:TS}{D:Ends}{b:St}{H:Hp}(c:Nat->St->Hp->Prop)(n:c 0 b H)(o:∀i b H,i<=xs.length->c i b H->SqT K H a xs)
  (r:∀i x b H,xs[i]?=P3 x->c i b H->g x b H λf H2=>k {D with nx:=c (i+1),ct:=c (i+1),bk:=D.nx} f H2) (s:∀b H,c xs.length b H->D.nx b H):
  ∃W:Nat->Nat->St->Hp->Prop,(∃m,W 0 m b H)/\∀i m b H,W i m b H->
   ((bX K a).stop i H/\D.nx b H)\/((bX K a).go i H/\∃N:St->Hp->Prop,(∀h d,N h d->∃l,l<m/\W (i+1) l h d)/\∀x d,(bX K a).yld i H x d->g x b d λf H2=>k {D with nx:=N,ct:=N,bk:=D.nx} f H2):=by
 exists λi m b H=>m=xs.length - i/\i<=xs.length/\c i b H,⟨xs.length,by simp,Tk _,n⟩;rintro i m b H ⟨rfl,t,p⟩;have q:=o i b H t p
 by_cases j:i<xs.length
 ·refine .inr ⟨⟨xs,xs[i],q,by simp⟩,_,λh d u=>⟨_,by omega,rfl,j,u⟩,λx d y=>?_⟩
  let⟨e,y⟩:=y;subst e;exact r i x b _ (y xs q) p
 ·have e:i=xs.length:=by omega
  subst e;exact .inl ⟨⟨xs,q,On _⟩,s b H p⟩
abbrev R2:=V->V->Hp->VK->Prop
def OpR(X:Cx)(f:Db->Db->Sem Db)(r:R2):Prop:=
 ∀(a:s_ (Ch×Obj)) (s:Go) (b:St) (H:Hp) (x y:V) (v u:Db) (Q:VK),Inv X a b H s->RelV x v->RelV y u->r x y H Q->
  wpAny (model X.prog X.w) X.A (f v u) (EP X a b Q) X.xe s
def fS(X:Cx)(f:Db->Sem Db)(r:V->Hp->VK->Prop):Prop:=
 ∀(a:s_ (Ch×Obj)) (s:Go) (b:St) (H:Hp) (x:V) (v:Db) (Q:VK),Inv X a b H s->RelV x v->r x H Q->
  wpAny (model X.prog X.w) X.A (f v) (EP X a b Q) X.xe s
def Co(X:Cx)(f:Db)(r:s_ V->Hp->VK->Prop):Prop:=
 ∀(a:s_ (Ch×Obj)) (s:Go) (b:St) (H:Hp) (c:s_ V) (d:s_ Db) (Q:VK),Inv X a b H s->Vals c d->r c H Q->
  wpAny (model X.prog X.w) X.A (call f d) (EP X a b Q) X.xe s
def fT(X:Cx)(r:V->Hp->(Bool->Hp->Prop)->Prop):Prop:=
 ∀(a:s_ (Ch×Obj)) (s:Go) (b:St) (H:Hp) (x:V) (v:Db) (Q:Bool->Hp->Prop),Inv X a b H s->RelV x v->r x H Q->
  wpAny (model X.prog X.w) X.A (truthy v) (TP X a b Q) X.xe s
def Ec(r:R2)(b c:TE):TE:=λa H Q=>b a H λx d=>c a d λy H2=>r x y H2 Q
def gA(r:V->Hp->VK->Prop)(a:TE):TE:=λb H Q=>a b H λx c=>r x c Q
def rI(C:Int->Int->Prop)(g:Int->Int->V):R2:=λx y H Q=>∃i j,x=.int i/\y=.int j/\C i j/\Q (g i j) H
def JX(g:Int->Int->V):R2:=λx y H Q=>∃i j,x=.int i/\y=.int j/\Q (g i j) H
def rU(g:Int->V):V->Hp->VK->Prop:=λx H Q=>∃i,x=.int i/\Q (g i) H
section
variable {X:Cx}{a b:Expr}{ta tb:TE}{pos:Pos}
theorem bD(k:PE X a ta)(l:PE X b tb){j:s_ (Ch×Obj)}{s:Go}{c:St}{H:Hp}{R:V->V->Hp->Prop}(I:Inv X j c H s)
  (h:ta c H λx i=>tb c i λy H2=>R x y H2) {Q:Db->Go->Prop}{f:Db->Db->Sem Db}
  (m:∀v u g x y H2,Inv X j c H2 g->RelV x v->RelV y u->R x y H2->wpAny (model X.prog X.w) X.A (f v u) Q X.xe g):
  wpAny (model X.prog X.w) X.A (eval a X.env) (λv d=>wpAny (model X.prog X.w) X.A (eval b X.env) (λu e=>wpAny (model X.prog X.w) X.A (f v u) Q X.xe e) X.xe d) X.xe s:=thn (k _ s c H _ I h) λv n ⟨x,i,o,p,q⟩=>thn (l _ n c i _ o q) λu g ⟨y,H2,r,t,z⟩=>m v u g x y H2 r p t z
theorem B5{c:Operator}{r:R2}(d:OpR X (binaryOp c) r)(e:PE X a ta)(f:PE X b tb):PE X (.BinOp a c b pos) (Ec r ta tb):=λm s g H Q I h=>wpAny_BinOp (bD e f I h λv u i x y H2 j k l q=>d _ i g H2 x y v u Q j k l q)
theorem cw{c:UnaryOp}{r:V->Hp->VK->Prop}(e:fS X (unaryOp c) r)(f:PE X a ta):PE X (.UnaryOp c a pos) (gA r ta):=λm s d H Q I h=>UnaryOp_ (thn (f _ s d H _ I h) λv g ⟨x,i,j,k,l⟩=>e _ g d i x v Q j k l)
theorem eB{f:Db->Db->Sem Db}{C:Int->Int->Prop}{g:Int->Int->Int}
  (c:∀(i j:Int) (t u:Tok) (s:Go) (Q:Db->Go->Prop) (E:Db->Go->Prop),C i j->Q (.int (g i j) s.toks) {s with toks:=s.toks+1}->wpAny (model X.prog X.w) X.A (f (.int i t) (.int j u)) Q E s):
  OpR X f (rI C λi j=>.int (g i j)):=by
 intro m s n H x y v u Q I d e h;let⟨i,j,rfl,rfl,k,q⟩:=h;let⟨t,rfl⟩:=d;let⟨l,rfl⟩:=e;exact c i j t l s _ _ k ⟨.int _,H,I.tok _,⟨_,rfl⟩,q⟩
theorem cz{f:Db->Db->Sem Db}{g:Int->Int->Int}
  (c:∀(i j:Int) (t u:Tok) (s:Go) (Q:Db->Go->Prop) (E:Db->Go->Prop),Q (.int (g i j) s.toks) {s with toks:=s.toks+1}->wpAny (model X.prog X.w) X.A (f (.int i t) (.int j u)) Q E s):
  OpR X f (JX λi j=>.int (g i j)):=by
 intro l s m H x y v u Q I d e h;let⟨i,j,rfl,rfl,q⟩:=h;let⟨t,rfl⟩:=d;let⟨k,rfl⟩:=e;exact c i j t k s _ _ ⟨.int _,H,I.tok _,⟨_,rfl⟩,q⟩
theorem X3{f:Db->Db->Sem Db}{g:Int->Int->Bool}
  (c:∀(i j:Int) (t u:Tok) (s:Go) (Q:Db->Go->Prop) (E:Db->Go->Prop),Q (.bool (g i j)) s->wpAny (model X.prog X.w) X.A (f (.int i t) (.int j u)) Q E s):
  OpR X f (JX λi j=>.bl (g i j)):=by
 intro l s m H x y v u Q I d e h;let⟨i,j,rfl,rfl,q⟩:=h;let⟨t,rfl⟩:=d;let⟨k,rfl⟩:=e;exact c i j t k s _ _ ⟨.bl _,H,I,rfl,q⟩
def XG(i j:Int):Prop:=0<j/\j<1073741824
def ML(i j:Int):Prop:=0<=j/\j<=1000000/\i.natAbs<2 ^ 64
def CMul(i j:Int):Prop:=(-(2 ^ 64)<i/\i<2 ^ 64)\/(-(2 ^ 64)<j/\j<2 ^ 64)
theorem CMul.ok{i j:Int}(h:CMul i j):IntMulOk i j:=by
 rcases h with⟨c,d⟩|⟨c,d⟩
 ·exact .of_left (intBits_le_64 c d)
 ·exact .of_right (intBits_le_64 c d)
theorem op_add:OpR X (binaryOp .Add) (JX λi j=>.int (i+j)):=cz λ_ _ _ _ _ _ _ q=>add_int q
theorem op_sub:OpR X (binaryOp .Sub) (JX λi j=>.int (i - j)):=cz λ_ _ _ _ _ _ _ q=>sub_int q
theorem op_mul:OpR X (binaryOp .Mult) (rI CMul λi j=>.int (i*j)):=eB λ_ _ _ _ _ _ _ c q=>mul_int q c.ok
theorem KI:OpR X (binaryOp .FloorDiv) (rI XG λi j=>.int (i / j)):=eB λi j _ _ _ _ _ c q=>by
 have d:=c.1;have e:=c.2;exact floordiv_int (by omega) (by grind) (.inl (PyProof.noPylong_small (by omega)))
theorem EO:OpR X (binaryOp .Mod) (rI (λ_ j=>0<j) λi j=>.int (i % j)):=eB λi j _ _ _ _ _ c q=>mod_int' (by omega) (by rw[Int.fmod_eq_emod_of_nonneg i (by omega)];exact q)
theorem Fg:OpR X (binaryOp .Pow) (rI ML λi j=>.int (i ^ j.toNat)):=eB λ_ _ _ _ _ _ _ c q=>pow_int_small c.1 c.2.1 c.2.2 q
theorem f9{f:Db->Sem Db}{g:Int->Int}
  (c:∀(i:Int) (t:Tok) (s:Go) (Q:Db->Go->Prop) (E:Db->Go->Prop),Q (.int (g i) s.toks) {s with toks:=s.toks+1}->wpAny (model X.prog X.w) X.A (f (.int i t)) Q E s):
  fS X f (rU λi=>.int (g i)):=by
 intro e s j H x v Q I d h;let⟨i,rfl,q⟩:=h;let⟨t,rfl⟩:=d;exact c i t s _ _ ⟨.int _,H,I.tok _,⟨_,rfl⟩,q⟩
theorem Zg:fS X (unaryOp .USub) (rU λi=>.int (-i)):=f9 λ_ _ _ _ _ q=>neg_int q
end
def cJ:V->V->Bool
 |.non,.non=>q_|.non,.int _=>q_|.int _,.non=>q_|.non,.bl _=>q_|.bl _,.non=>q_|.non,.str _=>q_|.str _,.non=>q_
 |.int _,.int _=>q_|.bl _,.bl _=>q_|.str _,.str _=>q_|.byt _,.byt _=>q_
 |.int _,.str _=>q_|.str _,.int _=>q_|.bl _,.str _=>q_|.str _,.bl _=>q_
 |_,_=>r_
def fh:R2:=λx y H Q=>cJ x y=q_/\Q (.bl (decide (x=y))) H
def fc:R2:=λx y H Q=>cJ x y=q_/\Q (.bl (!decide (x=y))) H
theorem KR{i j:Int}:decide (V.int i=V.int j)=(i==j):=by
 rw[iN];simp
theorem OI{i j:Bool}:decide (V.bl i=V.bl j)=(i==j):=by
 rw[iN];simp
theorem KQ{i j:Str}:decide (V.str i=V.str j)=(i==j):=by
 rw[iN];simp
theorem Sl{i j:Array UInt8}:decide (V.byt i=V.byt j)=(i.toList==j.toList):=by
 rw[iN]
 simp_all
section
variable {X:Cx}{a b:Expr}{ta tb:TE}{pos:Pos}
theorem A9{c:s_ (Ch×Obj)}{d:St}{H:Hp}{s:Go}{Q:VK}{k f:Bool}(I:Inv X c d H s)(q:Q (.bl k) H)(e:k=f):EP X c d Q (.bool f) s:=by
 subst e;exact⟨.bl k,H,I,rfl,q⟩
theorem CH:OpR X (compareOp .Eq) fh:=by
 intro g s k H x y v u Q I f c h;let⟨e,q⟩:=h;cases x with
 |non=>
  cases f;cases y with
  |non=>cases c;exact PySem.EqNone.eq_none_none (A9 I q (by simp))
  |bl j=>cases c;exact PySem.EqNone.eq_none_bool (A9 I q (by simp))
  |int j=>let⟨d,rfl⟩:=c;exact PySem.EqNone.eq_none_int (A9 I q (by simp))
  |str j=>let⟨d,rfl⟩:=c;exact PySem.EqNone.eq_none_str (A9 I q (by simp))
  |_=>exact absurd (show r_=q_ from e) gh
 |bl i=>
  cases f;cases y with
  |non=>cases c;exact PySem.EqNone.eq_bool_none (A9 I q (by simp))
  |bl j=>cases c;exact eq_bool (A9 I q OI)
  |str j=>let⟨d,rfl⟩:=c;exact PySem.EqMixed.eq_bool_str (A9 I q (by simp))
  |_=>exact absurd (show r_=q_ from e) gh
 |int i=>
  let⟨t,rfl⟩:=f;cases y with
  |non=>cases c;exact PySem.EqNone.eq_int_none (A9 I q (by simp))
  |int j=>let⟨d,rfl⟩:=c;exact eq_int (A9 I q KR)
  |str j=>let⟨d,rfl⟩:=c;exact PySem.EqMixed.eq_int_str (A9 I q (by simp))
  |_=>exact absurd (show r_=q_ from e) gh
 |str i=>
  let⟨t,rfl⟩:=f;cases y with
  |non=>cases c;exact PySem.EqNone.eq_str_none (A9 I q (by simp))
  |bl j=>cases c;exact PySem.EqMixed.eq_str_bool (A9 I q (by simp))
  |int j=>let⟨d,rfl⟩:=c;exact PySem.EqMixed.eq_str_int (A9 I q (by simp))
  |str j=>let⟨d,rfl⟩:=c;exact eq_str (A9 I q KQ)
  |_=>exact absurd (show r_=q_ from e) gh
 |byt i=>
  let⟨t,rfl⟩:=f;cases y with
  |byt j=>let⟨d,rfl⟩:=c;exact PySem.W.eq_bytes (A9 I q Sl)
  |_=>exact absurd (show r_=q_ from e) gh
 |_=>cases y <;>exact absurd (show r_=q_ from e) gh
theorem PP:OpR X (compareOp .NotEq) fc:=by
 intro g s k H x y v u Q I f c h;let⟨e,q⟩:=h;cases x with
 |non=>
  cases f;cases y with
  |non=>cases c;exact PySem.EqNone.ne_none_none (A9 I q (by simp))
  |bl j=>cases c;exact PySem.EqNone.ne_none_bool (A9 I q (by simp))
  |int j=>let⟨d,rfl⟩:=c;exact PySem.EqNone.ne_none_int (A9 I q (by simp))
  |str j=>let⟨d,rfl⟩:=c;exact PySem.EqNone.ne_none_str (A9 I q (by simp))
  |_=>exact absurd (show r_=q_ from e) gh
 |bl i=>
  cases f;cases y with
  |non=>cases c;exact PySem.EqNone.ne_bool_none (A9 I q (by simp))
  |bl j=>cases c;exact ne_bool (A9 I q (congrArg not OI))
  |str j=>let⟨d,rfl⟩:=c;exact PySem.EqMixed.ne_bool_str (A9 I q (by simp))
  |_=>exact absurd (show r_=q_ from e) gh
 |int i=>
  let⟨t,rfl⟩:=f;cases y with
  |non=>cases c;exact PySem.EqNone.ne_int_none (A9 I q (by simp))
  |int j=>let⟨d,rfl⟩:=c;exact ne_int (A9 I q (congrArg not KR))
  |str j=>let⟨d,rfl⟩:=c;exact PySem.EqMixed.ne_int_str (A9 I q (by simp))
  |_=>exact absurd (show r_=q_ from e) gh
 |str i=>
  let⟨t,rfl⟩:=f;cases y with
  |non=>cases c;exact PySem.EqNone.ne_str_none (A9 I q (by simp))
  |bl j=>cases c;exact PySem.EqMixed.ne_str_bool (A9 I q (by simp))
  |int j=>let⟨d,rfl⟩:=c;exact PySem.EqMixed.ne_str_int (A9 I q (by simp))
  |str j=>let⟨d,rfl⟩:=c;exact ne_str (A9 I q (congrArg not KQ))
  |_=>exact absurd (show r_=q_ from e) gh
 |byt i=>
  let⟨t,rfl⟩:=f;cases y with
  |byt j=>let⟨d,rfl⟩:=c;exact PySem.W.ne_bytes (A9 I q (congrArg not Sl))
  |_=>exact absurd (show r_=q_ from e) gh
 |_=>cases y <;>exact absurd (show r_=q_ from e) gh
theorem op_lt:OpR X (compareOp .Lt) (JX λi j=>.bl (decide (i<j))):=X3 λ_ _ _ _ _ _ _ q=>m9 q
theorem op_le:OpR X (compareOp .LtE) (JX λi j=>.bl (decide (i<=j))):=X3 λ_ _ _ _ _ _ _ q=>le_int q
theorem ZC:OpR X (compareOp .Gt) (JX λi j=>.bl (decide (j<i))):=X3 λ_ _ _ _ _ _ _ q=>gt_int q
theorem ZD:OpR X (compareOp .GtE) (JX λi j=>.bl (decide (j<=i))):=X3 λ_ _ _ _ _ _ _ q=>ge_int q
theorem Tv:OpR X (compareOp .Lt) (λx y H Q=>∃i j,x=.str i/\y=.str j/\Q (.bl (decide (i.cps.toList<j.cps.toList))) H):=by
 intro e s f H x y v u Q I c d h;let⟨i,j,rfl,rfl,q⟩:=h;let⟨t,rfl⟩:=c;let⟨g,rfl⟩:=d;exact lt_str (A9 I q rfl)
theorem K8:OpR X (compareOp .Is) (λx y H Q=>y=.non/\Q (.bl (decide (x=.non))) H):=by
 intro e s f H x y v u Q I c d h;let⟨rfl,q⟩:=h;cases d;refine is_none_gen (A9 I q ?_)
 cases x <;>first
  |omega
  |(let⟨t,rfl⟩:=c;rfl)
theorem Hq:OpR X (compareOp .IsNot) (λx y H Q=>y=.non/\Q (.bl (!decide (x=.non))) H):=by
 intro e s f H x y v u Q I c d h;let⟨rfl,q⟩:=h;cases d;refine isnot_none_gen (A9 I q ?_)
 cases x <;>first
  |omega
  |(let⟨t,rfl⟩:=c;rfl)
theorem OpR.or{f:Db->Db->Sem Db}{r c:R2}(h:OpR X f r)(i:OpR X f c):OpR X f (λx y H Q=>r x y H Q\/c x y H Q):=by
 intro j s d H x y v u Q I e g q
 rcases q with q|q
 ·exact h _ s d H x y v u Q I e g q
 ·exact i _ s d H x y v u Q I e g q
theorem Ah(b:gj){c:CmpOp}(h:c≠.In:=by decide)(f:c≠.NotIn:=by decide):behindInMarks c b=r_:=by
 have d:(c==CmpOp.In)=r_:=by grind
 have e:(c==CmpOp.NotIn)=r_:=by grind
 cases b <;>simp[behindInMarks,d,e]
theorem X1{c:CmpOp}{r:R2}(d:OpR X (compareOp c) r)(e:PE X a ta)(f:PE X b tb)(g:behindInMarks c b=r_):PE X (.Compare a [c] [b] pos) (Ec r ta tb):=λn s i H Q I h=>wpAny_Compare1 (bD e f I h λv u j x y H2 k l m q=>d _ j i H2 x y v u Q k l m q) g
def VA(t:TE):TT:=λc H Q=>t c H λx d=>∃k,x=.bl k/\Q k d
theorem Hk{d:CmpOp}{r:R2}(g:OpR X (compareOp d) r)(i:PE X a ta)(j:PE X b tb)(l:behindInMarks d b=r_):PT X (.Compare a [d] [b] pos) (VA (Ec r ta tb)):=by
 intro G s f H Q I h
 refine wpAny_isTrue_Compare1 (thn (i _ s f H _ I h) λv m ⟨x,n,o,p,q⟩=>thn (j _ m f n _ o q) λu t ⟨y,H2,w,A,B⟩=>
  thn (g _ t f H2 x y v u _ w p A B) λc J ⟨z,C,D,E,k,e,F⟩=>?_) l
 subst e;cases E;exact jR ⟨C,D,F⟩
def bN(K:Frag)(x:V)(H:Hp)(k:Bool):Prop:=
 match x with
 |.non=>k=r_
 |.bl b=>k=b
 |.int i=>k=(i !=0)
 |.str y=>y.length<=sizeLine/\k=((y.length:Int) !=0)
 |.byt y=>y.size<=sizeLine/\k=((y.size:Int) !=0)
 |.ref p=>(∃c,SqL K H p c/\k=!c.isEmpty)\/(∃c,SqT K H p c/\k=!c.isEmpty)\/∃d,H p=P3 (.dK d)/\k=!d.isEmpty
 |_=>False
theorem RF{d:Type}{c:s_ (d×V)}{e:s_ (d×Db)}(r:KV c e):(!e.isEmpty)=!c.isEmpty:=by
 cases r <;>rfl
theorem LM{d:s_ V}{c:s_ Db}(r:Vals d c):(!c.toArray.isEmpty)=!d.isEmpty:=by
 cases r <;>simp
theorem JF:(sizeLine:Nat)<2 ^ 63:=by decide
theorem Zj:fT X (λx H Q=>∃k,bN X.K x H k/\Q k H):=by
 intro C s D H x v Q I j h;let⟨k,e,q⟩:=h;have E:=JF;have F:sizeLine=16777216:=iK;cases x with
 |non=>
  cases j;have c:k=r_:=e;subst c;exact truthy_none ⟨H,I,q⟩
 |bl b=>
  cases j;have c:k=b:=e;subst c;exact jR ⟨H,I,q⟩
 |int i=>
  let⟨t,rfl⟩:=j;have c:k=(i !=0):=e;subst c;exact PySem.P.truthy_int ⟨H,I,q⟩
 |str y=>
  let⟨t,rfl⟩:=j;obtain⟨A,c⟩:y.length<=sizeLine/\k=((y.length:Int) !=0):=e;subst c;exact PySem.P.truthy_str (by omega) ⟨H,I.tok _,q⟩
 |byt y=>
  let⟨t,rfl⟩:=j;obtain⟨A,c⟩:y.size<=sizeLine/\k=((y.size:Int) !=0):=e;subst c;exact PySem.W.truthy_bytes (by omega) ⟨H,I.tok _,q⟩
 | ref p=>
  cases j;have c:(∃g,SqL X.K H p g/\k=!g.isEmpty)\/(∃g,SqT X.K H p g/\k=!g.isEmpty)\/∃d,H p=P3 (.dK d)/\k=!d.isEmpty:=e
  rcases c with⟨g,l,c⟩|⟨g,l,c⟩|⟨d,l,c⟩
  ·subst c
   let⟨o,r,u,z⟩:=I.list l;have f:=r.length;exact wpAny_truthy_list u.isList (by simp only[gQ];omega) ⟨H,I.tok _,by rw[LM r];exact q⟩
  ·subst c
   let⟨o,r,u,z⟩:=I.tuple l;have f:=r.length;exact truthy_tuple u (by simp only[gQ];omega) ⟨H,I.tok _,by rw[LM r];exact q⟩
  ·subst c
   obtain⟨z,B,n,r,m⟩:d.length<=sizeLine/\(p==sysModules)=r_/\∃n,KV d n/\s.heap.DictOf (BO X.prog X.w) p n:=I.hok p _ l;have f:d.length=n.length:=Paired.length r;exact wpAny_truthy_dict B m (by omega) ⟨H,I.tok _,by rw[RF r];exact q⟩
 |_=>exact(show False from e).elim
theorem Ve(f:PE X a ta)(g:∀c,isTrue a X.env c=(do let v ←c;standAt a.pos;holding [v] (truthy v))):
  PT X a (λd H Q=>ta d H λx e=>∃k,bN X.K x e k/\Q k e):=λo s d H Q I h=>isTrue_plain (thn (f _ s d H _ I h) λv i ⟨x,j,l,m,n⟩=>Zj _ i d j x v Q l m n) (g _)
theorem Q1:OpR X (binaryOp .Add) (λx y H Q=>∃i j,x=.str i/\y=.str j/\i.length+j.length<=sizeLine/\Q (.str (i++j)) H):=by
 intro g s k H x y v u Q I c d h;let⟨i,j,rfl,rfl,e,q⟩:=h;let⟨t,rfl⟩:=c;let⟨f,rfl⟩:=d;exact add_str (λf l=>⟨.str _,H,I.tok _,⟨_,rfl⟩,q⟩) e
theorem vals1{x:V}{c:s_ Db}(r:Vals [x] c):∃u,c=[u]/\RelV x u:=by
 cases r with
 |cons e d=>cases d;grind
theorem vals2{x y:V}{c:s_ Db}(r:Vals [x,y] c):∃u d,c=[u,d]/\RelV x u/\RelV y d:=by
 cases r with
 |cons e f=>
  cases f with
  |cons g h=>cases h;exact⟨_,_,rfl,e,g⟩
theorem Wv:Co X (.builtin "abs") (λc H Q=>∃i,c=[.int i]/\Q (.int (if i<0 then -i else i)) H):=by
 intro d s e H c f Q I r h;let⟨i,rfl,q⟩:=h;let⟨u,rfl,t,rfl⟩:=vals1 r;exact call_abs_int λu g=>⟨.int _,H,I.tok _,⟨_,rfl⟩,q⟩
theorem Ug(e:X.calm=q_):Co X (.builtin "min") (λd H Q=>∃i j,d=[.int i,.int j]/\Q (.int (if j<i then j else i)) H):=by
 intro f s g H d l Q I r h;let⟨i,j,rfl,q⟩:=h;let⟨u,m,rfl,⟨t,rfl⟩,⟨n,rfl⟩⟩:=vals2 r;refine min_two_ints (I.ok.hd e) λo p k=>⟨_,H,I.kept k,?_,q⟩
 by_cases c:j<i
 ·rw[if_pos c,if_pos c];exact⟨_,rfl⟩
 ·rw[if_neg c,if_neg c];exact⟨_,rfl⟩
theorem Mu:Co X (.type "int") (λc H Q=>(∃i,c=[.int i]/\Q (.int i) H)\/∃k,c=[.bl k]/\Q (.int (if k then 1 else 0)) H):=by
 intro e s f H c g Q I r h
 rcases h with⟨i,rfl,q⟩|⟨k,rfl,q⟩
 ·let⟨u,rfl,t,rfl⟩:=vals1 r
  exact call_int_int ⟨.int i,H,I,⟨_,rfl⟩,q⟩
 ·let⟨u,rfl,d⟩:=vals1 r
  cases d;exact call_int_bool ⟨.int _,H,I.tok _,⟨_,rfl⟩,q⟩
theorem OO:Co X (.type "str") (λc H Q=>∃i,c=[.int i]/\i.natAbs.log2<1920/\Q (.str (toString i)) H):=by
 intro e s f H c g Q I r h;let⟨i,rfl,d,q⟩:=h;let⟨u,rfl,t,rfl⟩:=vals1 r;exact PySem.P.str_of_int d ⟨.str _,H,I.tok _,⟨_,rfl⟩,q⟩
def bW(K:Frag)(x:V)(H:Hp)(n:Nat):Prop:=
 match x with
 |.str y=>y.length<=sizeLine/\n=y.length
 |.byt y=>y.size<=sizeLine/\n=y.size
 |.ref p=>(∃c,SqL K H p c/\n=c.length)\/∃c,SqT K H p c/\n=c.length
 |_=>False
theorem BM:Co X (.builtin "len") (λc H Q=>∃x n,c=[x]/\bW X.K x H n/\Q (.int n) H):=by
 intro v s w H c z Q I r h;let⟨x,n,rfl,e,q⟩:=h;let⟨u,rfl,g⟩:=vals1 r;have A:=JF;have B:sizeLine=16777216:=iK;cases x with
 |str y=>
  let⟨t,rfl⟩:=g;obtain⟨m,f⟩:y.length<=sizeLine/\n=y.length:=e;subst f;exact len_str (by omega) ⟨.int _,H,I.tok _,⟨_,rfl⟩,q⟩
 |byt y=>
  let⟨t,rfl⟩:=g;obtain⟨m,f⟩:y.size<=sizeLine/\n=y.size:=e;subst f;exact PySem.W.len_bytes (by omega) ⟨.int _,H,I.tok _,⟨_,rfl⟩,q⟩
 | ref p=>
  cases g;have f:(∃c,SqL X.K H p c/\n=c.length)\/∃c,SqT X.K H p c/\n=c.length:=e
  rcases f with⟨c,i,f⟩|⟨c,i,f⟩
  ·subst f
   let⟨j,k,l,o⟩:=I.list i;have d:=k.length;exact Calls.call_len_list l.isList (by simp only[gQ];omega) ⟨.int c.length,H,I.tok _,⟨_,by simp only[gQ];rw[d]⟩,q⟩
  ·subst f
   let⟨j,k,l,o⟩:=I.tuple i;have d:=k.length;exact len_tuple l (by simp only[gQ];omega) ⟨.int c.length,H,I.tok _,⟨_,by simp only[gQ];rw[d]⟩,q⟩
 |_=>exact(show False from e).elim
end
structure ObjM (h:gf) (x dx C:Ch) (mA:Str->Option Db):Prop where
 obj:h.get? x=P3 (PySem.W.instObj C dx)
 ns:h.Ns1 dx mA
 ne:dx≠x
theorem UD{h:gf}{d:Ch}{f:Str->t_ Db}(n:h.Ns1 d f):∃g,h.get? d=P3 g/\∀b,PySem.W.lookIn b g=P3 (f b):=by
 let⟨o,i,q,j,k,l,_,m⟩:=n;refine⟨o,j,λb=>?_⟩;have e:=m b;unfold nsFind findBy at e;unfold PySem.W.lookIn;rw[k]
 dsimp only
 split
 ·simp_all
 ·have a:i.toList.any (·.refKey)=r_:=by
   rw[List.any_eq_false];intro y p;let⟨z,t,c⟩:=l y (Array.mem_toList_iff.mp p);simp[DictEntry.refKey,c]
  grind
theorem ObjM.look{h:gf}{x c C:Ch}{d:Str->t_ Db}(I:ObjM h x c C d):∃b,PySem.W.InstAt h x (PySem.W.instObj C c) C (P3 b)/\∀a,PySem.W.lookIn a b=P3 (d a):=
 let ⟨b,e,f⟩:=UD I.ns
 ⟨b,⟨I.obj,rfl,rfl,e⟩,f⟩
def FL(f:Str)(v:V):s_ (Str×V)->s_ (Str×V)
 |[]=>[(f,v)]
 |(g,x)::r=>if g=f then(g,v)::r else(g,x)::FL f v r
theorem JZ(f g:Str)(v:V):∀c:s_ (Str×V),(FL f v c).lookup g=if g=f then P3 v else c.lookup g
 |[]=>by
  show kX g [(f,v)]=_
  by_cases h:g=f
  ·simp_all
  simp_all
 | (k,x)::r=>by
  have d:=JZ f g v r;rw[show FL f v ((k,x)::r)=(if k=f then(k,v)::r else(k,x)::FL f v r)from rfl]
  by_cases a:k=f
  ·rw[if_pos a]
   by_cases h:g=k
   ·simp_all
   ·have b:(g==k)=r_:=beq_eq_false_iff_ne.mpr h
    simp only[kX,b,if_neg (λe:g=f=>h (e.trans a.symm))]
  ·rw[if_neg a]
   by_cases h:g=k
   ·simp_all
   ·have b:(g==k)=r_:=beq_eq_false_iff_ne.mpr h
    simp only[kX,b];exact d
theorem JH(f:Str)(v:V):∀a:s_ (Str×V),f∈(FL f v a).map (·.1)/\∀g,g∈a.map (·.1)->g∈(FL f v a).map (·.1)
 |[]=>⟨by simp[FL],λg h=>by simp at h⟩
 |(k,x)::r=>by
  let⟨b,c⟩:=JH f v r;rw[show FL f v _=(if k=f then(k,v)::r else(k,x)::FL f v r)from rfl]
  grind
theorem Ja(f:Str)(v:V):∀a:s_ (Str×V),(FL f v a).length<=a.length+1
 |[]=>by simp[FL]
 |(k,x)::r=>by
  have b:=Ja f v r;rw[show FL f v _=(if k=f then(k,v)::r else(k,x)::FL f v r)from rfl]
  grind
theorem RelO.some_of{v:V}{o:t_ Db}(r:RelO (P3 v) o):∃u,o=P3 u/\RelV v u:=by
 cases o with
 |none=>exact(r).elim
 |some u=>exact⟨u,rfl,r⟩
section
variable {P:Program}{w:World}{H:Hp}{h:Heap}{a C dx:Addr}{fs:s_ (Str×V)}
theorem YJ(c:HOk P w H h)(e:H a=P3 (.ins C dx fs)):∃b,ObjM h a dx C b/\(∀f,RelO (fs.lookup f) (b f))/\PySem.Within b (fs.map (·.1))/\fs.length<=1000/\H dx=P3 (.own a):=by
 let⟨d,z,g,i,b,n,r,q⟩:=(c a _ e);exact⟨b,⟨i,n,g⟩,r,q,z,d⟩
end
structure Cls (K:Frag) (C:Ch):Prop where
 pg:PySem.W.plainGet K C Str.empty=q_
 hd:PySem.W.hasDictIn K C=q_
 po:PySem.W.plainOver K C=q_
 sa:PySem.W.findIn K (.ref C) "__setattr__"=P3 (P3 (.builtin "object.__setattr__"))
theorem Cls.get{K:Frag}{C:Ch}(c:Cls K C)(f:Str):PySem.W.plainGet K C f=q_:=c.pg
def Oc(K:Frag)(C:Ch)(f:Str):Prop:=PySem.W.findIn K (.ref C) f=P3 p_
structure gO (K:Frag) (C:Ch) (f:Str) (v:V) (u:Db):Prop where
 at_:PySem.W.findIn K (.ref C) f=P3 (P3 u)
 rel:RelV v u
 get:PySem.W.specialIn K u "__get__"=P3 p_
 cp:PySem.W.copiedNames.contains f=r_
structure gM (K:Frag) (C:Ch) (m:Str) (f:Ch):Prop where
 at_:PySem.W.findIn K (.ref C) m=P3 (P3 (.ref f))
 fn:PySem.W.isFn K (.ref f)=q_
 kp:keepIn K (.ref f)=q_
section
variable {X:Cx}{zH:s_ (Addr×Obj)}{σ:St}{H:Hp}{s:Shared}{A:Around}{E:Value->Shared->Prop}{Q:Value->Shared->Prop}{c:Value}{b:Bool}
inductive Gd (K:Frag) (H:Hp):V->Db->Prop where
 |non:Gd K H .non (.type "NoneType")
 |bl (x:Bool):Gd K H (.bl x) (.type "bool")
 |int (i:Int):Gd K H (.int i) (.type "int")
 |str (x:Str):Gd K H (.str x) (.type "str")
 |flt (x:UInt64):Gd K H (.flt x) (.type "float")
 |lst {a:Ch}{xs:List V} (e:H a=P3 (.lst xs)):Gd K H (.ref a) (.type "list")
 |frz {a:Ch}{o:Obj}{xs:List V} (e:H a=P3 (.frz o (.lst xs))):Gd K H (.ref a) (.type "list")
 |tup {a:Ch}{xs:List V} (e:H a=P3 (.tup xs)):Gd K H (.ref a) (.type "tuple")
 |dF {a:Ch}{o:Obj}{kvs:List (Key×V)} (e:H a=P3 (.frz o (.dK kvs))):Gd K H (.ref a) (.type "dict")
 |dK {a:Ch}{kvs:List (Key×V)} (e:H a=P3 (.dK kvs)):Gd K H (.ref a) (.type "dict")
 |dT {a:Ch}{kvs:List (List Key×V)} (e:H a=P3 (.dT kvs)):Gd K H (.ref a) (.type "dict")
 | ins {a C dx:Ch}{fs:List (Str×V)} (e:H a=P3 (.ins C dx fs)) (cl:Cls K C) (ha:PySem.W.findIn K (.ref C) "__class__"=P3 (P3 (.builtin "object.__class__")))
   (hn:PySem.W.specialIn K (.builtin "object.__class__") "__get__"=P3 (P3 (.builtin "getset_descriptor.__get__"))) (htk:PySem.W.takesIn K (.builtin "object.__class__")=P3 q_)
   (hm:PySem.W.mroIn K C (.type "object")=P3 q_):Gd K H (.ref a) (.ref C)
theorem UM{x:V}{u t:Db}(I:Inv X zH σ H s)(f:RelV x u)(ty:Gd X.K H x t)(e:PySem.W.kitOne X.K t c=P3 b)(h:∀F,Q (.bool b) {s with toks:=F}):
  wpAny (model X.prog X.w) A (call (.builtin "isinstance") [u,c]) Q E s:=by
 cases ty with
 |non=>cases(show u=g8 from f);exact PySem.W.kia_one PySem.W.kitx_none I.kIn ip e (λz=>nomatch z) h
 |bl y=>cases(show u=kn y from f);exact PySem.W.kia_one PySem.W.kitx_bool I.kIn ip e (λz=>nomatch z) h
 |int i=>let⟨t,q⟩:=(show ∃t,u=nY i t from f);cases q;exact PySem.W.kia_one PySem.W.kitx_int I.kIn ip e (λz=>nomatch z) h
 |str y=>let⟨t,q⟩:=(show ∃t,u=nZ y t from f);cases q;exact PySem.W.kia_one PySem.W.kitx_str I.kIn ip e (λz=>nomatch z) h
 |flt y=>let⟨t,q⟩:=(show ∃t,u=Value.float y t from f);cases q;exact PySem.W.kia_one PySem.W.kitx_float I.kIn ip e (λz=>nomatch z) h
 |@lst a l d=>
  cases(show u=gY a from f);let⟨_,_,n,_,g⟩:=(show ObjOk X.prog X.w H s.heap a (.lst l)from I.hok a _ d);exact PySem.W.kia_one PySem.W.kitx_list I.kIn ⟨_,g,rfl⟩ e (λz=>nomatch z) h
 |@frz a m l d=>
  cases(show u=gY a from f);let⟨_,_,_,n,_,g⟩:=(show ObjOk X.prog X.w H s.heap a (.frz m (.lst l))from I.hok a _ d);exact PySem.W.kia_one PySem.W.kitx_list I.kIn ⟨_,g,rfl⟩ e (λz=>nomatch z) h
 |@tup a l d=>
  cases(show u=gY a from f);let⟨_,_,_,p⟩:=(show ObjOk X.prog X.w H s.heap a (.tup l)from I.hok a _ d);let⟨o,g,k,_⟩:=p;exact PySem.W.kia_one PySem.W.kitx_tuple I.kIn ⟨o,g,k⟩ e (λz=>nomatch z) h
 |@dF a m j d=>
  cases(show u=gY a from f);let⟨_,_,_,G,_,p⟩:=(show ObjOk X.prog X.w H s.heap a (.frz m (.dK j))from I.hok a _ d);let⟨o,v,B,g,k,_⟩:=p;exact PySem.W.kia_one PySem.W.kitx_dict I.kIn ⟨o,g,k.1⟩ e (λz=>nomatch z) h
 |@dK a j d=>
  cases(show u=gY a from f);let⟨_,_,G,_,p⟩:=(show ObjOk X.prog X.w H s.heap a (.dK j)from I.hok a _ d);let⟨o,v,B,g,k,_⟩:=p;exact PySem.W.kia_one PySem.W.kitx_dict I.kIn ⟨o,g,k.1⟩ e (λz=>nomatch z) h
 |@dT a j d=>
  cases(show u=gY a from f);let⟨_,_,l,_,o,v,B,g,k,_⟩:=(show ObjOk X.prog X.w H s.heap a (.dT j)from I.hok a _ d);exact PySem.W.kia_one PySem.W.kitx_dict I.kIn ⟨o,g,k.1⟩ e (λz=>nomatch z) h
 |@ins a C P R d D L M r N=>
  cases(show u=gY a from f);let⟨S,O,_⟩:=YJ I.hok d;let⟨T,J,_⟩:=O.look;exact PySem.W.kia_one (PySem.W.kitx_own (D.get _) D.hd L M r N) I.kIn J e (λz=>nomatch z) h
end
structure Room (k:Nat) (A:gw):Prop where
 hd:A.handled=p_
 dp:A.depth+3*k+5<recursionLimit
 un:A.units+16*k+200<cLine
 gd:A.guards=P3 []
theorem Room.mono{j k:Nat}{A:gw}(r:Room k A)(h:j<=k):Room j A:=⟨r.hd,by have:=r.dp;omega,by have:=r.un;omega,by first|exact r.gd|grind|grind⟩
theorem Room.deeper{k:Nat}{A:gw}(r:Room (k+1) A)(a:Env):Room k (A.deeper a):=
 ⟨r.hd,by have:=r.dp;show A.depth+1+3*k+5<_;omega,by have:=r.un;show A.units+3+16*k+200<_;omega,by first|exact r.gd|omega|grind⟩
theorem Room.in1{k:Nat}{A:gw}(r:Room (k+1) A):Room k A.in1:=
 ⟨r.hd,by have:=r.dp;grind,by have:=r.un;grind,by first|exact r.gd|omega|grind⟩
theorem RA{A:gw}{C:Ch}{a:s_ Db}{b:s_ (Str×Db)}:(A.under (.builtin "type.__call__" ⟨.ref C::a,b⟩)).depth=A.depth+1:=by
 first|rfl|omega
theorem Q_{A:gw}{C:Ch}{a:s_ Db}{b:s_ (Str×Db)}:(A.under (.builtin "type.__call__" ⟨.ref C::a,b⟩)).units=A.units+1:=by
 first|rfl|omega
theorem Room.make{k:Nat}{A:gw}(r:Room (k+1) A)(C:Ch)(a:s_ Db)(b:s_ (Str×Db)):Room k (A.under (.builtin "type.__call__" ⟨.ref C::a,b⟩)):=
 ⟨r.hd,by have:=r.dp;rw[RA];omega,by have:=r.un;rw[Q_];omega,by first|exact r.gd|omega|grind⟩
theorem Room.depth{k:Nat}{A:gw}(r:Room k A):A.depth<recursionLimit:=by have:=r.dp;omega
theorem Room.units{k:Nat}{A:gw}(r:Room k A):A.units+64<cLine:=by have:=r.un;omega
theorem Room.units0{k:Nat}{A:gw}(r:Room k A):A.units<cLine:=by have:=r.un;omega
def Xi:TA:=λ_ H Q=>Q [] H
def Ro(b:TE)(c:TA):TA:=λa H Q=>b a H λx d=>c a d λe H2=>Q (x::e) H2
section
variable {X:Cx}{e:Expr}{es:s_ Expr}{te:TE}{t:TA}{pos:Pos}
theorem B6:PA X [] Xi:=λ_ _ _ _ H Q I h=>ji ⟨[],H,I,.nil,h⟩
theorem BF(b:PE X e te)(c:PA X es t)(d:starEach (e::es) X.env=(r_,eval e X.env)::starEach es X.env:=by rfl):PA X (e::es) (Ro te t):=by
 intro f p s a H Q I h;rw[d];exact jI (thn (b _ s a H _ I h) λu g ⟨x,i,j,k,l⟩=>thn (c _ _ g a i _ j l) λq r ⟨v,H2,m,n,o⟩=>⟨_,H2,m,.cons k n,o⟩)
def eW(t:TA):TE:=λc H Q=>t c H λa b=>a.length<=sizeLine/\∀p,b p=p_->Q (.ref p) (A2 b p (.tup a))
def eh(t:TA):TE:=λc H Q=>t c H λa b=>a.length<=sizeLine/\∀p,b p=p_->Q (.ref p) (A2 b p (.lst a))
theorem Vq{x1}(h:PA X es t):PE X (.Tuple es x1 pos) (eW t):=by
 intro f s g H Q I i;refine wpAny_Tuple_spliced (thn (h pos f s g H _ I i) λj a ⟨k,c,d,r,z,q⟩=>⟨by rw[←r.length];exact z,?_⟩);have l:c a.heap.objs.size=p_:=d.hok.fresh (On _);refine⟨.ref a.heap.objs.size,A2 c a.heap.objs.size (.tup k),d.laid (t':=a.toks) (λb u e=>Ev _ e) (On _) ?_,rfl,q _ l⟩;exact⟨z,j,r,IsTupN.new _ _⟩
theorem Iz(h:PA X es t):PE X (.List es pos) (eh t):=by
 intro f s g H Q I i;refine wpAny_List_spliced (thn (h pos f s g H _ I i) λj a ⟨k,c,d,r,z,q⟩=>⟨by rw[←r.length];exact z,?_⟩);have l:c a.heap.objs.size=p_:=d.hok.fresh (On _);refine⟨.ref a.heap.objs.size,A2 c a.heap.objs.size (.lst k),d.laid (t':=a.toks) (λb u e=>Ev _ e) (On _) ?_,rfl,q _ l⟩;exact⟨z,j,0,r,XV _ rfl⟩
end
abbrev Sp:=s_ V->Hp->VK->XK->Prop
abbrev Ur:=s_ Env->Hp->Go->XK->Db->Go->Prop
structure Env0 (P:gi) (w:gn) (K:Frag) (mg:Str->Option Db) (base:gf) (A:gw) (outer:List Env) (s:Go) (H:Hp):Prop where
 frames:A.frames=P3 outer
 mod:Mod K mg base
 bs:∀b o,base.get? b=P3 o->s.heap.get? b=P3 o/\H b=p_
 bsz:base.objs.size<=s.heap.objs.size
 funs:s.heap.FunFrames base outer
 frf:∀b∈Ml outer,H b=p_
 hok:HOk P w H s.heap
 bare:kE s.gens
def CE(a:s_ Env)(P:gi)(w:gn)(H:Hp)(s:Go)(Q:VK)(u:Db)(b:Go):Prop:=
 ∃v c,b.os=s.os/\kE b.gens/\Un (Ml a) [] H c s.heap b.heap/\HOk P w c b.heap/\RelV v u/\Q v c
def CR(c:Ur)(a:s_ Env)(P:gi)(w:gn)(H:Hp)(s:Go)(Q:VK)(E:XK)(r:Result)(b:Go):Prop:=
 match r with
 |.ok (.ret u)=>CE a P w H s Q u b
 |.ok _=>False
 |.error e=>c a H s E e b
structure A3 (P:gi) (w:gn) (K:Frag) (mg:Str->Option Db) (base:gf) (CX:Ur) (k:Nat) (f:Ch) (fd:hU) (ps:List Str) (sp:Sp):Prop where
 len:∀vs H Q E,sp vs H Q E->vs.length=ps.length
 run:∀(A:gw) (outer:List Env) (s:Go) (H:Hp) (args:Args) (us:List Db) (vs:List V) (Q:VK) (E:XK),Room k A->Env0 P w K mg base A outer s H->lj s fd args (ps.zip us)->Vals vs us->sp vs H Q E->
  codeAny (model P w) A (.call (.ref f) args) (CR CX outer P w H s Q E) s
theorem Env0.make{P:gi}{w:gn}{K:Frag}{c:Str->t_ Db}{b:gf}{A:gw}{a:s_ Env}{s:Go}{H:Hp}(e:Env0 P w K c b A a s H)(C:Ch)(d:s_ Db)(f:s_ (Str×Db)):
  Env0 P w K c b (A.under (.builtin "type.__call__" ⟨.ref C::d,f⟩)) a s H:=⟨by first|exact e.frames|grind,e.mod,e.bs,e.bsz,e.funs,e.frf,e.hok,e.bare⟩
theorem Env0.in1{P:gi}{w:gn}{K:Frag}{c:Str->t_ Db}{b:gf}{A:gw}{a:s_ Env}{s:Go}{H:Hp}(e:Env0 P w K c b A a s H):
  Env0 P w K c b A.in1 a s H:=⟨e.frames,e.mod,e.bs,e.bsz,e.funs,e.frf,e.hok,e.bare⟩
section
variable {X:Cx}{zH:s_ (Addr×Obj)}{σ:St}{H:Hp}{s s':Shared}
theorem Inv.env0(I:Inv X zH σ H s):Env0 X.prog X.w X.K X.mg X.base X.A X.stack s H:=
 ⟨I.ok.frames,I.ok.mod,I.bs,gc I.ok.bsz I.sz,I.stack,I.stkFree,I.hok,I.bare⟩
theorem Inv.after{Q:VK}{u:Db}(I:Inv X zH σ H s)(h:CE X.stack X.prog X.w H s Q u s'):EP X zH σ Q u s':=by
 let⟨v,f,i,a,j,c,r,q⟩:=h;let⟨k,g,d,t,e⟩:=s';obtain rfl:e=s.os:=i;exact⟨v,f,I.call j c a (λb z=>absurd z (by simp)),r,q⟩
end
def VC(b:Sp)(a:s_ V)(E:XK)(t:TA):TE:=λc H Q=>t c H λd e=>b (d++a) e Q E
def Binds(K:Frag)(fd:hU)(b:s_ Str)(c:s_ Db):Prop:=
 ∀(s:Go) (a:s_ Db),K.In s.heap->(a++c).length=b.length->lj s fd ⟨a,[]⟩ (b.zip (a++c))
theorem Binds.all{K:Frag}{fd:hU}{b:s_ Str}(h:∀a:s_ Db,a.length=b.length->bindArgs fd ⟨a,[]⟩=pure (b.zip a)):Binds K fd b []:=λs a _ c=>by
 rw[gq]at c ⊢;exact .of_eq (h a c)
def JV(b:Ur)(X:Cx)(E:XK):Prop:=∀(c:s_ (Ch×Obj)) (d:St) (H:Hp) (s:Go) (e:Db) (a:Go),Inv X c d H s->b X.stack H s E e a->X.xe e a
section
variable {X:Cx}{CX:Ur}{k:Nat}{f C:Addr}{fd:FuncData}{ps:s_ Str}{sp:Sp}{dvs:s_ V}{ds:s_ Value}{E:XK}{x:Str}{p pos:Pos}{e:Expr}{es:s_ Expr}{t:TA}
theorem Zv{d:s_ (Ch×Obj)}{g:St}{H:Hp}{s:Go}{Q:VK}{a:s_ Db}{c:s_ V}(F:A3 X.prog X.w X.K X.mg X.base CX k f fd ps sp)(j:Room k X.A)(l:Binds X.K fd ps ds)(m:Vals dvs ds)(n:JV CX X E)
  (I:Inv X d g H s) (r:Vals c a) (h:sp (c++dvs) H Q E):wpAny (model X.prog X.w) X.A (call (.ref f) a) (EP X d g Q) X.xe s:=by
 have i:Vals (c++dvs) (a++ds):=r.append m;have o:(a++ds).length=ps.length:=by rw[←i.length];exact F.len _ _ _ _ h
 refine jj (kG (F.run X.A X.stack s H ⟨a,[]⟩ (a++ds) (c++dvs) Q E j I.env0 (l s a I.kIn o) i h) λr q b=>?_);cases r with
 |error e=>exact n d g H s e q I b
 |ok v=>
  cases v with
  |ret u=>exact I.after b
  |next=>exact iZ b
  |brk=>exact iZ b
  |cont=>exact iZ b
theorem Nl(F:A3 X.prog X.w X.K X.mg X.base CX k f fd ps sp)(d:Room k X.A)(g:Gl X x)(i:X.mg x=P3 (.ref f))(j:keepIn X.K (.ref f)=q_)(l:Binds X.K fd ps ds)(m:Vals dvs ds)(n:JV CX X E)
  (o:PA X (e::es) t) (a:(x==("__debug__":Str))=r_:=by decide) (u:starEach (e::es) X.env=(r_,eval e X.env)::starEach es X.env:=by rfl) (b:(backTo pos (starEach es X.env)).any (·.1)=r_:=by rfl):
  PE X (.Call (.Name x p) (e::es) [] pos) (VC sp dvs E t):=λy s v H Q I h=>ia (GK I g i (PySem.W.callWith_K I.ok.mod.kin j (thn (o _ _ s v H _ I h) λz B ⟨D,G,c,r,q⟩=>⟨c.kIn,Zv F d l m n c r q⟩) u b) a)
structure Mk (K:Frag) (C f:Ch):Prop where
 makes:PySem.W.makesIn K C=q_
 init:PySem.W.findIn K (.ref C) "__init__"=P3 (P3 (.ref f))
 fn:PySem.W.isFn K (.ref f)=q_
 kp:keepIn K (.ref C)=q_
end
section
variable {fd:FuncData}{ps ks:s_ Str}
structure fV (K:Frag) (fd:hU) (ps ks:List Str) (g:List Db->List Db->List Db) (gV:List V->List V->List V):Prop where
 to:∀(s:Go) (us ws:List Db),K.In s.heap->(g us ws).length=ps.length->lj s fd ⟨us,ks.zip ws⟩ (ps.zip (g us ws))
 rel:∀{vs:List V}{us:List Db}{zs:List V}{ws:List Db},Vals vs us->Vals zs ws->Vals (gV vs zs) (g us ws)
end
structure Ac (N P:List Str) (sc:jN):Prop where
 kind:sc.kind=.function
 co:sc.isCoroutine=r_
 gen:sc.isGenerator=r_
 nd:N.Nodup
 pre:N.take P.length=P
 par:∀x∈P,sc.names.lookup x=P3 .local\/sc.names.lookup x=P3 .cell
 nofree:∀y∈sc.names,y.2≠.free
theorem Mw{a:Str->t_ jU}{x:Str}:∀{binds:s_ (Str×Db)}{m:Str->t_ Db},(∀v,(x,v)∉binds)->bindL a binds m x=m x
 |[],_,_=>rfl
 |(n,v)::r,m,h=>by
  unfold bindL;rw[Mw λw b=>h w (Rs _ b)]
  split
  ·grind
  ·rfl
theorem Mz{a:Str->t_ jU}{x:Str}:∀{binds:s_ (Str×Db)}{m:Str->t_ Db},(∀v,(x,v)∉binds)->bindC a binds m x=m x
 |[],_,_=>rfl
 |(n,v)::r,m,h=>by
  unfold bindC;rw[Mz λw b=>h w (Rs _ b)]
  split
  ·rfl
  grind
theorem Mx{a:Str->t_ jU}{x:Str}{v:Db}:∀{P:s_ Str}{b:s_ Db}{i:Nat}{m:Str->t_ Db},P.Nodup->P[i]?=P3 x->b[i]?=P3 v->a x=P3 .local->
  bindL a (P.zip b) m x=P3 v
 |[],_,_,_,_,h,_,_=>by simp at h
 |_::_,[],_,_,_,_,h,_=>by simp at h
 |p::P,w::b,0,m,c,d,e,f=>by
  simp at d e;subst d;subst e
  show bindL a ((p,w)::P.zip b) m p=_;unfold bindL;rw[Mw λv g=>(gk.mp c).1 (lR g).1,if_pos f];simp
 |p::P,w::b,i+1,m,c,d,e,f=>by
  unfold bindL;exact Mx (i:=i) (gk.mp c).2 (by simp_all) (by simp_all) f
theorem M5{a:Str->t_ jU}{x:Str}{v:Db}:∀{P:s_ Str}{b:s_ Db}{i:Nat}{m:Str->t_ Db},P.Nodup->P[i]?=P3 x->b[i]?=P3 v->a x≠P3 .local->
  bindC a (P.zip b) m x=P3 v
 |[],_,_,_,_,h,_,_=>by simp at h
 |_::_,[],_,_,_,_,h,_=>by simp at h
 |p::P,w::b,0,m,c,d,e,f=>by
  simp at d e;subst d;subst e
  show bindC a ((p,w)::P.zip b) m p=_;unfold bindC;rw[Mz λv g=>(gk.mp c).1 (lR g).1,if_neg f];simp
 |p::P,w::b,i+1,m,c,d,e,f=>by
  unfold bindC;exact M5 (i:=i) (gk.mp c).2 (by simp_all) (by simp_all) f
def start(N:s_ Str)(a:s_ V):St:=a.map P3++Uf (N.length - a.length) p_
def HN(i:Ur)(P:gi)(w:gn)(K:Frag)(mg:Str->t_ Db)(base:gf)(N:s_ Str)(c:Str)(a:jN)(f:Ch)(h:Db)(A:gw)(outer:s_ Env)(s:Go)(H:Hp)(E:XK):Cx where
 prog:=P
 w:=w
 K:=K
 mg:=mg
 base:=base
 A:=A.deeper (envOfC c a s.heap.objs.size f h)
 N:=N
 s₀:=s
 H₀:=H
 env:=envOfC c a s.heap.objs.size f h
 outer:=outer
 stack:=envOfC c a s.heap.objs.size f h::outer
 ex:=[]
 calm:=q_
 fn:=λ_=>q_
 pn:=[]
 xe:=λe k=>wpAny (model P w) (A.deeper (envOfC c a s.heap.objs.size f h)) (leaving (envOfC c a s.heap.objs.size f h) e) (λ_ g=>i outer H s E e g) (λl g=>i outer H s E l g) k
theorem QG{a:jN}{n:Nat}{x:Str}(h:a.names.lookup x=P3 .cell):∃c,(cellsFrom n a.names []).lookup x=P3 c:=by
 have q:=PySem.W.cellsFrom_some a.names n [] (.inl h);exact Option.isSome_iff_exists.mp q
theorem UO{Q:Ur}{P:gi}{w:gn}{K:Frag}{M:Str->t_ Db}{m:gf}{N t:s_ Str}{j:Str}{d:jN}{f:Ch}{I:Db}{A:gw}{g:s_ Env}{s R:Go}{H:Hp}{E:XK}{O:s_ Db}{B:s_ V}
  (S:Ac N t d) (W:A.handled=p_) (o:Env0 P w K M m A g s H) (hl:B.length=t.length) (r:Vals B O)
  (x:InCallC s s.heap.objs.size (bindL (envOfC j d s.heap.objs.size f I).kindOf (t.zip O) λ_=>p_) (cellsFrom (s.heap.objs.size+1) d.names []) (bindC (envOfC j d s.heap.objs.size f I).kindOf (t.zip O) λ_=>p_) R):
  Inv (HN Q P w K M m N j d f I A g s H E) [] (start N B) H R:=by
 have X:t.length<=N.length:=by have:=congrArg kY S.pre;rw[jA]at this;omega
 let⟨J,tk,rfl,T⟩:=x.done;have C:∀b:Ch,b∉(HN Q P w K M m N j d f I A g s H E).ex:=λb z=>absurd (show b∈([]:s_ Ch)from z) (by simp)
 exists⟨o.mod,S.kind,rfl,rfl,On _,λy z c J l=>?_,λy D=>?_,λy c _ h=>?_,λ_=>W,Around.frames_deeper o.frames,.inr ⟨rfl,rfl⟩,λb z=>absurd z (C b),o.bs,o.bsz,λb _ _=>C b,λb z=>absurd z (C b),o.funs,o.frf⟩,
  rfl,o.bare,Un.kept T,⟨_,x.toInCall.ns,λi y v J l h3=>?_⟩,λy c h=>⟨_,x.cell y c h⟩,o.hok.fresh (On _),λy c h=>?_,λp F=>absurd (show p∈([]:s_ (Ch×Obj))from F) (by simp),o.hok.kept T
 ·exact name_of_addr x.apart (PySem.mem_of_lookup J) (PySem.mem_of_lookup l)
 ·have D:d.names.lookup y=P3 .cell\/d.names.lookup y=P3 .free:=D
  rcases D with D|D
  ·exact QG D
  ·exact absurd rfl (S.nofree _ (PySem.mem_of_lookup D))
 ·exact mS (x.above y c (PySem.mem_of_lookup h))
 ·have L:i<B.length:=by
   unfold start at l
   by_cases L:i<B.length
   ·exact L
   ·rw[iC (by simpa using L)]at l
    rw[kz]at l
    split at l <;>cases l
  have Y:B[i]?=P3 v:=by
   unfold start at l;rw[iR (by simpa using L),gR]at l;cases e:B[i]? with
   |none=>rw[e]at l;cases l
   |some a=>rw[e]at l;cases l;rfl
  let⟨u,U,Z⟩:=r.get Y
  have F:t[i]?=P3 y:=by
   rw[←S.pre,List.getElem?_take_of_lt (by omega)];exact J
  have G:t.Nodup:=by rw[←S.pre];exact S.nd.sublist (List.take_sublist _ _)
  exists u,Z
  rcases S.par y (iS F)with k|k
  ·exact .inl ⟨k,Mx G F U k⟩
  ·let⟨c,e⟩:=QG (n:=s.heap.objs.size+1) k
   refine .inr ⟨.inl k,c,e,?_⟩;have q:=x.cell y c e;rw[M5 G F U (by show d.names.lookup y≠_;rw[k];decide)]at q;exact q
 ·exact o.hok.fresh (mS (x.above y c (PySem.mem_of_lookup h)))
 ·unfold start
  show _=N.length;rw[eq,No,nF];omega
theorem ZH{L:Ur}{P:gi}{w:gn}{K:Frag}{M:Str->t_ Db}{h:gf}{k:Nat}{f:Ch}{name d:Str}{i:Arguments}{j:s_ gm}{a:jN}{dV kV C pm g ct oc:Db}{an od:t_ Ch}
  {T:Array (t_ Db)}{N O:s_ Str}{U:Sp} (lk:K.lookup f=P3 ⟨oc,od,.func (fnOf name d i j a dV kV C pm an g ct),T⟩) (X:codeIn K g d=q_) (S:Ac N O a)
  (len:∀l H Q E,U l H Q E->l.length=O.length)
  (p:∀(A:gw) (c:s_ Env) (s:Go) (H:Hp) (l:s_ V) (Q:VK) (E:XK),Room k (A.deeper (envOfC d a s.heap.objs.size f g))->U l H Q E->
   ∃t,PSs (HN L P w K M h N d a f g A c s H E) j t/\t {nx:=λ_ m=>Q .non m,rt:=Q} (start N l) H):
  A3 P w K M h L (k+1) f (fnOf name d i j a dV kV C pm an g ct) O U:=by
 refine⟨len,λA c s H a0 us l Q E Y D hb r F=>?_⟩;have hl:=len _ _ _ _ F;have KX:K.In s.heap:=D.mod.kin.keeps λb o e=>(D.bs b o e).1;have Z:s.heap.NoLimit:=D.mod.nolimit.keeps λb o e=>(D.bs b o e).1
 have z:∀y∈O.zip us,a.names.lookup y.1=P3 .local\/(a.names.lookup y.1=P3 .cell/\((cellsFrom (s.heap.objs.size+1) a.names []).lookup y.1).isSome=q_):=fun⟨n,v⟩ hy=>by
  rcases S.par n (lR hy).1 with q|q
  ·exact .inl q
  ·exact .inr ⟨q,PySem.W.cellsFrom_some _ _ _ (.inl q)⟩
 refine codeAny_call_function Y.depth (KX _ _ lk) rfl S.co S.gen rfl (PySem.W.codeRec_of KX X) (hb _ _ _ _ ?_);refine wpAny_newFunctionEnv_cells S.kind z λa1 he s1 x=>?_;subst he;refine⟨Z.keeps x.toInCall.keep,codeAny_func ?_⟩;let⟨t,ht,hq⟩:=p A c s H l Q E (Y.deeper _) F;have I:Inv (HN L P w K M h N d a f g A c s H E) [] (start N l) H s1:=UO S Y.hd D hl r x;refine g9 (ht [] s1 (start N l) H _ I hq) (λfl s' B=>?_) λe s' B=>B
 have G:∀{R:St}{m:Hp}{v:V}{u:Db},Inv (HN L P w K M h N d a f g A c s H E) [] R m s'->RelV v u->Q v m->CE c P w H s Q u s':=
  λ{R m v u} J rv q=>⟨v,m,J.os,J.bare,J.base,J.hok,rv,q⟩
 cases fl with
 |ret u=>
  let⟨v,R,m,J,rv,q⟩:=B;exact G J rv q
 |next=>
  let⟨R,m,J,q⟩:=B;exact G (v:=V.non) (u:=g8) J rfl q
 |brk=>
  let⟨_,_,_,q⟩:=B;exact iZ q
 |cont=>
  let⟨_,_,_,q⟩:=B;exact iZ q
section
variable {X:Cx}{x:Str}{p pos:Pos}{e:Expr}{es:s_ Expr}{t:TA}{id T:String}{r:s_ V->Hp->VK->Prop}
def d_(r:s_ V->Hp->VK->Prop)(t:TA):TE:=λa H Q=>t a H λb c=>r b c Q
theorem Fc(d:Co X (.builtin id) r)(f:Gl X x)(g:X.mg x=p_)(i:bootBuiltins x=P3 (.builtin id))(j:PA X (e::es) t)(k:x ≠ "__name__":=by decide)(a:(x==("__debug__":Str))=r_:=by decide)
  (l:starEach (e::es) X.env=(r_,eval e X.env)::starEach es X.env:=by rfl) (b:(backTo pos (starEach es X.env)).any (·.1)=r_:=by rfl):PE X (.Call (.Name x p) (e::es) [] pos) (d_ r t):=λy s c H Q I h=>ia (EQ I f g i (PyProof.Rows.callWith_builtin1 (thn (j _ _ s c H _ I h) λm n ⟨o,q,u,v,w⟩=>d _ n c q o m Q u v w) l b) k a)
theorem Ma(d:Co X (.type T) r)(f:Gl X x)(g:X.mg x=p_)(i:bootBuiltins x=P3 (.type T))(j:PA X (e::es) t)(k:x ≠ "__name__":=by decide)(a:(x==("__debug__":Str))=r_:=by decide)
  (l:starEach (e::es) X.env=(r_,eval e X.env)::starEach es X.env:=by rfl) (b:(backTo pos (starEach es X.env)).any (·.1)=r_:=by rfl):PE X (.Call (.Name x p) (e::es) [] pos) (d_ r t):=λy s c H Q I h=>ia (EQ I f g i (iW (thn (j _ _ s c H _ I h) λm n ⟨o,q,u,v,w⟩=>d _ n c q o m Q u v w) l b) k a)
end
end L2
namespace HT
section
variable {prog:Program}{w:World}{A:Around}{E:Value->Shared->Prop}{s:Shared}
theorem cat_tup{t b:Ch}{d c:s_ Db}{Q:Db->Go->Prop}(u:IsTup s.heap t d.toArray)(v:IsTup s.heap b c.toArray)(z:d≠[])
  (x:c=[]->Q (.ref t) s) (B:c≠[]->Q (.ref s.heap.objs.size) {s with heap:=s.heap.push {cls:=.type "tuple",data:=.seq (d++c).toArray}})
  (y:d.length+c.length<=sizeLine):wpAny (model prog w) A (binaryOp .Add (.ref t) (.ref b)) Q E s:=by
 let⟨⟨cls,k,data,l⟩,i,m,n,o⟩:=id u;let⟨⟨p,e,j,f⟩,a,g,q,h⟩:=id v;simp only at m o g h;subst m o g h
 by_cases r:c=[]
 ·exact concat_meets ⟨_,i,rfl⟩ ⟨_,a,rfl⟩ mU seq_tuple_add PySem.F.slot_tuple_add PySem.F.entry_tuple_add (PySem.F.args_tuple_add_2 _ _)
   (tuple_addW1 t b d.toArray c.toArray n q k e l f (by simp_all) (by simp[r])) ⟨i,a,x r⟩
 ·refine concat_meets ⟨_,i,rfl⟩ ⟨_,a,rfl⟩ mU seq_tuple_add PySem.F.slot_tuple_add PySem.F.entry_tuple_add (PySem.F.args_tuple_add_2 _ _)
   (tuple_addW2 t b d.toArray c.toArray n q k e l f (by grind) (by grind) (by omega)) ⟨i,a,?_⟩
  simp_all
def sIx(n d:Nat):t_ Int->Nat
 |none=>d
 |some v=>if v<0 then(v+(n:Int)).toNat else min v.toNat n
theorem sIx_none(n d:Nat):sIx n d p_=d:=rfl
theorem sIx_nat(n d k:Nat):sIx n d (P3 (k:Int))=min k n:=by
 show(if k<0 then((k:Int)+n).toNat else min _ n)=min k n;rw[if_neg (by omega),j8]
theorem Zu(n d:Nat)(a:d<=n)(o:t_ Int):sIx n d o<=n:=by
 cases o with
 |none=>exact a
 |some v=>
  show(if v<0 then(v+n).toNat else min _ n)<=n
  grind
theorem Sq(v:Int)(n d:Nat):(if v<0 then max (v+(n:Int)) 0 else min v (n:Int))=((sIx n d (P3 v):Nat):Int):=by
 show(if v<0 then max _ 0 else min v _)=(if v<0 then(v+n).toNat else min _ n)
 grind
theorem RX(a b:t_ Int)(n:Nat):jk a b 1 (n:Int)=(((sIx n 0 a:Nat):Int),((sIx n n b:Nat):Int)):=by
 refine Prod.ext ?_ ?_
 ·cases a with
  |none=>rfl
  |some v=>exact Sq v n 0
 ·cases b with
  |none=>rfl
  |some v=>exact Sq v n n
theorem Qv(i j:Nat):i6 (i:Int) (j:Int) 1=j - i:=by
 unfold i6
 grind
theorem slicePart_{v:Db}{o:t_ Int}{Q:t_ Int->Go->Prop}(p:lS v o)(h:Q o s):wpAny (model prog w) A (Builtin.Slice.slicePartIndex v) Q E s:=by
 cases p with
 |none=>exact slicePart_none h
 |int i t=>exact slicePart_int h
theorem sliceApplied_gen{g:Ch}{e f:Db}{a d:t_ Int}{n:Nat}{Q:Int×Int×Nat->Go->Prop}(i:s.heap.IsSliceOf g e f .none)(j:lS e a)(k:lS f d)
  (h:Q (((sIx n 0 a:Nat):Int),1,sIx n n d - sIx n 0 a) s):wpAny (model prog w) A (mB (.ref g) (pure (n:Int))) Q E s:=by
 let⟨m,b,l,c⟩:=id i;refine Cn (Cn (iD b c (x:=e) rfl (Cn (iD b c (x:=f) rfl (Cn (iD b c (x:=.none) rfl (Sc ?_)))))));refine Cn (slicePart_none ?_);refine Cn (slicePart_ j (Cn (slicePart_ k (Cn (Sc ?_)))));show wpAny _ _ (match jk a d 1 (n:Int)with|(a,d)=>pure (a,(1:Int),i6 a d 1)) _ _ s;rw[RX a d n];show wpAny _ _ (pure _) _ _ s;rw[Qv];exact Sc h
theorem Vi(a:Array Db)(i k:Nat):((gs k).filterMap fun(m:Nat)=>a[((i:Int)+(m:Int)*1).toNat]?).toArray=((a.toList.drop i).take k).toArray:=by
 have e:(fun(m:Nat)=>a[((i:Int)+(m:Int)*1).toNat]?)=λm=>a[i+m]?:=by
  grind
 rw[e]
 have:=pick_run a i k
 rw[lv]at this;have b:((λx=>a[x]?)∘λx=>i+x)=λm=>a[i+m]?:=rfl
 grind
theorem getItem_tuple_cut{t g:Ch}{a:Array Db}{n o:Db}{c d:t_ Int}{Q:Db->Go->Prop}(f:IsTup s.heap t a)(p:s.heap.IsSliceOf g n o .none)(q:lS n c)(r:lS o d)
  (y:¬(sIx a.size 0 c=0/\sIx a.size a.size d=a.size))
  (h:Q (.ref s.heap.objs.size) {s with heap:=s.heap.push {cls:=.type "tuple",data:=.seq ((a.toList.drop (sIx a.size 0 c)).take (sIx a.size a.size d - sIx a.size 0 c)).toArray}})
  (u:a.size<=sizeLine):wpAny (model prog w) A (getItem (.ref t) (.ref g)) Q E s:=by
 have e:sizeOk (.seq ((a.toList.drop (sIx a.size 0 c)).take (sIx a.size a.size d - sIx a.size 0 c)).toArray):=by
  show((a.toList.drop (sIx a.size 0 c)).take (sIx a.size a.size d - sIx a.size 0 c)).toArray.size<=sizeLine;rw[gQ,jA,mV,iz];omega
 have z:sIx a.size a.size d<=a.size:=Zu _ _ (On _) d;let⟨v,i,j,x⟩:=id p;have k:s.TypeIs (.ref g) "slice":=⟨v,i,j⟩;unfold getItem
 try with_reducible refine iP ?_
 first|refine Cn (Sc ?_)|skip
 refine Cn (mG f.typeIs (by decide) ?_)
 refine Cn (io (name:=iG "__getitem__") f.typeIs gz
  (jV gz f.typeIs lh ?_ (lw _ _)))
 show wpAny _ _ (kR (.ref t) >>=_) _ _ s;refine Cn (tupleItemsOf_ f ?_);refine Cn (kH k ?_);rw[if_pos (by decide)];refine Cn (sliceApplied_gen p q r ?_)
 have l:¬((((sIx a.size 0 c:Nat):Int)==0&&(1:Int)==1&&(sIx a.size a.size d - sIx a.size 0 c)==a.size)=q_):=by
  grind
 show wpAny _ _ (if(((sIx a.size 0 c:Nat):Int)==0&&(1:Int)==1&&(sIx a.size a.size d - sIx a.size 0 c)==a.size)=q_ then _ else _) _ _ s;rw[if_neg l,Vi]
 first
  |exact Cn (m:=jp _) (iu (Sc ⟨_,rfl,Sc h⟩) e)
  |grind
  |grind
  |grind
end
end HT
namespace L2
abbrev TO:=St->Hp->(t_ Int->Hp->Prop)->Prop
def PO(X:Cx)(e:t_ gj)(t:TO):Prop:=
 ∀(b:s_ (Ch×Obj)) (s:Go) (a:St) (H:Hp) (Q:t_ Int->Hp->Prop),Inv X b a H s->t a H Q->
  wpAny (model X.prog X.w) X.A (evalPart e X.env) (λu d=>∃o c,Inv X b a c d/\lS u o/\Q o c) X.xe s
def Xh:TO:=λ_ H Q=>Q p_ H
def cA(t:TE):TO:=λa H Q=>t a H λx b=>∃i,x=.int i/\Q (P3 i) b
section
variable {X:Cx}{e:Expr}{te:TE}{lo hi:t_ Expr}{tl th:TO}{pos p2:Pos}
theorem R8:PO X p_ Xh:=λa s b H Q I h=>Sc ⟨_,H,I,.none,h⟩
theorem R7(h:PE X e te):PO X (P3 e) (cA te):=by
 intro j s a H Q I b;refine thn (h _ s a H _ I b) λu k ⟨x,c,d,f,g⟩=>?_;let⟨i,rfl,q⟩:=g;let⟨t,rfl⟩:=f;exact⟨_,c,d,.int i t,q⟩
def SlR(X:Cx)(r:V->t_ Int->t_ Int->Hp->VK->Prop):Prop:=
 ∀(a:s_ (Ch×Obj)) (s:Go) (b:St) (H:Hp) (x:V) (v c d:Db) (lo hi:t_ Int) (e:Ch) (Q:VK),Inv X a b H s->RelV x v->s.heap.IsSliceOf e c d .none->lS c lo->lS d hi->r x lo hi H Q->
  ∃T f,typeLookup (.type T) "__getitem__"=pure (P3 (.builtin f))/\s.TypeIs v T/\wpAny (model X.prog X.w) X.A (getItem v (.ref e)) (EP X a b Q) X.xe s
theorem SlR.or{r a:V->t_ Int->t_ Int->Hp->VK->Prop}(h:SlR X r)(k:SlR X a):SlR X (λx lo hi H Q=>r x lo hi H Q\/a x lo hi H Q):=by
 intro l s b H x v c d lo hi e Q I f g i j q
 rcases q with q|q
 ·exact h _ s b H x v c d lo hi e Q I f g i j q
 ·exact k _ s b H x v c d lo hi e Q I f g i j q
def gB(r:V->t_ Int->t_ Int->Hp->VK->Prop)(te:TE)(tl th:TO):TE:=λa H Q=>te a H λx b=>tl a b λl H2=>th a H2 λu c=>r x l u c Q
theorem PJ{r:V->t_ Int->t_ Int->Hp->VK->Prop}(j:SlR X r)(k:PE X e te)(m:PO X lo tl)(n:PO X hi th):PE X (.Subscript e (.Slice lo hi p_ p2) pos) (gB r te tl th):=by
 intro c s d H Q I h;refine Subscript_ (thn (k c s d H _ I h) λv o ⟨x,p,t,y,z⟩=>?_);refine wpAny_Slice (thn (m c o d p _ t z) λf B ⟨l,H2,C,D,E⟩=>thn (n c B d H2 _ C E) λg a ⟨u,i,F,G,J⟩=>?_);rw[evalPart_none];refine Sc ?_;have K:Inv X c d i {a with heap:=a.heap.push {cls:=.type "slice",data:=.fields #[f,g,.none]}}:=F.kept (t':=a.toks) λb O q=>Ev _ q;let⟨T,P,L,M,N⟩:=j c {a with heap:=a.heap.push {cls:=.type "slice",data:=.fields #[f,g,.none]}} d i x v f g l u a.heap.objs.size Q K y (nh ..) D G J;show wpAny (model X.prog X.w) X.A (subscriptTail e (.Slice lo hi p_ p2) v (.ref a.heap.objs.size)) (EP X c d Q) X.xe {a with heap:=a.heap.push {cls:=.type "slice",data:=.fields #[f,g,.none]}};exact tail_any (ops:=[.ref a.heap.objs.size,v]) M L N (by with_unfolding_all rfl)
def P_(a:s_ V)(lo hi:t_ Int):s_ V:=(a.drop (HT.sIx a.length 0 lo)).take (HT.sIx a.length a.length hi - HT.sIx a.length 0 lo)
theorem Jl(a:s_ V)(lo hi:t_ Int):(P_ a lo hi).length<=a.length:=by
 unfold P_
 grind
def cQ(K:Frag):V->t_ Int->t_ Int->Hp->VK->Prop:=λx lo hi H Q=>∃a b,x=.ref a/\SqT K H a b /\
 ¬(HT.sIx b.length 0 lo=0/\HT.sIx b.length b.length hi=b.length)/\∀p,H p=p_->Q (.ref p) (A2 H p (.tup (P_ b lo hi)))
theorem sl_tup:SlR X (cQ X.K):=by
 intro n s o H x v p t lo hi u Q I g i j k h;let⟨a,e,rfl,l,w,q⟩:=h;cases g;let⟨d,r,f,m⟩:=I.tuple l;have c:d.toArray.size=e.length:=by exact r.length.symm
 exists _,_,gz.lookup,f.typeIs;refine HT.getItem_tuple_cut f i j k (by grind) ?_ (by simp_all);rw[c];refine⟨.ref _,_,I.laid (λb y q=>Ev _ q) (On _) ?_,rfl,q _ (I.hok.fresh (On _))⟩;exact⟨gc (Jl e lo hi) m,_,(r.drop _).take _,IsTupN.new _ _⟩
def VZ(K:Frag):R2:=λx y H Q=>∃a b d c,x=.ref a/\y=.ref b/\SqT K H a d/\SqT K H b c/\d≠[]/\d.length+c.length<=sizeLine /\
 (c=[]->Q (.ref a) H)/\(c≠[]->∀p,H p=p_->Q (.ref p) (A2 H p (.tup (d++c))))
theorem Vals.nil_iff{a:s_ V}{b:s_ Db}(r:Vals a b):b=[]↔a=[]:=by
 cases r with
 |nil=>simp
 |cons _ _=>simp
theorem op_catT:OpR X (binaryOp .Add) (VZ X.K):=by
 intro r s t H x y v u Q I f g h;let⟨a,b,A,B,rfl,rfl,i,j,k,l,m,n⟩:=h;cases f;cases g;let⟨o,d,p,_⟩:=I.tuple i;let⟨e,c,p2,_⟩:=I.tuple j;refine HT.cat_tup p p2 (λz=>k (d.nil_iff.mp z)) (λz=>⟨.ref a,H,I,rfl,m (c.nil_iff.mp z)⟩) (λz=>?_) (by rw[←d.length,←c.length];exact l);refine⟨.ref _,_,I.laid (λb C q=>Ev _ q) (On _) ?_,rfl,n (λw=>z (c.nil_iff.mpr w)) _ (I.hok.fresh (On _))⟩;exact⟨by simp_all,_,d.append c,IsTupN.new _ _⟩
end
def WG(n:Nat)(i:Int):t_ Nat:=if 0<=i then(if i<n then P3 i.toNat else p_)else if -(n:Int)<=i then P3 (i+n).toNat else p_
def atI{a:Type}(b:s_ a)(i:Int):t_ a:=(WG b.length i).bind λj=>b[j]?
theorem N9{n:Nat}{i:Int}{j:Nat}(h:WG n i=P3 j):seqIndex? i n=P3 j/\j<n/\-(n:Int)<=i/\i<n:=by
 unfold WG at h
 by_cases b:0<=i
 ·rw[if_pos b]at h
  by_cases a:i<n
  ·rw[if_pos a]at h
   have e:i.toNat=j:=gW h;exact⟨by rw[seqIndex_of b a,e],by omega,by omega,a⟩
  grind
 ·rw[if_neg b]at h
  by_cases a:-(n:Int)<=i
  ·rw[if_pos a]at h
   have e:(i+n).toNat=j:=gW h;exact⟨by rw[seqIndex_neg (by omega) a,e],by omega,a,by omega⟩
  grind
theorem OS{b:Type}{a:s_ b}{i:Int}{v:b}(h:atI a i=P3 v):∃j,seqIndex? i a.length=P3 j/\a[j]?=P3 v/\j<a.length/\-(a.length:Int)<=i/\i<a.length:=by
 unfold atI at h;cases e:WG a.length i with
 |none=>simp_all
 |some j=>
  let⟨c,d,f,g⟩:=N9 e
  simp_all
theorem AL{b:Type}{a:s_ b}{j:Nat}{v:b}(h:a[j]?=P3 v):atI a (j:Int)=P3 v:=by
 have c:=(ZB.mp h).1
 have e:WG a.length j=P3 j:=by
  unfold WG
  simp_all
 unfold atI;grind
theorem Wx{b:Type}(a:s_ b)(v:b):atI (a++[v]) (-1)=P3 v:=by
 have e:WG (a++[v]).length (-1)=P3 a.length:=by
  unfold WG
  grind
 unfold atI
 grind
def S7(b:gj):Prop:=∀o i,subscripted b r_ o i=operate [o,i] (getItem o i)
def IxR(X:Cx)(r:R2):Prop:=
 ∀(b a:gj) (c:s_ (Ch×Obj)) (s:Go) (d:St) (H:Hp) (x y:V) (v u:Db) (Q:VK),Inv X c d H s->RelV x v->RelV y u->r x y H Q->
  subscripted a r_ v u=operate [v,u] (getItem v u)->wpAny (model X.prog X.w) X.A (subscriptTail b a v u) (EP X c d Q) X.xe s
def ZW(X:Cx)(e:String)(r:V->s_ V->Hp->VK->Prop):Prop:=
 ∀(a:s_ (Ch×Obj)) (s:Go) (b:St) (H:Hp) (x:V) (c:s_ V) (v:Db) (d:s_ Db) (Q:VK),Inv X a b H s->RelV x v->Vals c d->r x c H Q->
  wpAny (model X.prog X.w) X.A (call (.builtin e) (v::d)) (EP X a b Q) X.xe s
section
variable {X:Cx}{a b:Expr}{ta tb:TE}{pos:Pos}
theorem IxR.or{r e:R2}(h:IxR X r)(k:IxR X e):IxR X (λx y H Q=>r x y H Q\/e x y H Q):=by
 intro c d l s f H x y v u Q I g i q j
 rcases q with q|q
 ·exact h _ _ _ s f H x y v u Q I g i q j
 ·exact k _ _ _ s f H x y v u Q I g i q j
theorem DQ{r:R2}(c:IxR X r)(d:PE X a ta)(e:PE X b tb)(f:S7 b):PE X (.Subscript a b pos) (Ec r ta tb):=λm s g H Q I h=>Subscript_ (bD d e I h λv u i x y H2 j k l q=>c a b _ i g H2 x y v u Q j k l q (f _ _))
def Z1(K:Frag):R2:=λx y H Q=>∃p c i v,x=.ref p/\y=.int i/\SqL K H p c/\atI c i=P3 v/\Q v H
def cY(K:Frag):R2:=λx y H Q=>∃p c i v,x=.ref p/\y=.int i/\SqT K H p c/\atI c i=P3 v/\Q v H
def cZ:R2:=λx y H Q=>∃z i c,x=.str z/\y=.int i/\z.length<=sizeLine/\atI z.cps.toList i=P3 c/\Q (.str ⟨#[c]⟩) H
theorem ix_list:IxR X (Z1 X.K):=by
 intro d e l s m H x y v u Q I C D h n;let⟨p,O,i,z,rfl,rfl,E,F,q⟩:=h;cases C;let⟨t,rfl⟩:=D;let⟨f,r,g,P⟩:=I.list E;let⟨j,o,G,R,J,L⟩:=OS F;let⟨w,M,k⟩:=r.get G;have S:=r.length;have T:=JF;have c:EP X l m Q w s:=⟨z,H,I,k,q⟩
 by_cases A:0<=i
 ·have B:i.toNat=j:=by
   rw[seqIndex_of A L]at o
   grind
  exact item_listR g.isList A (by omega) (by rw[B];simpa using M) c n
 ·have B:(i+(f.toArray.size:Int)).toNat=j:=by
   rw[seqIndex_neg (by omega) J]at o
   grind
  exact subscriptTail_builtinR (x:=w) g.isList.typeIs mH.lookup
   (wpAny_getItem_list_neg (Q:=λr N=>r=w/\EP X l m Q r N) g.isList (by omega) (by grind) (by omega) (by grind) ⟨rfl,c⟩) n
theorem ix_tup:IxR X (cY X.K):=by
 intro c d B s C H x y v u Q I g k h l;let⟨p,D,i,z,rfl,rfl,m,n,q⟩:=h;cases g;let⟨t,rfl⟩:=k;let⟨o,r,f,E⟩:=I.tuple m;let⟨j,F,A,G,J,L⟩:=OS n;let⟨w,M,e⟩:=r.get A;have N:=r.length;have O:=JF
 exact subscriptTail_builtinR f.typeIs gz.lookup
  (getItem_tuple (j:=j) f (by omega) (by omega) (by grind) (by grind) ⟨rfl,⟨z,H,I,e,q⟩⟩) l
theorem aS:IxR X cZ:=by
 intro d e m s n H x y v u Q I f g h k;let⟨z,i,c,rfl,rfl,o,l,q⟩:=h;let⟨t,rfl⟩:=f;let⟨p,rfl⟩:=g;let⟨j,r,w,A,B,C⟩:=OS l;have D:z.cps.toList.length=z.length:=by simp[Str.length]
 have E:=JF
 exact tail_any (typeIs_str s z t) slot_str_getitem.lookup (getItem_str (by
  grind) (by grind) ⟨.str _,H,I.tok _,⟨_,rfl⟩,q⟩) k
def fe(K:Frag):R2:=λx y H Q=>Z1 K x y H Q\/cY K x y H Q\/cZ x y H Q
theorem AN:IxR X (fe X.K):=ix_list.or (ix_tup.or aS)
theorem Q9(c:s_ Db)(n j:Nat)(u:Db):iO (·.setIfInBounds j u) {cls:=.type "list",data:=.seq c.toArray n}={cls:=.type "list",data:=.seq (c.set j u).toArray n}:=by
 simp[iO]
theorem Inv.lst{f:s_ (Ch×Obj)}{g:St}{H:Hp}{s:Go}{p:Ch}{d:s_ V}(I:Inv X f g H s)(h:H p=P3 (.lst d)):
  ∃(c:s_ Db) (n:Nat),Vals d c/\s.heap.get? p=P3 {cls:=.type "list",data:=.seq c.toArray n}/\d.length<=sizeLine:=by
 let⟨z,c,n,r,e⟩:=I.hok p _ h;exact⟨_,n,r,e,z⟩
theorem Inv.lstUpd{j:s_ (Ch×Obj)}{k:St}{H:Hp}{s:Go}{p:Ch}{m g:s_ V}{d c:s_ Db}{n i:Nat}{f:Obj->Obj}(I:Inv X j k H s)(h:H p=P3 (.lst m))
  (o:s.heap.get? p=P3 {cls:=.type "list",data:=.seq d.toArray n}) (l:f {cls:=.type "list",data:=.seq d.toArray n}={cls:=.type "list",data:=.seq c.toArray i}) (r:Vals g c) (v:g.length<=sizeLine) (t:Nat):
  Inv X j k (A2 H p (.lst g)) {s with heap:=s.heap.update p f,toks:=t}:=by
 have e:(s.heap.update p f).get? p=P3 {cls:=.type "list",data:=.seq c.toArray i}:=by
  rw[ii f o (by rw[l] <;>rfl),l]
 exact I.write (by rw[h];trivial) (.inl rfl) (λb u w q=>(gZ _ _ (iM w)).trans q) ⟨_,e⟩ ⟨v,_,i,r,e⟩
def Y4:V->V->V->Hp->(Hp->Prop)->Prop:=λo i v H Q=>∃p c k j,o=.ref p/\i=.int k/\H p=P3 (.lst c)/\WG c.length k=P3 j/\Q (A2 H p (.lst (c.set j v)))
theorem set_list:dZ X Y4:=by
 intro w s x H o i v F G u Q I y z A h;let⟨p,B,k,j,rfl,rfl,f,C,q⟩:=h;cases y;let⟨t,rfl⟩:=z;let⟨c,n,r,d,J⟩:=I.lst f;let⟨g,K,D,E⟩:=N9 C;have L:=r.length;have M:=JF
 have l:Inv X w x (A2 H p (.lst (B.set j v))) {s with heap:=s.heap.update p (iO (·.setIfInBounds j u))}:=
  I.lstUpd f d (Q9 c n j u) (r.set A j) (by simp_all) s.toks
 by_cases m:0<=k
 ·have e:k.toNat=j:=by
   rw[seqIndex_of m E]at g
   grind
  exact PySem.W.ki_setAt d m (by omega) (by grind) (by rw[e];exact⟨_,l,q⟩)
 ·have e:(k+(c.toArray.size:Int)).toNat=j:=by
   rw[seqIndex_neg (by omega) D]at g
   grind
  exact PySem.W.ki_setBack d (by omega) (by grind) (by omega) (by rw[e];exact⟨_,l,q⟩)
theorem NP(c d:t_ Int)(n:Nat):(sliceBounds c d p_ n).1=((HT.sIx n 0 c:Nat):Int)/\(sliceBounds c d p_ n).2.1=((HT.sIx n n d:Nat):Int)/\(sliceBounds c d p_ n).2.2=1:=by
 refine⟨?_,?_,rfl⟩
 ·cases c with
  |none=>simp[sliceBounds,HT.sIx]
  |some i=>
   simp only[sliceBounds,HT.sIx,Option.getD_none,show(1:Int) > 0 by decide,if_true]
   by_cases h:i<0
   ·grind
   ·simp only[h,if_false] <;>omega
 ·cases d with
  |none=>simp[sliceBounds,HT.sIx]
  |some i=>
   simp only[sliceBounds,HT.sIx,Option.getD_none,show(1:Int) > 0 by decide,if_true]
   by_cases h:i<0
   ·grind
   ·simp only[h,if_false] <;>omega
theorem L0(c:s_ Db)(d e:t_ Int):slicePick c.toArray d e p_=((c.drop (HT.sIx c.length 0 d)).take (HT.sIx c.length c.length e - HT.sIx c.length 0 d)).toArray:=by
 let⟨f,g,h⟩:=NP d e _;unfold slicePick;rw[f,g,h];simp only[sliceRange_one,pick_run] <;>rfl
def cR(K:Frag):V->t_ Int->t_ Int->Hp->VK->Prop:=λx d e H Q=>∃a c,x=.ref a/\SqL K H a c/\∀p,H p=p_->Q (.ref p) (A2 H p (.lst (P_ c d e)))
theorem sl_list:SlR X (cR X.K):=by
 intro p s t H x v u w e f y Q I g i j k h;let⟨a,l,rfl,m,q⟩:=h;cases g;let⟨n,r,d,o⟩:=I.list m;have c:=r.length;exists _,_,mH.lookup,d.isList.typeIs;refine wpAny_getItem_list_slice d.isList i j k .none (by simp) ?_ (by grind);rw[L0,←c];refine⟨.ref _,_,I.laid (λb z q=>Ev _ q) (On _) ?_,rfl,q _ (I.hok.fresh (On _))⟩;exact⟨gc (Jl l e f) o,_,0,(r.drop _).take _,XV _ rfl⟩
def ZI:V->Bool
 |.non=>q_
 |.bl _=>q_
 |.int _=>q_
 |.str _=>q_
 |_=>r_
def dM:V->V->Bool
 |.non,.non=>q_
 |.bl a,.bl b=>a==b
 |.bl a,.int b=>(if a then 1 else 0)==b
 |.int a,.bl b=>a==(if b then 1 else 0)
 |.int a,.int b=>a==b
 |.str a,.str b=>a==b
 |_,_=>r_
theorem OF{A:gw}{s:Go}{y x:V}{u v:Db}(e:RelV y u)(c:RelV x v)(g:ZI y=q_)(f:ZI x=q_):SeqAt.EqAt A s u v (dM y x):=by
 cases y with
 |non=>
  cases e;cases x with
  |non=>cases c;exact SeqAt.EqAt.same _
  |bl b=>cases c;exact SeqAt.EqAt.none_bool b
  |int b=>let⟨t,rfl⟩:=c;exact SeqAt.EqAt.none_int b t
  |str b=>let⟨t,rfl⟩:=c;exact SeqAt.EqAt.none_str b t
  |_=>exact absurd (show r_=q_ from f) gh
 |bl a=>
  cases e;cases x with
  |non=>cases c;exact SeqAt.EqAt.bool_none a
  |bl b=>cases c;exact SeqAt.EqAt.bool_bool a b
  |int b=>let⟨t,rfl⟩:=c;exact SeqAt.EqAt.bool_int a b t
  |str b=>let⟨t,rfl⟩:=c;exact SeqAt.EqAt.bool_str a b t
  |_=>exact absurd (show r_=q_ from f) gh
 |int a=>
  let⟨d,rfl⟩:=e;cases x with
  |non=>cases c;exact SeqAt.EqAt.int_none a d
  |bl b=>cases c;exact SeqAt.EqAt.int_bool a d b
  |int b=>let⟨t,rfl⟩:=c;exact SeqAt.EqAt.int_int a d b t
  |str b=>let⟨t,rfl⟩:=c;exact nc a d b t
  |_=>exact absurd (show r_=q_ from f) gh
 |str a=>
  let⟨d,rfl⟩:=e;cases x with
  |non=>cases c;exact SeqAt.EqAt.str_none a d
  |bl b=>cases c;exact SeqAt.EqAt.str_bool a d b
  |int b=>let⟨t,rfl⟩:=c;exact ng a d b t
  |str b=>let⟨t,rfl⟩:=c;exact SeqAt.EqAt.str_str a d b t
  |_=>exact absurd (show r_=q_ from f) gh
 |_=>exact absurd (show r_=q_ from g) gh
theorem IH:Co X (.type "list") (λB H Q=>∃p f,B=[.ref p]/\(SqL X.K H p f\/SqT X.K H p f)/\∀l,H l=p_->Q (.ref l) (A2 H l (.lst f))):=by
 intro D s E H B G Q I r h;let⟨p,f,rfl,j,q⟩:=h;let⟨u,rfl,F⟩:=vals1 r;cases F
 have k:∀(c:s_ Db),Vals f c->f.length<=sizeLine->∀(d:gf) (i:Nat),(∀b C,s.heap.get? b=P3 C->d.get? b=P3 C)->
   d.get? s.heap.objs.size=P3 _->EP X D E Q (.ref s.heap.objs.size) {s with heap:=d}:=λc g m d i t e=>
  ⟨.ref s.heap.objs.size,_,I.laid (t':=s.toks) t (On _) (show ObjOk X.prog X.w _ d _ (.lst f)from⟨m,c,i,g,e⟩),rfl,q _ (I.hok.fresh (On _))⟩
 rcases j with j|j
 ·let⟨c,g,x,m⟩:=I.list j
  have v:=g.length;let⟨o,y,z,n,A⟩:=x.isList;exact call_list_seq p (.inl rfl) y z A (λd i t e=>k c g m d i t e) (by grind)
 ·let⟨c,g,x,m⟩:=I.tuple j
  have v:=g.length;let⟨o,y,z,n,A⟩:=x;exact call_list_seq p (.inr rfl) y z A (λd i t e=>k c g m d i t e) (by grind)
theorem BA:Co X (.type "tuple") (λj H Q=>∃p c,j=[.ref p]/\((SqL X.K H p c/\∀l,H l=p_->Q (.ref l) (A2 H l (.tup c)))\/(SqT X.K H p c/\Q (.ref p) H))):=by
 intro w s x H j y Q I r h;let⟨p,c,rfl,h⟩:=h;let⟨u,rfl,t⟩:=vals1 r;cases t
 rcases h with⟨d,q⟩|⟨d,q⟩
 ·let⟨f,g,i,k⟩:=I.list d
  have m:=g.length;refine call_tuple_list i.isList (λz v=>?_) (by grind);have n:=I.kept (t':=s.toks) v;exact⟨.ref _,_,n.laid (t':=s.toks) (λb o e=>Ev _ e) (On _) (show ObjOk _ _ _ _ _ (.tup c)from⟨k,_,g,IsTupN.new _ _⟩),rfl,q _ (n.hok.fresh (On _))⟩
 ·let⟨f,g,i,k⟩:=I.tuple d
  exact call_tuple_same i ⟨.ref p,H,I,rfl,q⟩
def eT(K:Frag)(T:String)(x:V)(H:Hp):Prop:=match x with
 |.str _=>T="str"
 |.int _=>T="int"
 | .ref p=>(T="list"/\∃d,SqL K H p d)\/(T="tuple"/\∃o,K.lookup p=P3 o/\o.cls=.type "tuple"/\o.dict=p_) \/
   (T="dict"/\((∃c,H p=P3 (.dK c))\/∃c,H p=P3 (.dT c)))\/(T="set"/\∃S n,H p=P3 (.set S n))
 |_=>False
theorem Zh{l:s_ (Ch×Obj)}{m:St}{H:Hp}{s:Go}{T:String}{x:V}{v:Db}(I:Inv X l m H s)(r:RelV x v)(ty:eT X.K T x H):
  s.TypeIs v T/\∀a,v=.ref a->∃j,s.heap.get? a=P3 j/\j.dict=p_:=by
 cases x with
 |str z=>
  let⟨t,rfl⟩:=r;cases(show T="str" from ty);exact⟨typeIs_str s z t,λ_ e=>nomatch e⟩
 |int i=>
  let⟨t,rfl⟩:=r;cases(show T="int" from ty);exact⟨typeIs_int s i t,λ_ e=>nomatch e⟩
 | ref p=>
  cases r
  rcases ty with⟨rfl,y,q⟩|⟨rfl,o,d,u,f⟩|⟨rfl,d⟩|⟨rfl,S,n,d⟩
  ·let⟨w,_,k,_⟩:=I.list q
   refine⟨k.isList.typeIs,λa e=>?_⟩;cases e;let⟨o,n,e,c,f,_⟩:=k;exact⟨o,e,f⟩
  ·refine⟨⟨o,I.kIn p o d,u⟩,λa e=>?_⟩
   cases e;exact⟨o,I.kIn _ o d,f⟩
  ·have z:∃o,s.heap.get? p=P3 o/\o.ExactDict:=by
    rcases d with⟨g,d⟩|⟨g,d⟩
    ·let⟨_,_,_,_,o,_,_,e,ex,_⟩:=I.hok p _ d
     exact⟨o,e,ex⟩
    ·let⟨_,_,_,_,o,_,_,e,ex,_⟩:=I.hok p _ d
     exact⟨o,e,ex⟩
   let⟨o,e,ex⟩:=z;refine⟨⟨o,e,ex.1⟩,λa h=>?_⟩;cases h;exact⟨o,e,ex.2.1⟩
  ·let⟨o,_,_,_,e,ex,_⟩:=I.hok p _ d
   refine⟨⟨o,e,ex.1⟩,λa h=>?_⟩;cases h;exact⟨o,e,ex.2.1⟩
 |_=>exact iZ ty
def gE(K:Frag)(T:String)(r:V->s_ V->Hp->VK->Prop)(e:TE)(t:TA):TE:=λc H Q=>e c H λx d=>eT K T x d/\t c d λf H2=>r x f H2 Q
variable {o e:Expr}{es:s_ Expr}{to:TE}{t:TA}{name:Str}{apos cpos:Pos}{T id:String}{r:V->s_ V->Hp->VK->Prop}
theorem PM(p:PlainAttrs T)(f:Slot T name id)(j:typeOf (.builtin id)=pure (.type "method_descriptor"))(q:ZW X id r)(u:PE X o to)(w:PA X (e::es) t)
  (c:attributeBase o name X.env (eval o X.env)=eval o X.env:=by rfl)
  (g:((backTo cpos (starEach (e::es) X.env)).all (λx=>!x.1)&&(backToKw cpos (keywordEach [] X.env)).all (λx=>x.1.isSome)
   && decide ((e::es).length+([]:s_ jJ).length+(if([]:s_ jJ).isEmpty then 0 else 1)<30))=q_:=by rfl)
  (d:(apos.endLine==cpos.line)=q_:=by rfl) (y:starEach (e::es) X.env=(r_,eval e X.env)::starEach es X.env:=by rfl) (i:(backTo cpos (starEach es X.env)).any (·.1)=r_:=by rfl):
  PE X (.Call (.Attribute o name apos) (e::es) [] cpos) (gE X.K T r to t):=by
 intro N s k H Q I h;refine wpAny_Call_method_late c g d rfl (thn (u _ s k H _ I h) λv z ⟨x,A,l,m,ty,B⟩=>?_);let⟨C,D⟩:=Zh l m ty;exists T,id,p,f,j,C,D;have n:=w cpos _ z k A _ l B;rw[y]at n ⊢;refine jX (by simp_all) (kM ?_);exact thn n λE F ⟨G,H2,J,L,M⟩=>q _ F k H2 x G v E Q J m L M
end
def fz(X:Cx)(e:String)(r:V->s_ V->Hp->VK->Prop):Prop:=
 ∀(a:s_ (Ch×Obj)) (s:Go) (b:St) (H:Hp) (x:V) (c:s_ V) (v:Db) (d:s_ Db) (Q:VK),Inv X a b H s->RelV x v->Vals c d->r x c H Q->
  wpAny (model X.prog X.w) X.A (call (.builtin e) (v::d)) (EP X a b Q) X.xe s
theorem Vals.one:∀{x:V}{a:s_ Db},Vals [x] a->∃u,a=[u]/\RelV x u
 |_,_,.cons r .nil=>⟨_,rfl,r⟩
theorem Vals.eraseIdx:∀{a:s_ V}{b:s_ Db} (i:Nat),Vals a b->Vals (a.eraseIdx i) (b.eraseIdx i)
 |_,_,_,.nil=>.nil
 |_,_,0,.cons _ t=>t
 |_,_,i+1,.cons r t=>.cons r (Vals.eraseIdx i t)
theorem Vals.reverse{a:s_ V}{b:s_ Db}(h:Vals a b):Vals a.reverse b.reverse:=by
 induction h with
 |nil=>exact .nil
 |cons r t c=>rw[j9,j9];exact Vals.append c (.cons r .nil)
theorem JG{a:Type}:∀(l:s_ a) (i:Nat),(l.eraseIdx i).length<=l.length
 |[],_=>On _
 |_::_,0=>iE _
 |_::r,i+1=>lI (JG r i)
section
variable {X:Cx}{zH:s_ (Addr×Obj)}{σ:St}{H:Hp}{s:Shared}{l:Addr}{xs ys:s_ V}
theorem Inv.lset{a its':s_ Db}{n:Nat}{f:Array Db->Array Db}{t':Nat}(I:Inv X zH σ H s)(b:H l=P3 (.lst xs))
  (e:s.heap.get? l=P3 {cls:=.type "list",data:=.seq a.toArray n}) (c:f a.toArray=its'.toArray) (d:Vals ys its') (g:ys.length<=sizeLine):
  Inv X zH σ (A2 H l (.lst ys)) {s with heap:=s.heap.update l (iO f),toks:=t'}:=by
 have q:=PySem.IsL.update e f;rw[c]at q;exact I.write (by rw[b];exact trivial) (.inl rfl) (λk u h i=>(gZ _ _ (iM h)).trans i) ⟨_,q⟩ ⟨g,_,_,d,q⟩
theorem Inv.lnew{a:s_ Db}{b:Nat}(I:Inv X zH σ H s)(c:Vals ys a)(d:ys.length<=sizeLine):
  Inv X zH σ (A2 H s.heap.objs.size (.lst ys)) {s with heap:=s.heap.push {cls:=.type "list",data:=.seq a.toArray},toks:=b}:=
 I.laid (λ_ _ q=>Ev _ q) (On _) ⟨d,_,0,c,XV _ rfl⟩
theorem Inv.fresh(I:Inv X zH σ H s):H s.heap.objs.size=p_:=I.hok.fresh (On _)
theorem Inv.lstM(I:Inv X zH σ H s)(b:H l=P3 (.lst xs)):xs.length<=sizeLine/\∃(a:s_ Db) (n:Nat),Vals xs a/\xs.length=a.length/\s.heap.get? l=P3 {cls:=.type "list",data:=.seq a.toArray n}:=by
 let⟨z,a,n,r,e⟩:=I.hok l _ b;exact⟨z,_,n,r,r.length,e⟩
end
section
variable {X:Cx}
def Rw:V->s_ V->Hp->VK->Prop:=λx b H Q=>∃l a y,x=.ref l/\b=[y]/\H l=P3 (.lst a)/\a.length<sizeLine/\Q .non (A2 H l (.lst (a++[y])))
theorem Ba:fz X "list.append" Rw:=by
 intro g s i H x j v k Q I b c h;let⟨l,m,y,rfl,rfl,a,o,q⟩:=h;cases b;let⟨u,rfl,d⟩:=c.one;let⟨z,f,n,r,p,e⟩:=I.lstM a;refine call_meets F.slot_list_append ⟨_,e,rfl⟩ F.entry_list_append (F.args_list_append_2 _ _) (PySem.list_append l _ n u (by grind)) ⟨e,?_⟩;refine⟨.non,_,I.lset a e (by simp) (r.append (.cons d .nil)) ?_,rfl,q⟩
 grind
def Zz:V->s_ V->Hp->VK->Prop:=λx b H Q=>∃l a i k y,x=.ref l/\b=[.int i]/\H l=P3 (.lst a)/\-(2 ^ 63)<=i/\i<2 ^ 63/\seqIndex? i a.length=P3 k/\a[k]?=P3 y/\Q y (A2 H l (.lst (a.eraseIdx k)))
theorem V5:fz X "list.pop" Zz:=by
 intro A s B H x C v D Q I d f h;let⟨l,g,i,k,y,rfl,rfl,c,j,m,E,o,q⟩:=h;cases d;let⟨u,rfl,p⟩:=f.one;let⟨t,rfl⟩:=p;let⟨z,a,n,r,G,e⟩:=I.lstM c;let⟨w,J,b⟩:=r.get o
 refine call_meets F.slot_list_pop ⟨_,e,rfl⟩ F.entry_list_pop (F.args_list_pop_2 _ _)
  (MeetsSeq.list_pop_at l a.toArray n i t k w (fitsIndex_both j m) (by simp_all) (by simp_all) (by grind)) ⟨e,?_⟩
 refine⟨y,_,I.lset (its':=a.eraseIdx k) c e ?_ (r.eraseIdx k) ?_,b,q⟩
 ·simp_all
 ·have:=JG g k
  omega
end
end L2
namespace Att
open PySem.W PySem.Calls
theorem J8{P:Params}{h:gf}:∀(c:s_ Int) (d:s_ Db),WellAll P h d (c.map WData.int)->IntsAre d c:=by
 intro c
 induction c with
 |nil=>
  intro d w;cases w;exact .nil
 | cons n c e=>
  intro d w;cases w with
  |cons a b=>
   cases a;exact .cons _ _ (e _ b)
theorem TU{l:OpenLaw}{n:Nat}(w:l.most=P3 n){P:Params}{h:gf}{args:s_ WData}{b:s_ Db}
  (c:l.row.toRowW.claim.pre args=q_) (i:WellAll P h b args):
  ∃a k e,b=[gY a]/\args=[WData.list (e.map WData.int)]/\h.get? a=P3 {cls:=.type "list",data:=.seq k.toArray}/\IntsAre k e/\e.length<=n:=by
 have j:WShape.hasAll [] args [.list .int]=q_:=(pre_splitW c).1;have m:l.pre.holds [] {args:=args}=q_:=(pre_splitW c).2;let⟨d,r,rfl,p,q⟩:=hasAllW_cons j;obtain rfl:=hasAllW_nil q;let⟨x,rfl,s⟩:=hasW_list p;let⟨e,rfl⟩:=items_int s
 have f:e.length<=n:=by
  unfold OpenLaw.pre at m
  have o:(WTm.not (.lt (.lit (.int (n:Int))) (.len (.arg 0)))).holds [] {args:=[.list (e.map .int)]}=q_:=by
   have o:=(holds_andW m).1
   grind
  have y:=condW_of o (w_not (w_lt w_lit (w_len_list (w_arg rfl))))
  grind
 cases i with
 |cons t u=>
  cases u;cases t with
  |list v g=>exact⟨_,_,e,rfl,rfl,v,J8 e _ g,f⟩
theorem Th(l:OpenLaw)(a:s_ WData):l.row.toRowW.claim.post a (.bool q_) a=q_:=
 postW_of
  (show WShape.has [] _ _=q_ by first|rfl|decide|omega)
  (w_eq_bool (w_res rfl) w_lit) rfl
theorem attach_call{l:OpenLaw}{n:Nat}{q:gi}{c:s_ Str}{D:(Str->t_ Db)->gf->Prop}{E:gn->gf->Prop}{d:DefRec}
  (K:l.most=P3 n) (x:d.params.defaults=[])
  (call:∀(w:gn) (e b:Go) (s y:Str->t_ Db) (j:Ch) (o:Obj) (z t g:Db) (a:Ch) (i:s_ Db) (u:s_ Int),
   Ground q c [] D w e s y b.heap->E w b.heap->
   b.heap.get? j=P3 o->o.data=.func (docDef d.name d.params d.body d.scope z t g)->b.heap.CodeRec t d.name->s d.name=P3 (.ref j)->
   b.heap.get? a=P3 {cls:=.type "list",data:=.seq i.toArray}->IntsAre i u->u.length<=n->b.gens=#[]->
   codeAny (model l.prog w) callerA (.call (.ref j) ⟨[.ref a],[]⟩) (λr v=>r=.ok (.ret (.bool q_))/\OldK b.heap v.heap/\v.os=b.os/\kE v.gens) b):
  WalkO q c D E l.row.toRowW d [] (λf i=>PySem.call f i):=by
 intro w e b s y G Y j o z t g L M N O A F B P H I X k J Q C R;obtain rfl:L=.none:=Dflts.none F x;obtain rfl:M=.none:=Dflts.noKw F;let⟨a,i,u,rfl,rfl,m,h,p⟩:=TU K k C;refine enter_call (kG (call w e b s y j o z t g a i u G Y N (fd_plain O) A B m h p P) λr v S=>?_);let⟨rfl,T,U,V⟩:=S;exact⟨.inl ⟨.bool q_,.bool q_,[],rfl,λ_=>rfl,.bool q_,Th l _,λ_=>⟨nk,λ_ W=>(nomatch W)⟩⟩,T,U,V⟩
end Att
namespace L2
theorem MP:∀{a:s_ Db}{b:s_ Int},IntsAre a b->Vals (b.map V.int) a
 |_,_,.nil=>.nil
 |_,_,.cons n t h=>.cons ⟨t,rfl⟩ (MP h)
def bS(H:Hp):Prop:=∀b,H b=p_\/∃o a,H b=P3 (.frz o (.lst a))
theorem WA{P:gi}{w:gn}{K:Frag}{A R:Str->t_ Db}{CX:Ur}{k:Nat}{S a:Ch}{fd:hU}{x:Str}{sp:Sp}{c:Go}{t:s_ Db}{B:s_ Int}
  (KX:K.In c.heap) (C:c.heap.Ns mainGlobals A) (g:c.heap.Ns builtinsNs R) (T:∀x:Str,x ≠ "__name__"->R x=bootBuiltins x) (D:c.heap.NoLimit) (hg:c.gens=#[])
  (Q:c.heap.get? a=P3 {cls:=.type "list",data:=.seq t.toArray}) (hi:IntsAre t B) (hl:B.length<=sizeLine) (hr:Room k callerA)
  (F:∀i:gf,K.In i->i.Ns mainGlobals A->A3 P w K A i CX k S fd [x] sp) (y:∀(s:Go) (u:Db),lj s fd ⟨[u],[]⟩ [(x,u)])
  (U:∀H:Hp,bS H->SqL K H a (B.map V.int)->sp [.ref a] H (λv _=>v=.bl q_) λ_ _ _=>False)
  (W:∀H e j,CX [] H c (λ_ _ _=>False) e j->False):
  codeAny (model P w) callerA (.call (.ref S) ⟨[.ref a],[]⟩) (λr j=>r=.ok (.ret (.bool q_))/\OldK c.heap j.heap/\j.os=c.os/\kE j.gens) c:=by
 have rv:=MP hi;have E:=hi.length
 have p:∀H:Hp,bS H->SqL K H a (B.map V.int)->HOk P w H c.heap->(∀b,H b≠p_->b=a)->(H a≠p_->K.lookup a=p_)->
   codeAny (model P w) callerA (.call (.ref S) ⟨[.ref a],[]⟩) (λr j=>r=.ok (.ret (.bool q_))/\OldK c.heap j.heap/\j.os=c.os/\kE j.gens) c:=by
  intro H hO hS G hA hK;have f:∀{b:Ch}{o:Obj},c.heap.get? b=P3 o->H b=p_->(N_ c.heap H).get? b=P3 o:=λe n=>WP e n
  have X:∀{b:Ch}{o:Obj}{I:Array DictEntry}{J:Nat},c.heap.get? b=P3 o->o.data=.dict I J->H b=p_:=λ{b o I J} e d=>by
   cases q:H b with
   |none=>rfl
   |some u=>
    have Y:b=a:=hA b (by rw[q];simp);subst Y;rw[Q]at e;cases e
    have d':Data.seq t.toArray _=Data.dict I J:=d;cases d'
  have l:∀{b:Ch}{m:Str->t_ Db},c.heap.Ns b m->(N_ c.heap H).Ns b m:=λ{b m} ⟨o,I,J,e,d,r⟩=>⟨o,I,J,f e (X e d),d,r⟩
  have L:K.In (N_ c.heap H):=λb o e=>f (KX b o e) (by
   cases q:H b with
   |none=>rfl
   |some u=>
    have Y:b=a:=hA b (by rw[q];simp);subst Y;rw[hK (by rw[q];simp)]at e;cases e)
  have hM:Mod K A (N_ c.heap H):=⟨L,l C,⟨R,l g,T⟩,let ⟨mc,h1,h2⟩:=D;⟨mc,l h1,h2⟩⟩;have e0:Env0 P w K A (N_ c.heap H) callerA [] c H:=⟨rfl,hM,λb o e=>X6 e,mW (UQ _ _),trivial,λb g=>absurd (show b∈([]:s_ Ch)from g) (by simp),G,.of_eq hg⟩;refine kG ((F _ L (l C)).run callerA [] c H ⟨[.ref a],[]⟩ [.ref a] [.ref a] _ _ hr e0 (y c (.ref a)) (.cons rfl .nil) (U H hO hS)) λr j h=>?_;cases r with
  |error e=>exact(W H e j h).elim
  | ok fl=>
   cases fl with
   |next=>exact iZ h
   |brk=>exact iZ h
   |cont=>exact iZ h
   | ret u=>
    let⟨v,H',os,M,un,N,r',q⟩:=h;have q':v=.bl q_:=q;subst q';obtain rfl:u=kn q_:=r';refine⟨rfl,OldK.of_keep λb o e=>?_,os,M⟩;cases q:H b with
    |none=>exact un.keep b o e q (by intro z;exact absurd (show b∈([]:s_ Ch)from z) (by simp)) (by simp)
    | some u=>
     rcases hO b with z|⟨ob,xs,z⟩
     ·rw[q]at z;cases z
     ·have z2:=un.frzs b ob _ z
      let⟨e1,_⟩:=G b _ z;let⟨e2,_⟩:=N b _ z2;rw[e]at e1;cases e1
      exact e2
 cases Z:K.lookup a with
 |some o=>
  have e:=KX a o Z;rw[Q]at e;cases e;refine p (λ_=>p_) (λ_=>.inl rfl) (.inr ⟨_,t.toArray,_,Z,rfl,rfl,rfl,by rw[gQ,E];exact hl,by simpa using rv⟩) (λb u z=>by have O:(p_:t_ HO)=P3 u:=z;cases O) (λb z=>absurd rfl z) λz=>absurd rfl z
 | none=>
  refine p (λb=>if b=a then P3 (.frz {cls:=.type "list",data:=.seq t.toArray} (.lst (B.map V.int)))else p_) (λb=>?_) (.inl (.inr ⟨{cls:=.type "list",data:=.seq t.toArray},if_pos rfl⟩)) (λb u z=>?_) (λb z=>?_) λ_=>Z
  ·by_cases g:b=a
   ·exact .inr ⟨_,_,if_pos g⟩
   ·exact .inl (if_neg g)
  ·by_cases g:b=a
   ·have O:=(if_pos g).symm.trans z
    cases O;subst g;exact⟨Q,by rw[No];exact hl,t,_,rv,Q⟩
   ·have O:=(if_neg g).symm.trans z
    cases O
  ·by_cases g:b=a
   ·exact g
   ·exact absurd (if_neg g) z
theorem Rb{l:PySem.W.OpenLaw}{n k:Nat}{q:gi}{j:s_ Str}{O:(Str->t_ Db)->gf->Prop}{I:gn->gf->Prop}{d:DefRec}{K:Params->Frag}{CX:gn->Ur}{sp:gn->Sp}{x:Str}
  (P:l.most=P3 n) (z:n<=sizeLine) (A:d.params.defaults=[]) (Q:Room k callerA)
  (R:∀(w:gn) (h:gf),I w h->(K w.params).In h)
  (F:∀(w:gn) (p:Str->t_ Db) (t:Ch) (h:gf),(K w.params).In h->h.Ns mainGlobals p->p d.name=P3 (.ref t)->
   ∃fd:hU,(∀(s:Go) (u:Db),lj s fd ⟨[u],[]⟩ [(x,u)]) /\
    ∀c:gf,(K w.params).In c->c.Ns mainGlobals p->A3 l.prog w (K w.params) p c (CX w) k t fd [x] (sp w))
  (B:∀(w:gn) (H:Hp) (a:Ch) (y:s_ Int),y.length<=n->bS H->SqL (K w.params) H a (y.map V.int)->sp w [.ref a] H (λv _=>v=.bl q_) λ_ _ _=>False)
  (C:∀(w:gn) (H:Hp) (s:Go) (e:Db) (D:Go),CX w [] H s (λ_ _ _=>False) e D->False):
  PySem.W.WalkO q j O I l.row.toRowW d [] (λf J=>PySem.call f J):=by
 refine Att.attach_call P A λw L M p mb t o pm cd S a J y G Y ho hd U E r m i X=>?_;have N:=R w _ Y;let⟨fd,Z,hF⟩:=F w p t _ N G.T.g E;exact WA N G.T.g G.T.b G.T.builtins G.T.nolimit X r m (gc i z) Q hF Z (λH hO hS=>B w H a y i hO hS) λH e D=>C w H _ e D
end L2
/- THE LAST THEOREM (shape;LID,My.* are yours):
   My.Adr:a structure of the addresses that your layer names (classes,functions);My.Txt K t:a structure (Prop) of the equations over K;
   My.txt_mk:{K}{implicit addresses ..} (e1:nsIn K mainGlobals "law"=P3 (P3 (.ref f))) (e2:K.lookup f=P3 ⟨oc,od,.func (fnOf "law" "law" params body scope dV kV doc pm an cdv ct),sl⟩) (e3:codeIn K cdv "law"=q_) ..:∃ t,My.Txt K t
set_option maxRecDepth 100000 in
set_option maxHeartbeats 0 in
theorem PySem.Challenge.cw_LID_holds:PySem.Challenge.rw_LID.Holds:=by
 w_on;o_law;k_head;(case hw=>w_witness2)
 k_fill
 refine L2.Rb (l:=PySem.Challenge.rw_LID) (n:=63) (k:=40) (x:="script") (CX:=λw=>..) (sp:=λ_=>My.sp_law) rfl (by decide) rfl ⟨rfl,by decide,by decide⟩ (λw h Y=>PySem.W.kIn_of Y) ?F ?S ?C
 case F=>
  intro w mg fa h KX G hmg
  have T:∃t,My.Txt (L2.KOf KX) t:=by
   dsimp only[L2.KOf] -- K must stand as «<heap const> w.params» for k_is
   refine' My.txt_mk ?e1 ?e2 ?e3 ..
   (case e1=>PySem.W.k_is) -- in the order:a name->its address->its object->its parts
   (case e2=>PySem.W.k_is)
   ..
  let⟨t,T⟩:=T;have e0:=hmg.symm.trans (mg_of KX G T.law);cases e0 -- fa is the law's own address;exact⟨_,λs u=>.of_eq rfl,λbase kb nb=>My.law_fn T kb nb⟩ -- if «.of_eq rfl» comes too early:refine' ⟨_,?b,λbase kb nb=>My.law_fn T kb nb⟩;exact λs u=>.of_eq rfl
 case S=>exact λw H a ns hl hO hS=>..
 case C=>exact ..
(the tactic k_is has no namespace:write k_is) -/
namespace L2
def Ci(s:gm):Arguments:=match s with
 |.FunctionDef _ a _ _ _ _ _ _ _ _=>a
 |_=>{posonlyargs:=[],args:=[],vararg:=p_,kwonlyargs:=[],kw_defaults:=[],kwarg:=p_,defaults:=[]}
def Bl(s:gm):s_ gm:=match s with
 |.FunctionDef _ _ b _ _ _ _ _ _ _=>b
 |_=>[]
def AM(s:gm):jN:=match s with
 |.FunctionDef _ _ _ _ _ _ a _ _ _=>a
 |_=>{kind:=.function,names:=[],isGenerator:=r_,isCoroutine:=r_}
abbrev CA:Ur:=λ_ _ _ _ _ _=>False
abbrev E0:XK:=λ_ _ _=>False
theorem Vv{X:Cx}:JV CA X E0:=λ_ _ _ _ _ _ _ h=>h.elim
structure Fun (K:Frag) (x qual:Str) (st:gm) (f:Ch) (fd:hU):Prop where
 ex:∃(oc:Db) (od:Option Ch) (kV doc pm:Db) (an:Option Ch) (cdv ct:Db) (osl:Array (Option Db)),
  fd=fnOf x qual (Ci st) (Bl st) (AM st) .none kV doc pm an cdv ct/\K.lookup f=P3 ⟨oc,od,.func fd,osl⟩/\codeIn K cdv qual=q_
 kp:keepIn K (.ref f)=q_
section
variable {P:Program}{w:World}{K:Frag}{mg:Str->t_ Value}{base:Heap}
theorem Fun.ok{x a:Str}{g:gm}{f:Ch}{fd:hU}{N i:s_ Str}{k:Nat}{j:Sp}(F:Fun K x a g f fd)(S:Ac N i (AM g))(len:∀c H Q E,j c H Q E->c.length=i.length)
  (d:∀(e:Db) (A:gw) (b:s_ Env) (s:Go) (H:Hp) (c:s_ V) (Q:VK) (E:XK),Room k (A.deeper (envOfC a (AM g) s.heap.objs.size f e))->j c H Q E->
   ∃t,PSs (HN CA P w K mg base N a (AM g) f e A b s H E).nox (Bl g) t/\t {nx:=λ_ n=>Q .non n,rt:=Q} (start N c) H):A3 P w K mg base CA (k+1) f fd i j:=by
 let⟨v,y,z,o,B,C,e,D,p,rfl,r,l⟩:=F.ex;refine ZH r l S len λA b s H c Q E u m=>?_;let⟨t,h,q⟩:=d _ A _ s H c Q E u m;exact⟨t,h.nox,q⟩
theorem Fun.binds{x a:Str}{d:gm}{f:Ch}{fd:hU}{ps:s_ Str}(F:Fun K x a d f fd)
  (h:∀(e b g:Db) (i:t_ Ch) (c j:Db) (k:s_ Db),k.length=ps.length->bindArgs (fnOf x a (Ci d) (Bl d) (AM d) .none e b g i c j) ⟨k,[]⟩=pure (ps.zip k)):Binds K fd ps []:=by
 let⟨n,o,e,b,g,i,c,j,l,rfl,p,m⟩:=F.ex;exact .all (h e _ g i _ j)
theorem RK{x a:Str}{st:gm}{f:Ch}{j:Db}{m e:t_ Ch}{g:Array (t_ Db)}{kV d h b i:Db}(l:K.lookup f=P3 ⟨j,m,.func (fnOf x a (Ci st) (Bl st) (AM st) .none kV d h e b i),g⟩)
  (c:codeIn K b a=q_) (k:keepIn K (.ref f)=q_):Fun K x a st f (fnOf x a (Ci st) (Bl st) (AM st) .none kV d h e b i):=⟨⟨j,m,kV,_,h,e,_,i,_,rfl,l,c⟩,k⟩
end
theorem LP{A:gw}{k:Nat}(a:Room k A):A.units+1<cLine:=jx (Nat.add_le_add_left (by decide) _) a.units
section
variable {X:Cx}
theorem pv(i:Nat){x:Str}{pos:Pos}(b:X.N[i]?=P3 x:=by rfl)(c:bM X.env.scope x:=by first|exact T0 rfl|exact jK (T0 rfl)|exact jK (jK rfl))(d:(x==("__debug__":Str))=r_:=by decide)
  (a:(x==("__classdict__":Str))=r_:=by decide):PE X (.Name x pos) (B3 i):=Nj b c d a
end
theorem CS{A B:Prop}(h:B):if r_=q_ then A else B:=by
 grind
theorem CQ{A B:Prop}(h:A):if q_=q_ then A else B:=by
 grind
theorem CB{c A B:Prop}[Decidable c](a:c->A)(b:¬c->B):if c then A else B:=by
 grind
section
variable {κ:Type}[DecidableEq κ]
def FK(a:s_ (κ×V))(k:κ):t_ V:=(a.find? λb=>decide (b.1=k)).map (·.2)
def putK(a:s_ (κ×V))(k:κ)(v:V):s_ (κ×V):=
 if(a.any λb=>decide (b.1=k))=q_ then a.map (λb=>if b.1=k then(b.1,v)else b)else a++[(k,v)]
theorem FO{p:κ×V}{r:s_ (κ×V)}{k:κ}(e:p.1=k):FK (p::r) k=P3 p.2:=by simp[FK,e]
theorem FP{p:κ×V}{r:s_ (κ×V)}{k:κ}(e:¬p.1=k):FK (p::r) k=FK r k:=by simp[FK,e]
theorem Ol(k:κ):∀a:s_ (κ×V),(a.any λb=>decide (b.1=k))=(FK a k).isSome
 |[]=>rfl
 |p::r=>by
  rw[nN]
  by_cases e:p.1=k
  ·simp[FO e,decide_eq_true e,Bool.true_or]
  ·rw[FP e,decide_eq_false e];exact Ol k r
theorem Fj(a:s_ (κ×V))(k:κ)(v:V):(putK a k v).length<=a.length+1:=by
 unfold putK
 grind
theorem RelO.isSome_eq{o:t_ V}{u:t_ Db}(r:RelO o u):o.isSome=u.isSome:=by
 cases o with
 |none=>cases u with
  |none=>rfl
  |some _=>exact(r).elim
 |some _=>cases u with
  |none=>exact(r).elim
  |some _=>rfl
theorem RelO.getD{o:t_ V}{u:t_ Db}{d:V}{a:Db}(r:RelO o u)(b:RelV d a):RelV (o.getD d) (u.getD a):=by
 cases o with
 |none=>cases u with
  |none=>exact b
  |some _=>exact(r).elim
 |some _=>cases u with
  |none=>exact(r).elim
  |some _=>exact r
theorem KV.val{a:s_ (κ×V)}{f:s_ (κ×Db)}(r:KV a f)(k:κ):RelO (FK a k) (valueAt f k):=by
 induction r with
 |nil=>exact ip
 | @cons p q l c h t i=>
  let⟨g,j⟩:=h
  by_cases e:p.1=k
  ·have d:=g.symm.trans e
   have b:valueAt (q::c) k=P3 q.2:=by simp[valueAt,d]
   rw[FO e,b];exact j
  ·have d:¬q.1=k:=λz=>e (g.trans z)
   have b:valueAt (q::c) k=valueAt c k:=by simp[valueAt,d]
   rw[FP e,b];exact i
theorem KV.any{a:s_ (κ×V)}{c:s_ (κ×Db)}(r:KV a c)(k:κ):(a.any λb=>decide (b.1=k))=c.any λb=>decide (b.1=k):=by
 induction r with
 |nil=>rfl
 |cons h t d=>simp_all
theorem KV.repl{b:s_ (κ×V)}{c:s_ (κ×Db)}(r:KV b c)(k:κ){y:V}{u:Db}(f:RelV y u):
  KV (b.map λa=>if a.1=k then(a.1,y)else a) (c.map λa=>if a.1=k then(a.1,u)else a):=by
 induction r with
 |nil=>exact .nil
 |@cons p q g i h t d=>
  refine .cons ?_ d
  by_cases e:p.1=k
  ·simp_all
  simp_all
theorem KV.put{kvs:s_ (κ×V)}{a:s_ (κ×Db)}(r:KV kvs a)(k:κ){y:V}{u:Db}(b:RelV y u):KV (putK kvs k y) (stored a k u):=by
 unfold putK stored;rw[r.any k]
 by_cases e:(a.any λc=>decide (c.1=k))=q_
 ·rw[if_pos e,if_pos e];exact r.repl k b
 ·rw[if_neg e,if_neg e];exact Paired.snoc r ⟨rfl,b⟩
theorem KV.length{a:s_ (κ×V)}{b:s_ (κ×Db)}(r:KV a b):a.length=b.length:=Paired.length r
end
theorem Jc{P:gi}{w:gn}{k:Key}{u:Db}(r:RelV (kV k) u):(BO P w).is k u=q_:=by
 cases k with
 |inl i=>let⟨t,e⟩:=(r);subst e;exact Pj P w i t
 |inr x=>let⟨t,e⟩:=(r);subst e;exact Ph P w x t
theorem Mi{P:gi}{w:gn}:∀{a:s_ Key}{b:s_ Db},Vals (a.map kV) b->ItemsAre (BO P w) a b
 |[],_,r=>by cases r;exact .nil
 |k::a,_,r=>by
  cases r with
  |cons h t=>exact .cons (Jc h) (Mi t)
abbrev KT(H:Hp):s_ (s_ Key×V)->s_ (s_ Key×Ch×Db)->Prop:=Paired λp q=>p.1=q.1/\H q.2.1=P3 (.tup (p.1.map kV))/\RelV p.2 q.2.2
theorem KT.val{H:Hp}{a:s_ (s_ Key×V)}{f:s_ (s_ Key×Ch×Db)}(r:KT H a f)(k:s_ Key):RelO (FK a k) ((atKey f k).map (·.2)):=by
 induction r with
 |nil=>exact ip
 | @cons p q l c h t i=>
  let⟨g,_,j⟩:=h
  by_cases e:p.1=k
  ·have d:=g.symm.trans e
   have b:atKey (q::c) k=P3 q.2:=by simp[atKey,d]
   rw[FO e,b];exact j
  ·have d:¬q.1=k:=λz=>e (g.trans z)
   have b:atKey (q::c) k=atKey c k:=by simp[atKey,d]
   rw[FP e,b];exact i
theorem KT.repl{H:Hp}{a:s_ (s_ Key×V)}{c:s_ (s_ Key×Ch×Db)}(r:KT H a c)(k:s_ Key){y:V}{u:Db}(f:RelV y u):
  KT H (a.map λb=>if b.1=k then(b.1,y)else b) (c.map (putAt k u)):=by
 induction r with
 |nil=>exact .nil
 |@cons p q g i h t d=>
  refine .cons ?_ d;unfold putAt
  by_cases e:p.1=k
  ·simp_all
  simp_all
theorem KT.put{H:Hp}{kvs:s_ (s_ Key×V)}{a:s_ (s_ Key×Ch×Db)}(r:KT H kvs a)(k:s_ Key){b:Ch}{y:V}{u:Db}(d:H b=P3 (.tup (k.map kV)))(c:RelV y u):
  KT H (putK kvs k y) (storedH a k b u):=by
 have e:(kvs.any λf=>decide (f.1=k))=(atKey a k).isSome:=by
  rw[Ol,(r.val k).isSome_eq,mI]
 unfold putK storedH;rw[e]
 by_cases q:(atKey a k).isSome=q_
 ·rw[if_pos q,if_pos q];exact r.repl k c
 ·rw[if_neg q,if_neg q];exact Paired.snoc r ⟨rfl,d,c⟩
theorem KT.keeps{H c:Hp}{a:s_ (s_ Key×V)}{d:s_ (s_ Key×Ch×Db)}(r:KT H a d)(f:∀b e,H b=P3 (.tup e)->c b=P3 (.tup e)):KT c a d:=
 Paired.mapP r λ_ _ z=>⟨z.1,f _ _ z.2.1,z.2.2⟩
section
variable {P:Program}{w:World}{H:Hp}{h:Heap}{a:Addr}
theorem Yy{u:HO}(ok:HOk P w H h)(e:Rd H a u):ObjOk P w H h a u:=e.ok ok
theorem Gp{b:s_ (Key×V)}(ok:HOk P w H h)(e:Rd H a (.dK b)):b.length<=sizeLine/\(a==sysModules)=r_/\∃c,KV b c/\h.DictOf (BO P w) a c:=
 Yy ok e
theorem ZN{b:s_ (Key×V)}(ok:HOk P w H h)(e:H a=P3 (.dK b)):b.length<=sizeLine/\(a==sysModules)=r_/\∃c,KV b c/\h.DictOf (BO P w) a c:=Gp ok (.inl e)
theorem HH{b:s_ Key}(ok:HOk P w H h)(e:H a=P3 (.tup (b.map kV))):(tupleKind (BO P w)).is h b a:=by
 let⟨_,c,r,o,d,f,n,g,_⟩:=(ok a _ e);exact⟨o,_,n,d,f,g,by simpa using Mi r⟩
theorem Jh{b:s_ (s_ Key×V)}(ok:HOk P w H h)(e:Rd H a (.dT b)):b.length<=sizeLine/\(a==sysModules)=r_ /\
  ∃d,KT H b d/\h.DictOfH (tupleKind (BO P w)) a d:=by
 let⟨z,y,d,r,o,f,g,i,j,k,n,s⟩:=(Yy ok e);refine⟨z,y,d,r,o,f,g,i,j,k,n,λx c=>?_,s⟩
 have all:∀{l:s_ _}{m:s_ _},KT H l m->∀x∈m,(tupleKind (BO P w)).is h x.1 x.2.1:=by
  intro l m q
  induction q with
  |nil=>grind
  |@cons p q v A B t u=>
   intro x c
   rcases TW.mp c with e|c
   ·exact HH ok (by grind)
   ·exact u x c
 exact all r x c
theorem dO{b:s_ (s_ Key×V)}(ok:HOk P w H h)(e:H a=P3 (.dT b)):b.length<=sizeLine/\(a==sysModules)=r_ /\
  ∃c,KT H b c/\h.DictOfH (tupleKind (BO P w)) a c:=Jh ok (.inl e)
end
def DGet(H:Hp)(a:Ch)(y:V)(r:t_ V):Prop:=
 (∃c k,Rd H a (.dK c)/\y=kV k/\r=FK c k)\/∃c k b,Rd H a (.dT c)/\y=.ref b/\H b=P3 (.tup (k.map kV))/\r=FK c k
def DPut(H:Hp)(a:Ch)(y v:V)(d:Hp):Prop:=
 (∃c k,H a=P3 (.dK c)/\y=kV k/\c.length<sizeLine/\d=A2 H a (.dK (putK c k v))) \/
 ∃c k b,H a=P3 (.dT c)/\y=.ref b/\H b=P3 (.tup (k.map kV))/\c.length<sizeLine/\d=A2 H a (.dT (putK c k v))
theorem DGet.k{H:Hp}{a:Ch}{b:s_ (Key×V)}{k:Key}(e:H a=P3 (.dK b)):DGet H a (kV k) (FK b k):=.inl ⟨_,k,.inl e,rfl,rfl⟩
theorem DPut.k{H:Hp}{a:Ch}{b:s_ (Key×V)}{k:Key}{v:V}(e:H a=P3 (.dK b))(c:b.length<sizeLine):DPut H a (kV k) v (A2 H a (.dK (putK b k v))):=.inl ⟨_,k,e,rfl,c,rfl⟩
section
variable {X:Cx}{zH:s_ (Addr×Obj)}{σ:St}{H:Hp}{s:Shared}{a:Addr}{y v:V}{u r:Value}{o:t_ V}{A:Around}{E:Value->Shared->Prop}
theorem Inv.big(I:Inv X zH σ H s):sysModules<s.heap.objs.size:=lT (by decide) (I.mod.glob.keeps I.bk).lt
theorem Ub{Q:Db->Go->Prop}(B:A.units+1<cLine)(I:Inv X zH σ H s)(g:DGet H a y (P3 v))(t:RelV y u)(h:∀f x,Inv X zH σ H x->RelV v f->Q f x):
  wpAny (model X.prog X.w) A (getItem (.ref a) u) Q E s:=by
 rcases g with⟨i,k,e,j,l⟩|⟨i,k,b,e,j,C,l⟩
 ·subst j
  let⟨z,D,F,c,m⟩:=Gp I.hok e;let⟨f,n,d⟩:=RelO.some_of (v:=v) (o:=valueAt F k) (by rw[l];exact c.val k);exact wpAny_getItem_of (Jc t) m.mapOf n (h f _ (I.tok _) d)
 ·subst j
  cases(show u=gY b from t);let⟨z,D,G,c,m⟩:=Jh I.hok e;let⟨f,n,d⟩:=RelO.some_of (v:=v) (o:=(atKey G k).map (·.2)) (by rw[l];exact c.val k);let⟨p,J,q⟩:=g0.mp n;refine wpAny_getItem_heap (jZ B) (HH I.hok C) m J ?_;rw[q];exact h f _ (I.tok _) d
theorem fO{Q:Db->Go->Prop}(p:A.units+1<cLine)(I:Inv X zH σ H s)(g:DGet H a y o)(m:RelV y u)(h:∀n,Inv X zH σ H n->Q (.bool o.isSome) n):
  wpAny (model X.prog X.w) A (compareOp .In u (.ref a)) Q E s:=by
 rcases g with⟨d,k,e,f,l⟩|⟨d,k,b,e,f,t,l⟩
 ·subst f
  let⟨z,i,x,c,j⟩:=Gp I.hok e;refine wpAny_in_of (Jc m) i j.mapOf ?_;rw[←(c.val k).isSome_eq,←l];exact h _ (I.tok _)
 ·subst f
  cases(show u=gY b from m);let⟨z,i,B,c,j⟩:=Jh I.hok e;refine wpAny_in_heap (jZ p) (HH I.hok t) i j ?_;have q:=(c.val k).isSome_eq;rw[mI]at q;rw[←q,←l];exact h _ (I.tok _)
theorem Yi{Q:Db->Go->Prop}(p:A.units+1<cLine)(I:Inv X zH σ H s)(g:DGet H a y o)(m:RelV y u)(h:∀n,Inv X zH σ H n->Q (.bool (!o.isSome)) n):
  wpAny (model X.prog X.w) A (compareOp .NotIn u (.ref a)) Q E s:=by
 rcases g with⟨d,k,e,f,l⟩|⟨d,k,b,e,f,t,l⟩
 ·subst f
  let⟨z,i,x,c,j⟩:=Gp I.hok e;refine wpAny_notIn_of (Jc m) i j.mapOf ?_;rw[←(c.val k).isSome_eq,←l];exact h _ (I.tok _)
 ·subst f
  cases(show u=gY b from m);let⟨z,i,B,c,j⟩:=Jh I.hok e;refine wpAny_notIn_heap (jZ p) (HH I.hok t) i j ?_;have q:=(c.val k).isSome_eq;rw[mI]at q;rw[←q,←l];exact h _ (I.tok _)
theorem OK{c:gf}{e:Nat}{d:HO}(I:Inv X zH σ H s)(f:dh (H a))(g:kF a s.heap c)(h:∃q,c.get? a=P3 q)(new:ObjOk X.prog X.w (A2 H a d) c a d):
  Inv X zH σ (A2 H a d) {s with heap:=c,toks:=e}:=
 I.write f (.inl rfl) (λb q i z=>(g.2 b i).trans z) h new
theorem Wg{P:gi}{w:gn}{e:Hp}{d:gf}{b:s_ (Key×V)}{c:s_ (Key×Db)}(z:b.length<=sizeLine)(f:(a==sysModules)=r_)(rel:KV b c)(g:d.DictOf (BO P w) a c):
  ObjOk P w e d a (.dK b):=⟨z,f,c,rel,g⟩
theorem Ua{D:Hp}{Q:Unit->Go->Prop}(M:A.units+1<cLine)(I:Inv X zH σ H s)(g:DPut H a y v D)(F:RelV y u)(rv:RelV v r)(h:∀G,Inv X zH σ D G->Q () G):
  wpAny (model X.prog X.w) A (setItem (.ref a) u r) Q E s:=by
 rcases g with⟨d,k,e,m,l,n⟩|⟨d,k,b,e,m,J,l,n⟩
 ·subst m n
  let⟨z,p,N,f,t⟩:=ZN I.hok e;have x:N.length<=sizeLine:=by rw[←f.length];exact z
  have B:(putK d k v).length<=sizeLine:=by have:=Fj d k v;omega
  refine wpAny_setItem_pairs (hsz:=x) (Jc F) t λK i C=>h _ ?_;have O:∃q,K.get? a=P3 q:=let ⟨q,_,_,j,_⟩:=i;⟨q,j⟩
  exact OK I (by rw[e];exact ip) C O (Wg B p (f.put k rv) i)
 ·subst m n
  cases(show u=gY b from F);let⟨z,p,P,f,t⟩:=dO I.hok e;have x:P.length<=sizeLine:=by rw[←Paired.length f];exact z
  have B:(putK d k v).length<=sizeLine:=by have:=Fj d k v;omega
  refine wpAny_setItem_heap (hsz:=x) (jZ M) (HH I.hok J) t λK i C=>h _ ?_;let⟨q,R,S,j,T,U,V,_,W⟩:=i;refine OK I (by rw[e];exact ip) C ⟨q,j⟩ ⟨B,p,_,(f.put k J rv).keeps λc Y L=>?_,q,R,S,j,T,U,V,W⟩;rw[AT (c0 L e (λz=>nomatch z))];exact L
end
def bT(i:gj):Prop:=∀a b,subscripted i r_ a b=operate [a,b] (getItem a b)
theorem Xj{b:gi}{w:gn}{A:gw}{E:Db->Go->Prop}{s:Go}{g:Env}{c a:gj}{pos:Pos}{T m:String}{Q:Db->Go->Prop}
  (n:typeLookup (.type T) "__getitem__"=pure (P3 (.builtin m))) (p:bT a)
  (h:wpAny (model b w) A (eval c g) (λo f=>wpAny (model b w) A (eval a g) (λi d=>d.TypeIs o T/\wpAny (model b w) A (getItem o i) Q E d) E f) E s):
  wpAny (model b w) A (eval (.Subscript c a pos) g) Q E s:=by
 refine Subscript_ (g9 h (λo f j=>g9 j (λi d e=>?_) λ_ _ x=>x) λ_ _ x=>x);let⟨q,e⟩:=e;refine Cn ?_;refine Cn (mw q n ?_)
 first
  |exact Sc (Cn (by
  rw[p o i];exact wpAny_operating (g9 e (λr l k=>Cn (wpAny_letTemporaryGo (Sc k))) λ_ _ x=>x)))
  |grind
  |grind
theorem P6{X:Cx}{f:s_ (Ch×Obj)}{h:St}{H:Hp}{s:Go}{a:Ch}{y:V}{o:t_ V}(I:Inv X f h H s)(g:DGet H a y o):s.TypeIs (.ref a) "dict":=by
 rcases g with⟨c,k,e,_,_⟩|⟨c,k,b,e,_,_,_⟩
 ·let⟨_,_,i,_,d⟩:=Gp I.hok e
  exact d.typeIs
 ·let⟨_,_,j,_,d⟩:=Jh I.hok e
  exact d.typeIs
def cF(c ty:TE):TE:=λb H Q=>c b H λx d=>ty b d λy H2=>∃a v,x=.ref a/\DGet H2 a y (P3 v)/\Q v H2
def cK(d ty e:TE):TS:=λD b H=>e b H λv f=>d b f λx H2=>ty b H2 λy g=>∃a c,x=.ref a/\DPut g a y v c/\D.nx b c
section
variable {X:Cx}{o i value:Expr}{pos pos':Pos}{td ty tv:TE}
theorem Nk(e:X.A.units+1<cLine)(f:PE X o td)(j:PE X i ty)(k:bT i):PE X (.Subscript o i pos) (cF td ty):=by
 intro z s c H Q I h;refine Xj PySem.F.slot_dict_getitem.lookup k (thn (f _ s c H _ I h) λu l ⟨x,m,n,p,q⟩=>thn (j _ l c m _ n q) λB C ⟨y,H2,d,r,a,v,ex,g,t⟩=>?_);subst ex;obtain rfl:u=gY a:=p;exact⟨P6 d g,Ub e d g r λD E w b=>⟨v,H2,w,b,t⟩⟩
theorem KG(c:X.A.units+1<cLine)(d:PE X o td)(e:PE X i ty)(f:PE X value tv)(j:swapsWith value (P3 (.Subscript o i pos')) pos.line X.env=pure r_):
  PS X (.Assign [.Subscript o i pos'] value pos) (cK td ty tv):=by
 intro J s b H D I h;refine wpAny_Assign_Subscript (thn (f _ s b H _ I h) λr k ⟨v,l,m,n,p⟩=>thn (d _ k b l _ m p) λu q ⟨x,H2,t,w,z⟩=>thn (e _ q b H2 _ t z) λK L ⟨y,M,B,C,a,E,ex,g,F⟩=>?_) j;subst ex;obtain rfl:u=gY a:=w;exact Ua c B g C n λN G=>⟨b,E,G,F⟩
end
theorem P5{P:gi}{w:gn}{H:Hp}(h:gf)(a:sysModules<h.objs.size):ObjOk P w H (h.push {cls:=.type "dict",data:=.dict #[]}) h.objs.size (.dK []):=
 ⟨Tk _,beq_eq_false_iff_ne.mpr (iM (gg a)),[],.nil,Heap.DictOf.new h⟩
def Zp:TE:=λ_ H Q=>∀p,H p=p_->Q (.ref p) (A2 H p (.dK []))
section
variable {X:Cx}{pos:Pos}
theorem PL:PE X (.Dict [] [] pos) Zp:=λa s b H Q I h=>
 wpAny_Dict_empty ⟨.ref _,_,I.laid (λ_ _ q=>Ev _ q) (On _) (P5 _ I.big),rfl,h _ (I.hok.fresh (On _))⟩
end
def Qb:s_ (TE×TE)->St->Hp->(s_ (V×V)->Hp->Prop)->Prop
 |[],_,H,Q=>Q [] H
 |(b,c)::r,a,H,Q=>b a H λx d=>c a d λy H2=>Qb r a H2 λe f=>Q ((x,y)::e) f
abbrev VV:s_ (V×V)->s_ (Db×Db)->Prop:=Paired λp q=>RelV p.1 q.1/\RelV p.2 q.2
def eM(X:Cx)(pos:Pos)(b:s_ (t_ gj))(a:s_ gj)(c:s_ (TE×TE)):Prop:=
 ∀(e:s_ (Ch×Obj)) (s:Go) (d:St) (H:Hp) (Q:s_ (V×V)->Hp->Prop),Inv X e d H s->Qb c d H Q->
  wpAny (model X.prog X.w) X.A (evalPairs (pairTrees b a X.env pos)) (λh i=>∃f g,Inv X e d g i/\VV f h/\Q f g) X.xe s
theorem Xu{X:Cx}{pos:Pos}:eM X pos [] [] []:=λa s b H Q I h=>pairTrees_nil_walk ⟨[],H,I,.nil,h⟩
theorem Vh{X:Cx}{pos:Pos}{k v:gj}{d:s_ (t_ gj)}{e:s_ gj}{f g:TE}{a:s_ (TE×TE)}(i:PE X k f)(j:PE X v g)(l:eM X pos d e a):
  eM X pos (P3 k::d) (v::e) ((f,g)::a):=λD s b H Q I h=>
 pairTrees_cons_walk (thn (i _ s b H _ I h) λu m ⟨x,n,o,p,q⟩=>thn (j _ m b n _ o q) λE r ⟨y,H2,t,w,z⟩=>
  thn (l _ r b H2 _ t z) λF G ⟨J,A,B,c,C⟩=>⟨_,A,B,.cons ⟨p,w⟩ c,C⟩)
def LG(a more:s_ (Key×V)):s_ (Key×V):=more.foldl (λb c=>putK b c.1 c.2) a
theorem KV.merge:∀{a:s_ (Key×V)}{d:s_ (Key×Db)}{b:s_ (Key×V)}{c:s_ (Key×Db)},KV a d->KV b c->KV (LG b a) (merged c d):=by
 intro a d b c r
 induction r generalizing b c with
 |nil=>intro q;exact q
 | @cons p q g i h t e=>
  intro f
  exact e (by
   have:=f.put p.1 h.2
   simp_all)
theorem Gk:∀(more a:s_ (Key×V)),(LG a more).length<=a.length+more.length
 |[],a=>by show a.length<=a.length+0;omega
 |p::r,a=>by
  have b:=Gk r (putK a p.1 p.2);have c:=Fj a p.1 p.2;show(LG _ r).length<=_
  grind
theorem Li{P:gi}{w:gn}:∀{d:s_ (Key×V)}{f:s_ (Db×Db)},VV (d.map λg=>(kV g.1,g.2)) f->∃e,Carries (BO P w) f e/\KV d e
 |[],_,r=>by cases r;exact⟨[],ip,.nil⟩
 | p::d,_,r=>by
  cases r with
  |@cons a b j k h t=>
   let⟨e,c,q⟩:=Li t;let⟨l,i⟩:=b;exact⟨(p.1,i)::e,⟨Jc h.1,rfl,c⟩,.cons ⟨rfl,h.2⟩ q⟩
def cE(b:s_ (TE×TE)):TE:=λd H Q=>∀p,H p=p_->Qb b d (A2 H p (.dK [])) λe H2=>H2 p=P3 (.dK [])/\∃a:s_ (Key×V),e=a.map (λc=>(kV c.1,c.2))/\a.length<=15/\Q (.ref p) (A2 H2 p (.dK (LG [] a)))
theorem Xz{X:Cx}{pos:Pos}{b:s_ (t_ gj)}{d:s_ gj}{f:s_ (TE×TE)}(h:eM X pos b d f)(g:b.all (·.isSome)=q_)(n:b.length=d.length)(p:b≠[])
  (k:b.length<=15):PE X (.Dict b d pos) (cE f):=by
 intro r s t H Q I q;have u:=I.hok.fresh (On s.heap.objs.size);have v:=I.laid (a:=s.heap.objs.size) (o:=.dK []) (h':=s.heap.push {cls:=.type "dict",data:=.dict #[]}) (t':=s.toks) (λ_ _ q=>Ev _ q) (On _) (P5 s.heap I.big);refine wpAny_Dict_walk (knd:=BO X.prog X.w) g n p k (thn (h r _ t _ _ v (q _ u)) λN O ⟨R,H2,m,l,e,i,x,S,y⟩=>?_);subst x;let⟨A,c,B⟩:=Li (P:=X.prog) (w:=X.w) l;let⟨z,C,D,E,F⟩:=ZN m.hok e;cases E;refine⟨A,c,F,λh' j G=>⟨.ref s.heap.objs.size,_,?_,rfl,y⟩⟩
 have J:(LG [] i).length<=sizeLine:=by
  have K:=Gk i [];rw[ik]at K;rw[iK];omega
 have L:∃q,h'.get? s.heap.objs.size=P3 q:=let ⟨q,_,_,M,_⟩:=j;⟨q,M⟩
 exact OK m (by rw[e];exact ip) G L (Wg J C (B.merge .nil) j)
structure M1 (X:Cx) (o:gj) (m:Str) (apos:Pos) (e:gj) (cpos:Pos):Prop where
 base:attributeBase o m X.env (eval o X.env)=eval o X.env
 few:((backTo cpos (starEach [e] X.env)).all (λx=>!x.1)&&(backToKw cpos (keywordEach [] X.env)).all (λx=>x.1.isSome)
  && decide (([e]:List gj).length+([]:List jJ).length+(if([]:List jJ).isEmpty then 0 else 1)<30))=q_
 line:(apos.endLine==cpos.line)=q_
 trees:backTo cpos (starEach [e] X.env)=[(r_,eval e X.env)]
structure M2 (X:Cx) (o:gj) (m:Str) (apos:Pos) (e f:gj) (cpos:Pos):Prop where
 base:attributeBase o m X.env (eval o X.env)=eval o X.env
 few:((backTo cpos (starEach [e,f] X.env)).all (λx=>!x.1)&&(backToKw cpos (keywordEach [] X.env)).all (λx=>x.1.isSome)
  && decide (([e,f]:List gj).length+([]:List jJ).length+(if([]:List jJ).isEmpty then 0 else 1)<30))=q_
 line:(apos.endLine==cpos.line)=q_
 trees:backTo cpos (starEach [e,f] X.env)=[(r_,eval e X.env),(r_,eval f X.env)]
def eO(H:Hp)(a:Ch):Prop:=(∃b,Rd H a (.dK b))\/∃b,Rd H a (.dT b)
theorem RG{X:Cx}{k:s_ (Ch×Obj)}{l:St}{H:Hp}{s:Go}{a:Ch}(I:Inv X k l H s)(d:eO H a):
  s.TypeIs (.ref a) "dict"/\(∀b,gY a=.ref b->∃c,s.heap.get? b=P3 c/\c.dict=p_)/\(a==sysModules)=r_:=by
 rcases d with⟨g,e⟩|⟨g,e⟩
 ·let⟨_,h,m,_,f⟩:=Gp I.hok e
  refine⟨f.typeIs,λb q=>?_,h⟩;cases q;let⟨c,_,_,i,j,_⟩:=f;exact⟨c,i,j.2.1⟩
 ·let⟨_,h,n,_,f⟩:=Jh I.hok e
  refine⟨f.typeIs,λb q=>?_,h⟩;cases q;let⟨c,_,_,i,j,_⟩:=f;exact⟨c,i,j.2.1⟩
section
variable {X:Cx}{zH:s_ (Addr×Obj)}{σ:St}{H:Hp}{s:Shared}{a:Addr}{y d:V}{u r:Value}{o:t_ V}{A:Around}{E:Value->Shared->Prop}
theorem a9{Q:Db->Go->Prop}(t:A.units+1<cLine)(I:Inv X zH σ H s)(g:DGet H a y o)(n:RelV y u)(h:∀p q,Inv X zH σ H q->RelV (o.getD .non) p->Q p q):
  wpAny (model X.prog X.w) A (call (.builtin "dict.get") [.ref a,u]) Q E s:=by
 rcases g with⟨i,k,e,j,l⟩|⟨i,k,b,e,j,v,l⟩
 ·subst j
  let⟨z,m,B,c,f⟩:=Gp I.hok e;refine lU PySem.F.slot_dict_get f.typeIs PySem.F.entry_dict_get (PySem.F.args_dict_get_2 _ _) (meets_dict_get (BO X.prog X.w) a (Jc n) m) ⟨_,f.mapOf,h _ _ (I.tok _) ?_⟩;rw[l];exact(c.val k).getD rfl
 ·subst j
  cases(n);let⟨z,m,x,c,f⟩:=Jh I.hok e;refine lU PySem.F.slot_dict_get f.typeIs PySem.F.entry_dict_get (PySem.F.args_dict_get_2 _ _) (meetsH_dict_get _ a b m) ⟨jZ t,k,x,HH I.hok v,f,h _ _ (I.tok _) ?_⟩;rw[l];exact(c.val k).getD rfl
theorem az{Q:Db->Go->Prop}(v:A.units+1<cLine)(I:Inv X zH σ H s)(g:DGet H a y o)(n:RelV y u)(p:RelV d r)(h:∀q t,Inv X zH σ H t->RelV (o.getD d) q->Q q t):
  wpAny (model X.prog X.w) A (call (.builtin "dict.get") [.ref a,u,r]) Q E s:=by
 rcases g with⟨i,k,e,j,l⟩|⟨i,k,b,e,j,x,l⟩
 ·subst j
  let⟨z,m,C,c,f⟩:=Gp I.hok e;refine lU PySem.F.slot_dict_get f.typeIs PySem.F.entry_dict_get (PySem.F.args_dict_get_3 _ _ _) (meets_dict_get_default (BO X.prog X.w) a (Jc n) m r) ⟨_,f.mapOf,h _ _ (I.tok _) ?_⟩;rw[l];exact(c.val k).getD p
 ·subst j
  cases(n);let⟨z,m,B,c,f⟩:=Jh I.hok e;refine lU PySem.F.slot_dict_get f.typeIs PySem.F.entry_dict_get (PySem.F.args_dict_get_3 _ _ _) (meetsH_dict_get_default _ a b m r) ⟨jZ v,k,B,HH I.hok x,f,h _ _ (I.tok _) ?_⟩;rw[l];exact(c.val k).getD p
end
def Zr(d ty:TE):TE:=λb H Q=>d b H λx c=>∃a,x=.ref a/\eO c a/\ty b c λy H2=>∃o,DGet H2 a y o/\Q (o.getD .non) H2
def Zq(e ty f:TE):TE:=λb H Q=>e b H λx c=>∃a,x=.ref a/\eO c a/\ty b c λy H2=>f b H2 λz d=>∃o,DGet d a y o/\Q (o.getD z) d
section
variable {X:Cx}{o e f:Expr}{apos cpos:Pos}{td ty tx:TE}
theorem Vu(j:X.A.units+1<cLine)(k:PE X o td)(l:PE X e ty)(m:M1 X o "get" apos e cpos):PE X (.Call (.Attribute o "get" apos) [e] [] cpos) (Zr td ty):=by
 intro D s c H Q I h;refine wpAny_Call_method m.base m.few m.line PySem.F.plainAttrs_dict PySem.F.slot_dict_get PySem.F.type_dict_get (thn (k _ s c H _ I h) λu n ⟨x,p,i,q,a,ex,d,r⟩=>?_);subst ex;obtain rfl:u=gY a:=q;let⟨t,v,_⟩:=RG i d;exists t,v;rw[m.trees];exact jX rfl (kM (jI (thn (l _ n c p _ i r) λE G ⟨y,H2,w,z,J,g,B⟩=>ji (a9 j w g z λK L C b=>⟨_,H2,C,b,B⟩))))
theorem Vt(j:X.A.units+1<cLine)(k:PE X o td)(l:PE X e ty)(n:PE X f tx)(m:M2 X o "get" apos e f cpos):PE X (.Call (.Attribute o "get" apos) [e,f] [] cpos) (Zq td ty tx):=by
 intro N s b H Q I h;refine wpAny_Call_method m.base m.few m.line PySem.F.plainAttrs_dict PySem.F.slot_dict_get PySem.F.type_dict_get (thn (k _ s b H _ I h) λu p ⟨x,q,i,r,a,ex,d,t⟩=>?_);subst ex;obtain rfl:u=gY a:=r;let⟨v,w,_⟩:=RG i d;exists v,w;rw[m.trees]
 exact jX rfl (kM (jI (thn (l _ p b q _ i t) λO B ⟨y,H2,C,D,E⟩=>
  jI (thn (n _ B b H2 _ C E) λP R ⟨z,G,J,K,S,g,L⟩=>ji (az j J g D K λT U M c=>⟨_,G,M,c,L⟩)))))
end
end L2
set_option maxHeartbeats 4000000
namespace L2
section
theorem RS{g:Env}:∀(f:s_ (Str×jU)) (h:s_ (Str×Ch)),(∀x,(x,iH)∈f->∃c,g.cells.lookup x=P3 c)->(∀x c,h.lookup x=P3 c->g.cells.lookup x=P3 c)->
  ∃i,(forIn f h fun(x:Str×jU) (r:s_ (Str×Ch))=>(if(x.2==iH)=q_ then do let a ←cellOf g x.1;pure (jO ((x.1,a)::r))else pure (jO r):Sem (ForInStep (s_ (Str×Ch)))))=(pure i:Sem _) /\
   (∀x c,i.lookup x=P3 c->g.cells.lookup x=P3 c)/\(∀x,((x,iH)∈f\/∃c,h.lookup x=P3 c)->∃c,i.lookup x=P3 c):=by
 intro f
 induction f with
 |nil=>
  intro h _ m;exact⟨h,rfl,m,λx d=>d.elim (λz=>absurd z (by simp)) λz=>z⟩
 | cons p r w=>
  intro h q m;let⟨n,k⟩:=p
  by_cases s:k=iH
  ·subst s
   let⟨c,y⟩:=q n Op;have j:cellOf g n=pure c:=by simp only[cellOf,y]
   let⟨i,e,a,b⟩:=w ((n,c)::h) (λx d=>q x (Rs _ d)) (λx o d=>by
    rw[jq]at d;cases t:x==n with
    |true=>
     rw[t]at d;have u:P3 c=P3 o:=d;cases u
     have:x=n:=by simpa using t
     rw[this];exact y
    |false=>rw[t]at d;exact m x o d)
   refine⟨i,?_,a,λx d=>b x ?_⟩
   ·rw[kc]
    simp only[beq_self_eq_true,if_true,j,pure_bind];exact e
   ·by_cases l:x=n
    ·subst l
     exact .inr ⟨c,by simp[jq]⟩
    ·rcases d with d|⟨o,d⟩
     ·rcases TW.mp d with d|d
      ·cases d;exact absurd rfl l
      ·exact .inl d
     ·refine .inr ⟨o,?_⟩
      have:(x==n)=r_:=by simpa using l
      rw[jq,this];exact d
  ·have v:(k==iH)=r_:=by simpa using s
   let⟨i,e,a,b⟩:=w h (λx d=>q x (Rs _ d)) m;refine⟨i,?_,a,λx d=>b x ?_⟩
   ·rw[kc]
    simp only[v,jB,if_false,pure_bind];exact e
   ·rcases d with d|d
    ·rcases TW.mp d with d|d
     ·cases d;exact absurd rfl s
     ·exact .inl d
    ·exact .inr d
theorem Lh{scope:jN}{env:Env}(h:∀x,(x,iH)∈scope.names->∃c,env.cells.lookup x=P3 c):
  ∃d,closureFor scope env=pure d/\(∀x c,d.lookup x=P3 c->env.cells.lookup x=P3 c)/\(∀x,(x,iH)∈scope.names->∃c,d.lookup x=P3 c):=by
 let⟨d,e,a,b⟩:=RS _ [] h (λx c f=>by simp at f);refine⟨d,?_,a,λx f=>b x (.inl f)⟩;simp[closureFor]
 simp_all
variable {prog:Program}{w:World}{A:Around}{R:Result->Shared->Prop}{s:Shared}
theorem OL{t a u:gj}{y:s_ gj}{p:jN}{pos:Pos}{F z:Db}{b:Env}(I:Nat->Go->Prop)
  (B:∀n s,I n s->wpAny (model prog w) A (pyNext F) (λr d=>match r with
   |none=>R (.ok .next) d
   | some v=>wpAny (model prog w) A (letOwnedTupleGo a F v) (λ_ e=>wpAny (model prog w) A (assign a b v) (λ_ i=>
     wpAny (model prog w) A (forIn y q_ λc r=>if r=q_ then do let ok ←isTrue c b (eval c b);pure (jO ok)else pure (jO r)) (λok f=>
      if ok=q_ then wpAny (model prog w) A (eval t b) (λx j=>
       wpAny (model prog w) A (call (.builtin "list.append") [z,x]) (λ_ k=>∃m,m<n/\I m k) (λ_ _=>False) j) (λ_ _=>False) f
      else ∃m,m<n/\I m f) (λ_ _=>False) i) (λ_ _=>False) e) (λ_ _=>False) d) (λ_ _=>False) s)
  (n:Nat) (h:I n s):
  codeAny (model prog w) A (.compLoop (.ListComp t [⟨a,u,y,0⟩] p pos) 0 F z b) R s:=by
 refine codeAny_loop rfl I (λn s G=>?_) n h;refine wpAny_noted ?_;refine Cn (lF (Cn (g9 (B n s G) (λr d l=>?_) λ_ _ g=>g.elim)));cases r with
 |none=>exact Sc l
 | some v=>
  refine Cn (g9 l (λ_ e q=>?_) λ_ _ g=>g.elim);refine Cn (g9 q (λ_ i C=>Cn (g9 C (λok f o=>?_) λ_ _ g=>g.elim)) λ_ _ g=>g.elim);cases ok with
  |false=>exact Sc ⟨rfl,o⟩
  |true=>
   exact Cn (Cn (g9 o (λx j D=>Cn (g9 D (λ_ k E=>Sc (Sc ⟨rfl,E⟩)) λ_ _ g=>g.elim)) λ_ _ g=>g.elim))
end
def A8(X:Cx)(a:jN)(b:s_ Str)(c:s_ (Str×Ch))(C:Ch)(s:Go)(H:Hp)(ex:s_ Ch):Cx where
 prog:=X.prog
 w:=X.w
 K:=X.K
 mg:=X.mg
 base:=X.base
 A:=X.A
 N:=b
 s₀:=s
 H₀:=H
 env:=compEnvC a c C X.env
 outer:=X.stack
 stack:=X.stack
 ex:=ex
 fn:=λ_=>r_
 calm:=q_
 pn:=[]
 xe:=λ_ _=>False
def Cu(a:s_ (t_ Nat))(b:St):St:=a.map λo=>match o with
 |some i=>(b[i]?).getD p_
 |none=>p_
def YI(o:t_ jU):Bool:=match o with
 |some .cell=>q_
 |some .free=>q_
 |_=>r_
theorem SS{o:t_ jU}(h:YI o=q_):o=P3 .cell\/o=P3 .free:=by
 unfold YI at h
 split at h
 ·grind
 ·grind
 ·cases h
def isFree(o:t_ jU):Bool:=match o with
 |some .free=>q_
 |_=>r_
theorem UN{o:t_ jU}(h:isFree o=q_):o=P3 .free:=by
 unfold isFree at h
 split at h
 ·rfl
 ·cases h
def WK(o:t_ jU):Bool:=match o with
 |some .local=>q_
 |_=>r_
theorem WJ{o:t_ jU}(h:WK o=q_):o=P3 .local:=by
 unfold WK at h
 split at h
 ·rfl
 ·cases h
def WM(k:ScopeKind):Bool:=match k with
 |.function=>q_
 |_=>r_
theorem WL{k:ScopeKind}(h:WM k=q_):k=.function:=by
 unfold WM at h
 split at h
 ·rfl
 ·cases h
def fB(b a:jN)(p:Str×jU):Bool:=match p.2 with
 |.cell=>r_
 |.free=>YI (a.names.lookup p.1)
 |.local=>WK (b.names.lookup p.1)
 |_=>q_
def fN(x:t_ Str)(y:Str):Bool:=match x with
 |some z=>z==y
 |none=>r_
theorem ak{x:t_ Str}{y:Str}(h:fN x y=q_):x=P3 y:=by
 unfold fN at h
 split at h
 ·grind
 ·cases h
def Lj(b a:jN)(N:s_ Str):s_ Str->s_ (t_ Nat)->Bool
 |[],[]=>q_
 |x::c,P3 j::d=>isFree (b.names.lookup x)&&fN (N[j]?) x&&YI (a.names.lookup x)&&Lj b a N c d
 |_::c,p_::d=>Lj b a N c d
 |_,_=>r_
def IF(b a:jN)(N c:s_ Str)(d:s_ (t_ Nat)):Bool:=WM b.kind&&b.names.all (fB b a)&&Lj b a N c d
theorem Fv{d b:jN}{N:s_ Str}:∀{c:s_ Str}{a:s_ (t_ Nat)},Lj d b N c a=q_->a.length=c.length
 |[],[],_=>rfl
 |x::e,P3 j::a,h=>by
  unfold Lj at h;rw[gX]at h;rw[gS,gS,Fv h.2]
 |x::e,p_::a,h=>by
  unfold Lj at h;rw[gS,gS,Fv h]
 |[],P3 _::_,h=>by cases h
 |[],p_::_,h=>by cases h
 |_::_,[],h=>by cases h
theorem OM{e a:jN}{N:s_ Str}:∀{f:s_ Str}{d:s_ (t_ Nat)},Lj e a N f d=q_->∀{k:Nat}{x:Str}{j:Nat},f[k]?=P3 x->d[k]?=P3 (P3 j)->
  e.names.lookup x=P3 .free/\N[j]?=P3 x/\(a.names.lookup x=P3 .cell\/a.names.lookup x=P3 .free)
 |[],_,_,k,x,j,b,_=>by simp at b
 |_::_,[],h,_,_,_,_,_=>by unfold Lj at h;cases h
 | y::g,P3 i::d,h,k,x,j,b,c=>by
  unfold Lj at h;rw[gX,gX,gX]at h;cases k with
  |zero=>
   simp at b c;subst b c;exact⟨UN h.1.1.1,ak h.1.1.2,SS h.1.2⟩
  |succ k=>exact OM h.2 (k:=k) (by simpa using b) (by simpa using c)
 |y::g,p_::d,h,k,x,j,b,c=>by
  unfold Lj at h;cases k with
  |zero=>simp at c
  |succ k=>exact OM h (k:=k) (by simpa using b) (by simpa using c)
theorem UG{a:s_ (t_ Nat)}{b:St}{k:Nat}{v:V}(h:(Cu a b)[k]?=P3 (P3 v)):∃j,a[k]?=P3 (P3 j)/\b[j]?=P3 (P3 v):=by
 unfold Cu at h;rw[gR]at h;cases e:a[k]? with
 |none=>simp_all
 | some o=>
  rw[e]at h;cases o with
  |none=>cases h
  |some j=>
   cases q:b[j]? with
   |none=>simp_all
   |some w=>simp_all
theorem DR{a:Env}:∀{b:s_ (Str×jU)}{x:Str},b.lookup x=P3 .free->
  (b.map fun(n,k)=>if(k==iH&&a.scope.kind==.function&&a.kindOf n==P3 .cell)then(n,lG)else(n,k)).lookup x=P3 .cell \/
  (b.map fun(n,k)=>if(k==iH&&a.scope.kind==.function&&a.kindOf n==P3 .cell)then(n,lG)else(n,k)).lookup x=P3 .free
 |[],_,h=>by simp at h
 | (n,k)::r,x,h=>by
  have d:=@DR a r x;show kX x ((if(k==iH&&a.scope.kind==.function&&a.kindOf n==P3 .cell)=q_ then(n,lG)else(n,k))::_)=_\/kX x ((if(k==iH&&a.scope.kind==.function&&a.kindOf n==P3 .cell)=q_ then(n,lG)else(n,k))::_)=_
  by_cases e:(k==iH&&a.scope.kind==.function&&a.kindOf n==P3 .cell)=q_
  ·rw[if_pos e]
   cases c:x==n with
   |true=>exact .inl (by simp only[jq,c])
   |false=>
    simp only[jq,c]at h ⊢;exact d h
  ·rw[if_neg e]
   cases c:x==n with
   |true=>
    simp_all
   |false=>
    simp only[jq,c]at h ⊢;exact d h
theorem Qk{env:Env}{a:jN}(c:∀y∈a.names,y.2≠.cell){x:Str}(h:(relabel a env).names.lookup x=P3 .cell\/(relabel a env).names.lookup x=P3 .free):(x,iH)∈a.names:=by
 have e:(x,lG)∈(relabel a _).names\/(x,iH)∈(relabel a _).names:=h.elim (λz=>.inl (PySem.mem_of_lookup z)) λz=>.inr (PySem.mem_of_lookup z)
 have d:∀k,(k=.cell\/k=.free)->(x,k)∈(relabel a env).names->(x,iH)∈a.names:=by
  intro k f b;unfold relabel at b
  grind
 exact e.elim (d _ (.inl rfl)) (d _ (.inr rfl))
section
variable {X:Cx}{zH:s_ (Addr×Obj)}{σ:St}{H:Hp}{s:Shared}
structure CompOk (X:Cx) (sc:jN) (N':List Str) (js:List (Option Nat)):Prop where
 kind:sc.kind=.function
 cell:∀y∈sc.names,y.2≠.cell
 free:∀x,(x,iH)∈sc.names->X.env.scope.names.lookup x=P3 .cell\/X.env.scope.names.lookup x=P3 .free
 names:∀y∈sc.names,y.2=.local->sc.names.lookup y.1=P3 .local
 cap:Lj sc X.env.scope X.N N' js=q_
theorem CompOk.of{c:jN}{d:s_ Str}{f:s_ (t_ Nat)}(h:IF c X.env.scope X.N d f=q_):CompOk X c d f:=by
 unfold IF at h;rw[gX,gX,iQ]at h;let⟨⟨g,a⟩,i⟩:=h;refine⟨WL g,λy b e=>?_,λx j=>?_,λy b e=>?_,i⟩
 ·have q:=a y b
  unfold fB at q
  simp_all
 ·have q:=a _ j
  exact SS q
 ·have q:=a y b
  unfold fB at q;rw[e]at q;exact WJ q
theorem Pu{D:jN}{E:s_ Str}{K:s_ (t_ Nat)}{B:s_ (Str×Ch)}{F:s_ Ch}{f:gf}{V:Nat}(I:Inv X zH σ H s)(W:X.calm=q_)(O:CompOk X D E K)
  (d:∀x c,B.lookup x=P3 c->X.env.cells.lookup x=P3 c) (k:∀x,(x,iH)∈D.names->∃c,B.lookup x=P3 c)
  (G:∀b∈F,Ge X zH H b) (Y:∀b∈F,∃o,s.heap.get? b=P3 o)
  (L:f.Ns (s.heap.objs.size+1) (λ_=>p_)) (J:∀b o,s.heap.get? b=P3 o->f.get? b=P3 o) (Z:∃n,f.get? s.heap.objs.size=P3 {cls:=.type "list",data:=.seq #[] n}):
  Inv (A8 X D E B (s.heap.objs.size+1) s H F) [] (Cu K σ) (A2 H s.heap.objs.size (.lst [])) {s with heap:=f,toks:=V}:=by
 have fr:∀a,s.heap.objs.size<=a->H a=p_:=λa ha=>I.hok.fresh ha
 have h:∀x c,B.lookup x=P3 c->c<s.heap.objs.size:=λx c e=>by
  let⟨v,q⟩:=I.cell x c (d x c e);exact q.lt
 have ok:(A8 X D E B (s.heap.objs.size+1) s H F).Ok:=by
  refine⟨I.ok.mod,O.kind,I.ok.glob,I.ok.blt,iE _,λx y c C M=>I.ok.inj x y c (d x c C) (d y c M),λx N=>?_,λx c N=>?_,λ_=>I.ok.hd W,I.ok.frames,.inl rfl,λb t=>⟨?_,λx c e=>?_⟩,I.bs,gc I.ok.bsz I.sz,λb o e t=>?_,λb t P=>?_,I.stack,I.stkFree⟩
  ·exact k x (Qk (env:=X.env) O.cell N)
  ·exact absurd (show r_=q_ from N) gh
  ·let⟨o,e⟩:=Y b t
   exact gg (iw (UF e))
  ·exact(G b t).2.2.2.2.1 x c (d x c e)
  ·rcases(G b t).2.2.2.1 with z|z
   ·exact I.ok.noex b o e z
   ·have C:b<X.base.objs.size:=UF e
    exact absurd (gv C (gc I.ok.bsz z)) (iY _)
  ·rcases TW.mp (I.stkSub b P)with z|z
   ·exact(G b t).2.1 z
   ·exact(G b t).2.2.1 z
 exists ok,rfl,I.bare,?_,⟨_,L,λi x v C M h3=>?_⟩,λx c e=>?_,?_,λx c e=>?_,λp hp=>absurd (show p∈([]:s_ (Ch×Obj))from hp) (by simp),?_
 ·exact Un.laid J (On _) (fr _ (On _))
 ·let⟨j,e1,e2⟩:=UG M
  let⟨T,c2,A⟩:=OM O.cap C e1;let⟨m,_,hl⟩:=I.loc;let⟨u,r,l⟩:=hl j x v c2 e2 (.inr A);refine⟨u,r,.inr ⟨DR T,?_⟩⟩
  rcases l with⟨l1,_⟩|⟨_,c,l2,l3⟩
  ·have Q:X.env.scope.names.lookup x=P3 .local:=l1
   rcases A with A|A <;>(rw[Q]at A;cases A)
  ·let⟨R,U⟩:=k x (PySem.mem_of_lookup T)
   have:R=c:=gW ((d x R U).symm.trans l2)
   subst this;let⟨S,w,g⟩:=id l3;exact⟨R,U,S,J _ _ w,g⟩
 ·let⟨v,S,w,g⟩:=I.cell x c (d x c e)
  exact⟨v,S,J _ _ w,g⟩
 ·show A2 H s.heap.objs.size (.lst []) (s.heap.objs.size+1)=p_
  rw[AT (Nat.succ_ne_self _)];exact fr _ (iE _)
 ·show A2 H s.heap.objs.size (.lst []) c=p_
  rw[AT (gg (h x c e))];exact I.freeC x c (d x c e)
 ·refine I.hok.laid J (On _) ?_
  let⟨n,e⟩:=Z;exact⟨Tk _,[],n,.nil,e⟩
 ·unfold Cu
  show(K.map _).length=E.length;rw[No];exact Fv O.cap
theorem Un.but{fs ex:s_ Ch}{H d:Hp}{h a f:gf}{C:Ch}(u:Un fs ex H d h a)(k:h.get? C=p_)(g:∀b,b≠C->f.get? b=a.get? b):Un fs ex H d h f:=by
 have i:∀{b:Ch}{o:Obj},h.get? b=P3 o->b≠C:=λ{b o} e z=>by grind
 refine⟨λb o e n a c=>(g b (i e)).trans (u.keep b o e n a c),λb o e n a c=>?_,u.free,λb o e a=>?_,u.tups,u.frzs,u.tbls⟩
 ·let⟨j,q⟩:=u.slot b o e n a c
  exact⟨j,(g b (i e)).trans q⟩
 ·let⟨l,q⟩:=u.there b o e a
  simp_all
theorem LN{j:jN}{k:s_ Str}{l:s_ (Str×Ch)}{C:Ch}{g:s_ Ch}{c:s_ (Ch×Obj)}{m:St}{d:Hp}{f:Go}{h':gf}(I:Inv X zH σ H s)(n:∀b∈g,Ge X zH H b)(p:s.heap.objs.size<=C)
  (J:Inv (A8 X j k l C s H g) c m d f) (h:∀b,b≠C->h'.get? b=f.heap.get? b):Inv X zH σ d {f with heap:=h'}:=by
 have r:d C=p_:=J.free
 refine I.call' J.os (Un.but J.base (by
  cases e:s.heap.get? C with
  |none=>rfl
  |some o=>exact absurd (UF e) (ko.mpr p)) h) (λa o e=>(J.hok a o e).stay (λb u i q=>(h b (λz=>by
   grind)).trans q) (λ_ q=>q) λ_ _ q=>q) J.bare λb i=>?_
 ·let⟨y,t,A,v,w,x⟩:=n b i
  exact⟨v,t,w,x⟩
end
def da(X:Cx)(a:s_ gj)(t:TT):Prop:=
 ∀(d:s_ (Ch×Obj)) (s:Go) (b:St) (H:Hp) (Q:Bool->Hp->Prop),Inv X d b H s->t b H Q->
  wpAny (model X.prog X.w) X.A (forIn a q_ λc r=>if r=q_ then do let ok ←isTrue c X.env (eval c X.env);pure (jO ok)else pure (jO r)) (TP X d b Q) X.xe s
def eV:TT:=λ_ H Q=>Q q_ H
theorem Xw{X:Cx}:da X [] eV:=λa s b H Q I h=>wpAny_tests_nil ⟨H,I,h⟩
theorem Xv{X:Cx}{c:gj}{t:TT}(h:PT X c t):da X [c] t:=λb s a H Q I q=>wpAny_tests_one (h _ s a H Q I q)
def VB(X:Cx)(e:jN)(f:s_ Str)(A:s_ (t_ Nat))(B h:gj)(j:s_ gj)(D:TI):TE:=λq H Q=>D q H λJ r=>∀l,r l=p_->X.K.lookup l=p_->∀k C s n o,∃(g:TG) (t:TT) (u:TE) (W:Nat->Nat->St->Hp->Prop),
 PG (A8 X e f k C s n o) B g/\da (A8 X e f k C s n o) j t/\PE (A8 X e f k C s n o) h u/\(∃m,W 0 m (Cu A q) (A2 r l (.lst [])))/\∀i m v a,W i m v a->
 (J.stop i a/\Q (.ref l) a)\/(J.go i a/\∀x H2,J.yld i a x H2->g x v H2 λd E=>t d E λb w=>if b=q_ then u d w λy z=>∃p,z l=P3 (.lst p)/\p.length<sizeLine/\∃c,c<m/\W (i+1) c d (A2 z l (.lst (p++[y])))else ∃c,c<m/\W (i+1) c d w)
section
variable {X:Cx}{tg elt iter:Expr}{ifs:s_ Expr}{sc:Scope}{pos:Pos}{N':s_ Str}{js:s_ (t_ Nat)}{wi:TI}{g:TG}{tt:TT}{te:TE}
theorem Ms{zH:s_ (Ch×Obj)}{σ:St}{H:Hp}{s:Go}{h:s_ (Str×Ch)}{C l it:Ch}{a:s_ Ch}{U:Nat->gf->Prop}{J:It}{s3:Go}{Q:VK}{R:Result->Go->Prop}{W:Nat->Nat->St->Hp->Prop}{m0:Nat}{zI:St}{V:Hp}
  (I:Inv X zH σ H s) (hf:∀b∈a,Ge X zH H b) (a3:∀b∈a,b<s.heap.objs.size) (hC:s.heap.objs.size<=C)
  (T:Turn X.prog X.w X.K tg J a it U)
  (hg:PG (A8 X sc N' h C s H a) tg g) (ht:da (A8 X sc N' h C s H a) ifs tt) (he:PE (A8 X sc N' h C s H a) elt te)
  (hW:∀i m k c,W i m k c->
   (J.stop i c/\Q (.ref l) c)\/(J.go i c/\∀x H2,J.yld i c x H2->g x k H2 λY H3=>tt Y H3 λb z=>if b=q_ then te Y z λy H5=>∃E,H5 l=P3 (.lst E)/\E.length<sizeLine/\∃f,f<m/\W (i+1) f Y (A2 H5 l (.lst (E++[y])))else ∃f,f<m/\W (i+1) f Y z))
  (hR:∀k c G,Inv (A8 X sc N' h C s H a) [] k c G->Q (.ref l) c->R (.ok .next) G)
  (I3:Inv (A8 X sc N' h C s H a) [] zI V s3) (t3:U 0 s3.heap) (f3:∀b∈a,V b=p_) (w0:W 0 m0 zI V):
  codeAny (model X.prog X.w) X.A (.compLoop (.ListComp elt [⟨tg,iter,ifs,0⟩] sc pos) 0 (.ref it) (.ref l) (compEnvC sc h C X.env)) R s3:=by
 have j:∀{c:Hp},(∀b∈a,c b=p_)->∀b∈a,Ge (A8 X sc N' h C s H a) [] c b:=λhn b t=>by
  have q:=I3.ok.exf b t;refine⟨hn b t,q.1,I3.ok.exfs b t,.inl t,q.2,λp hp=>absurd (show p∈([]:s_ (Ch×Obj))from hp) (by simp)⟩
 refine OL (λn G=>∃i k c,Inv (A8 X sc N' h C s H a) [] k c G/\U i G.heap/\(∀b∈a,c b=p_)/\W i n k c) ?_ m0 ⟨0,zI,V,I3,t3,f3,w0⟩;rintro n s4 ⟨i,L,z,I4,M,N,w4⟩
 rcases hW i n L z w4 with⟨O,qn⟩|⟨go,step⟩
 ·refine thn (T.done (A8 X sc N' h C s H a) rfl rfl rfl rfl i [] s4 L z (λ_ _=>False) I4 (j N) M O) λr s5 ⟨hr,I5⟩=>?_
  subst hr;exact hR L z s5 I5 qn
 ·refine thn (T.item (A8 X sc N' h C s H a) rfl rfl rfl rfl i [] s4 L z (λ_ _=>False) I4 (j N) M go) λr s5 ⟨u,hr,h5⟩=>?_
  subst hr;refine thn h5 λ_ s6 ⟨x,H6,I6,r6,y6,B,a0⟩=>?_;have a1:=I6.pinned (j a0) (T.obj _ _ B);refine thn (hg _ s6 L H6 x u _ a1 r6 (step x H6 y6)) λ_ s7 ⟨Z,H7,I7,q7⟩=>?_
  have again:∀{zJ:St}{D:Hp}{F:Go}{f:Nat},Inv (A8 X sc N' h C s H a) ([]++K6 a s6.heap) zJ D F->f<n->W (i+1) f zJ D->∃m,m<n/\∃i k c,Inv (A8 X sc N' h C s H a) [] k c F/\U i F.heap/\(∀b∈a,c b=p_)/\W i m k c:=λ{zJ D F f} P S w9=>by
   refine⟨f,S,i+1,zJ,D,P.unpinned,T.keep _ _ _ B λb t o e=>(P.pin (b,o) (f8 _ (f8 _ (E5 t e)))).1,λb t=>?_,w9⟩;let⟨o,e,d⟩:=T.obj _ _ B b t;exact(P.pin (b,o) (f8 _ (f8 _ (E5 t e)))).2.1
  refine thn (ht _ s7 Z H7 _ I7 q7) λok s8 ⟨H8,I8,q8⟩=>?_;cases ok with
  |false=>
   have a2:∃f,f<n/\W (i+1) f Z H8:=q8;let⟨f,S,w8⟩:=a2;show ∃m,m<n/\_;exact again I8 S w8
  |true=>
   refine thn (he _ s8 Z H8 _ I8 q8) λy F ⟨yv,D,P,ry,q9⟩=>?_;let⟨E,hl,hz,f,S,w9⟩:=q9;refine thn (Ba (X:=A8 X sc N' h C s H a) _ F Z D (.ref l) [yv] (.ref l) [y] (λv c=>v=.non/\c=A2 D l (.lst (E++[yv]))) P rfl (.cons ry .nil) ⟨l,E,yv,rfl,rfl,hl,hz,rfl,rfl⟩) λ_ sa ⟨v,Ha,Ia,_,_,eH⟩=>?_;subst eH;exact again Ia S w9
theorem X0(Y:X.calm=q_)(N':s_ Str)(js:s_ (t_ Nat))(Z:PI X tg iter wi)
  (hB:IF sc X.env.scope X.N N' js=q_)
  (hs:∀x,foldedSetIterable iter X.env x=pure x:=by intro _;rfl):
  PE X (.ListComp elt [⟨tg,iter,ifs,0⟩] sc pos) (VB X sc N' js tg elt ifs wi):=by
 intro S s L H Q I h;have O:CompOk X sc N' js:=CompOk.of hB;let⟨u,l,M,z⟩:=Lh (scope:=sc) (env:=X.env) λx hx=>I.ok.has x (O.free x hx);rw[eval_ListComp];refine wpAny_comprehension_free (use:=p_) rfl hs l O.kind O.names (thn (Z S s L H _ I h) λv s1 h1=>thn h1 λa0 c h2=>?_);let⟨U,F,tn,J,H2,e,B,T,Rp,G,hq⟩:=h2;subst e
 have p:X.K.lookup c.heap.objs.size=p_:=by
  cases q:X.K.lookup c.heap.objs.size with
  |none=>rfl
  |some o=>exact absurd (UF (B.kIn _ _ q)) (iY _)
 let⟨g,tt,te,W,hg,ht,he,⟨m0,w0⟩,hW⟩:=hq c.heap.objs.size (B.hok.fresh (On _)) p u (c.heap.objs.size+1) c H2 F;refine iu (wpAny_newFunctionEnv O.cell (by intro y hy;simp at hy) (λf d a=>?_) O.kind)
 dsimp only at d a ⊢
 generalize r:c.heap.push {cls:=.type "list",dict:=p_,data:=.seq ([]:s_ Db).toArray}=Hh at d a ⊢;have i:Hh.objs.size=c.heap.objs.size+1:=by rw[←r,iq]
 have C:∀b∈F,b<c.heap.objs.size:=λb j=>by
  let⟨o,e,_⟩:=T.obj _ _ Rp b j;exact UF e
 have D:∀b o,c.heap.get? b=P3 o->f.get? b=P3 o:=λb o e=>a.extBut b o (by rw[i];exact gg (iw (UF e))) (Ev _ (r▸Ev _ e));have hD:∃n,f.get? c.heap.objs.size=P3 {cls:=.type "list",data:=.seq #[] n}:=⟨_,a.extBut _ _ (by rw[i];exact gg (mX _)) (Ev _ (r▸XV _ rfl))⟩
 have I3:∀t,Inv (A8 X sc N' u (c.heap.objs.size+1) c H2 F) [] (Cu js L) (A2 H2 c.heap.objs.size (.lst [])) {c with heap:=f,toks:=t}:=λt=>
  Pu B Y O M z G (λb j=>let ⟨o,e,_⟩:=T.obj _ _ Rp b j;⟨o,e⟩) (by rw[←i];exact d) D hD
 have E:tn 0 f:=T.keep _ _ _ Rp λb j o e=>D b o e
 have P:∀b∈F,A2 H2 c.heap.objs.size (.lst []) b=p_:=λb j=>by
  rw[AT (gg (C b j))];exact(G b j).1
 have k:∀t,codeAny (model X.prog X.w) X.A (.compLoop (.ListComp elt [⟨tg,iter,ifs,0⟩] sc pos) 0 (.ref U) (.ref c.heap.objs.size) (compEnvC sc u (c.heap.objs.size+1) X.env))
   (compPost (model X.prog X.w) X.A X.xe p_ (EP X S L Q) (.ref c.heap.objs.size) (c.heap.objs.size+1)) {c with heap:=f,toks:=t}:=λt=>by
  refine Ms (W:=W) (m0:=m0) (Q:=Q) B G C (iE _) T hg ht he hW (λzZ H' s' V q'=>?_) (I3 t) E P w0;let⟨m,hn,_⟩:=V.loc;exact⟨m,hn,λh' R=>⟨.ref _,H',LN B G (iE _) V λb j=>R.2 b j,rfl,q'⟩⟩
 rw[show(newEnv sc Hh.objs.size X.env.globals u X.env.qual p_ .none (P3 X.env) builtinsNs).locals=c.heap.objs.size+1 from i];show codeAny (model X.prog X.w) X.A (.compStart (.ListComp elt [⟨tg,iter,ifs,0⟩] sc pos) 0 (.ref U) (.ref c.heap.objs.size) (compEnvC sc u (c.heap.objs.size+1) X.env)) _ _;exact codeAny_compStart_list (k _) (T.self _ 0 _ _ _ E (k _))
end
structure Fly (B:gf) (l:List Env) (a C:Ch) (dx:Option Ch) (h:gf):Prop where
 stays:B.StaysIn h
 new:B.get? a=p_
 frames:h.FunFrames B l
 obj:∃vs sl tb,h.get? a=P3 ⟨.ref C,dx,.fields vs,sl⟩/\vs[2]?=P3 .none/\vs[1]?=P3 tb/\(tb=.none\/∃T oT ts,tb=.ref T/\B.get? T=p_/\T≠a/\h.get? T=P3 oT/\oT.data=.fields ts/\3<ts.size)
section
variable {M:Model}{A:Around}{E:Value->Shared->Prop}{s:Shared}{B:Heap}{env:Env}{outer l:s_ Env}{L a C:Addr}{dx:t_ Addr}{Q:Unit->Shared->Prop}
theorem size_of{b:Array Db}{i:Nat}{x:Db}(h:b[i]?=P3 x):i<b.size:=(kT.mp h).1
theorem Mm{d:Array Db}{r:Array (t_ Db)}{g O:Db}{P:Bool}(t:A.frames=P3 (env::outer))(R:env.frame=P3 L)(m:s.heap.FunFrames B (env::outer))(S:B.StaysIn s.heap)(y:B.get? a=p_)
  (u:s.heap.get? a=P3 ⟨.ref C,dx,.fields d,r⟩) (T:d[1]?=P3 O) (D:d[2]?=P3 .none)
  (h:∀v,Fly B (env::outer) a C dx v->s.heap.UpToSlots v->Q () {s with heap:=v}):
  wpAny M A (do let f ←frameOf env;let n ←entryPlaceOf L P;let b ←nS g f .none (rawInt L) .none n;setField (.ref a) 1 b) Q E s:=by
 have F:=size_of T;have Y:=size_of D
 have U:a∉(env::outer).filterMap (·.frame):=λq=>by
  let⟨_,o,G,c⟩:=m.mem q;rw[u]at G;cases G;exact c d rfl
 refine Cn (wpAny_frameOf_fun t m R λk p=>?_);refine Cn (wpAny_entryPlaceOf λn w=>?_);unfold nS newFields;refine Cn (iu ?_ (w.sizeOk5 _ _ _ _ _));have H:k.get? a=P3 ⟨.ref C,dx,.fields d,r⟩:=(p.2.1 a U).trans u;have I:B.StaysIn k:=λb o q=>(p.2.1 b λz=>by rw[(m.mem z).1]at q;cases q).trans (S b o q);generalize i:({cls:=.type "traceback",dict:=p_,data:=.fields ([g,.ref L,.none,rawInt L,.none]++(if n.isEmpty then Uf 6 g8 else n)).toArray}:Obj)=ob;have J:(k.push ob).get? a=P3 ⟨.ref C,dx,.fields d,r⟩:=Ev _ H;refine kq J rfl F ?_;have K:k.objs.size≠a:=jY (UF H);have V:=ii (jf (·.setIfInBounds 1 (gY k.objs.size))) J rfl
 have W:((k.push ob).update a (jf (·.setIfInBounds 1 (gY k.objs.size)))).get? k.objs.size=P3 ob:=by
  rw[gZ _ _ (iM K)];exact XV k (by subst i;rfl)
 have x:∀b o,b≠a->k.get? b=P3 o->((k.push ob).update a (jf (·.setIfInBounds 1 (gY k.objs.size)))).get? b=P3 o:=λb o X q=>by
  rw[gZ _ _ (iM X)];exact Ev _ q
 have N:∀b o,s.heap.get? b=P3 o->(∀d,o.data≠.fields d)->b≠a:=λb o q c z=>by
  rw[z,u]at q;cases q;exact c d rfl
 refine h _ ⟨λb o q=>x b o (λz=>by rw[z,y]at q;cases q) (I b o q),y,m.of_keeps λb o q c=>?_,_,_,_,V,?_,?_,.inr ⟨k.objs.size,ob,_,rfl,I.fresh,K,W,by subst i;rfl,?_⟩⟩ λb o q c=>?_
 ·let⟨j,e⟩:=p.2.2 b o q
  exact⟨_,x b _ (N b o q c) e,rfl⟩
 ·rw[Array.getElem?_setIfInBounds_ne (by decide)];exact D
 ·simp[F]
 ·simp only[gQ,eq,gS,ik];omega
 ·let⟨j,e⟩:=p.2.2 b o q
  exact⟨j,x b _ (N b o q c) e⟩
theorem Fly.mark{T:Ch}{g:Obj}{h d:Array Db}{x:Db}{f:Array (t_ Db)}(F:Fly B l a C dx s.heap)(n:s.heap.get? a=P3 ⟨.ref C,dx,.fields d,f⟩)(p:d[1]?=P3 (.ref T))(r:d[2]?=P3 .none)(t:B.get? T=p_)(i:T≠a)(u:s.heap.get? T=P3 g)
  (j:g.data=.fields h) (w:3<h.size):Fly B l a C dx (s.heap.update T (jf (·.setIfInBounds 3 x)))/\s.heap.UpToSlots (s.heap.update T (jf (·.setIfInBounds 3 x)))/\(s.heap.update T (jf (·.setIfInBounds 3 x))).get? a=P3 ⟨.ref C,dx,.fields d,f⟩:=by
 have e:∀b,b≠T->(s.heap.update T (jf (·.setIfInBounds 3 x))).get? b=s.heap.get? b:=λb v=>gZ _ _ (iM v)
 have k:∀b o,s.heap.get? b=P3 o->(∀d,o.data≠.fields d)->b≠T:=λb o q c z=>by
  simp_all
 have m:=(e a (iM i)).trans n;refine⟨⟨λb o q=>(e b λz=>by grind).trans (F.stays b o q),F.new,F.frames.of_keeps λb o q c=>⟨o,(e b (k b o q c)).trans q,rfl⟩,d,f,_,m,r,p,.inr ⟨T,_,_,rfl,t,i,ii _ u (Obj.isFreed_of_fields (kg j _)),kg j _,by simp_all⟩⟩,λb o q c=>⟨o.slots,(e b (k b o q c)).trans q⟩,m⟩
theorem HJ(F:Fly B l a C dx s.heap)(h:∀c,Fly B l a C dx c->s.heap.UpToSlots c->Q () {s with heap:=c}):wpAny M A (setFlight (.ref a) p_) Q E s:=by
 let⟨q,r,t,d,j,e,k⟩:=F.obj;refine Cn (iD d rfl e ?_)
 rcases k with rfl|⟨T,u,v,rfl,m,n,f,g,i⟩
 ·exact Sc (h _ F (nU _))
 ·let⟨o,p,_⟩:=F.mark d e j m n f g i
  exact kq f g i (h _ o p)
theorem Px(c:A.frames=P3 (env::outer))(g:env.frame=P3 L)(F:Fly B (env::outer) a C dx s.heap)
  (h:∀d,Fly B (env::outer) a C dx d->s.heap.UpToSlots d->Q () {s with heap:=d}):wpAny M A (noteFrame (.ref a) env) Q E s:=by
 let⟨D,G,H,i,j,f,p⟩:=F.obj;unfold noteFrame;simp only[g];refine Cn (iD i rfl f ?_)
 rcases p with rfl|⟨T,I,q,rfl,r,t,k,m,n⟩
 ·rw[if_neg (by decide)]
  exact Mm c g F.frames F.stays F.new i f j h
 ·rw[if_pos (show(gY T !=g8)=q_ by simp)]
  obtain⟨x,u⟩:∃x,q[3]?=P3 x:=⟨_,jl n⟩;refine Cn (iD k m u ?_)
  by_cases e:(x==rawInt L)=q_
  ·rw[if_pos e]
   exact Sc (h _ F (nU _))
  ·rw[if_neg e]
   let⟨o,v,w⟩:=F.mark (x:=g8) i f j r t k m n;refine Cn (kq k m n ?_);exact Mm c g o.frames o.stays o.new w f j λd y z=>h d y (v.trans z)
theorem UR(d:A.frames=P3 (env::outer))(e:env.frame=P3 L)(F:Fly B (env::outer) a C dx s.heap)
  (h:∀c,Fly B (env::outer) a C dx c->s.heap.UpToSlots c->Q () {s with heap:=c}):wpAny M A (leaving env (.ref a)) Q E s:=Cn (Px d e F λc f g=>HJ f λi j k=>h i j (g.trans k))
theorem Fly.tail(F:Fly B (env::outer) a C dx s.heap):Fly B outer a C dx s.heap:=⟨F.stays,F.new,F.frames.2.2,F.obj⟩
end
section
variable {A:Around}{E:Value->Shared->Prop}{R:Result->Shared->Prop}{h:Heap}{g:Array GenState}{d:Drawn}{t:Nat}{os:OsState}
variable {nm q:Str}{C N f:Addr}{bs bm:s_ Value}{hdct:Bool}{sn:s_ Str}{sub:s_ Value}{ab:Bool}{col:t_ Bool}{dd:t_ Addr}{k0 k1 k2 k3 k5:t_ Value}{newId:String}
def Bw(C t:Ch):Obj:={cls:=.ref C,data:=.fields #[.ref t,.none,.none,.none,.bool r_,.none]}
def dk(x:Ch)(R:Result->Go->Prop)(r:Result)(a:Go):Prop:=match r with
 |.ok (.ret v)=>v=.none/\R (.ok (.ret (.ref x))) a
 |.ok _=>False
 |.error e=>R (.error e) a
theorem Qr{s:Go}{env:Env}{x:Sem Db}{Q:Flow->Go->Prop}{M:Model}(hbase:bm.contains (.type "BaseException")=q_)(hh:A.handled=p_)
  (hx:wpAny M A x (λv s₁=>∃e dx vs sl,v=.ref e/\s₁.heap.get? C=P3 (excClassObj nm q C N bs bm hdct sn sub ab col dd k0 k1 k2 k3 k5 newId) /\
   s₁.heap.get? e=P3 ⟨.ref C,dx,.fields vs,sl⟩/\vs[1]?=P3 .none/\E (.ref e) s₁) E s):
  wpAny M A (raiseStmt env (P3 x) p_) Q E s:=by
 have hcB:(gY C::bm).contains (.type "BaseException")=q_:=by grind
 unfold raiseStmt;refine Cn (g9 hx (λv s₁ h₁=>?_) λ_ _ x=>x);let⟨e,dx,vs,sl,rfl,hC,he,h1,hE⟩:=h₁
 repeat (first|omega|omega|(with_reducible refine iV hC ?_;rw[hcB])|wp_step)
 rw[h1];refine Sc ?_;exact Sc (wpAny_raiseNew_none hh hE)
theorem UU{M:Model}{e D N':Ch}{oe:Obj}{nm' q':Str}{bs' bmD:s_ Db}{hdct':Bool}{sn':s_ Str}{sub':s_ Db}{ab':Bool}{col':t_ Bool}{dd':t_ Ch}{l0 l1 l2 l3 l5:t_ Db}{newId':String}{Q:Bool->Go->Prop}
  (hC:h.get? C=P3 (excClassObj nm q C N bs bm hdct sn sub ab col dd k0 k1 k2 k3 k5 newId)) (hD:h.get? D=P3 (excClassObj nm' q' D N' bs' bmD hdct' sn' sub' ab' col' dd' l0 l1 l2 l3 l5 newId')) (hbase:bmD.contains (.type "BaseException")=q_)
  (he:h.get? e=P3 oe) (hcls:oe.cls=.ref C) (hq:Q ((gY C::bm).contains (.ref D)) ⟨h,g,d,t,os⟩):wpAny M A (excMatches (.ref e) (.ref D)) Q E ⟨h,g,d,t,os⟩:=by
 have hcB:(gY D::bmD).contains (.type "BaseException")=q_:=by grind
 have f:=tc_notTuple;generalize hb:(gY C::bm).contains (.ref D)=b at hq;unfold excMatches
 repeat (first|(with_reducible refine iI he ?_;rw[hcls])|omega|(with_reducible refine iV hD ?_;rw[hcB])|wp_step)
 refine iV hC ?_;rw[hb];cases b <;>(wp_walk;exact hq)
end
def De:s_ Db:=[.type "ValueError",.type "Exception",.type "BaseException",.type "object"]
structure XC (K:Frag) (nm:Str) (C U:Ch):Prop where
 obj:∃q N bs sn sub ab col dd k0 k1 k2 k3 k5,K.lookup C=P3 (excClassObj nm q C N bs (.ref U::De) q_ sn sub ab col dd k0 k1 k2 k3 k5 "ValueError.__new__")
 up:∃q N bs sn sub ab col dd k0 k1 k2 k3 k5 hd,K.lookup U=P3 (excClassObj "ThinError" q U N bs De hd sn sub ab col dd k0 k1 k2 k3 k5 "ValueError.__new__")
 kp:keepIn K (.ref C)=q_
 ga:PySem.W.findIn K (.ref C) "__getattribute__"=P3 (P3 (.builtin "BaseException.__getattribute__"))
 gt:PySem.W.findIn K (.ref C) "__getattr__"=P3 p_
 sa:PySem.W.findIn K (.ref C) "__setattr__"=P3 (P3 (.builtin "object.__setattr__"))
 at_:nsIn K mainGlobals nm=P3 (P3 (.ref C))
 atU:nsIn K mainGlobals "ThinError"=P3 (P3 (.ref U))
 ca:PySem.W.findIn K (.ref C) "__class__"=P3 (P3 (.builtin "object.__class__"))
 nw:PySem.W.findIn K (.ref C) "word"=P3 p_
 nn:PySem.W.findIn K (.ref C) "number"=P3 p_
 nr:PySem.W.findIn K (.ref C) "row"=P3 p_
section
variable {prog:Program}{w:World}{A:Around}{E:Value->Shared->Prop}{s:Shared}{K:Frag}{nm name:Str}{x C U:Addr}{v:Value}{R:Result->Shared->Prop}
theorem XC.cls(c:XC K nm C U):∃a,PySem.W.clsIn K C=P3 a/\a.mro=.ref C::.ref U::De/\a.hasDict=q_/\a.name=nm:=by
 let⟨q,N,f,g,b,h,d,i,j,k,l,m,n,e⟩:=c.obj;refine⟨_,by unfold PySem.W.clsIn;rw[e],rfl,rfl,rfl⟩
theorem SA{n:Obj}{o:t_ Obj}{d:Tok}(X:K.In s.heap)(c:XC K nm C U)(I:PySem.W.InstAt s.heap x n C o)(p:PySem.W.findIn K (.ref C) name=P3 p_)
  (h:∀b,wpAny (model prog w) A.in1 (Builtin.ObjectAttr.storeInOwnDict (.ref x) (.ref C) (.str name d) name v b)
   (λi g=>match i with|.done f=>R (.ok f) g|.again c'=>c'.quiet=q_/\codeAny (model prog w) A c' R g) (λe g=>R (.error e) g) s):
  codeAny (model prog w) A (.call (.builtin "object.__setattr__") ⟨[.ref x,.str name d,v],[]⟩) R s:=by
 have a:=PySem.F.store_ValueError;let⟨q,l,m,_⟩:=c.cls;have j:PySem.W.Looks (model prog w) s.heap (isInstance (.ref x) (.type "object")) q_:=I.type.andThen (PySem.W.looks_mroIn X (by unfold PySem.W.mroIn;rw[l,Option.bind_some,m];rfl));refine jm a.slot.plain a.entry (@PySem.W.check_slot (model prog w) _ _ s "object.__setattr__" "object" "__setattr__" (.ref x) [.str name d,v] [] _ a.kind a.split j (a.args (.ref x) (.str name d) v) ?_);have k:PySem.W.Looks (model prog w) s.heap (mroOf (.ref C)) q.mro:=(PySem.W.looks_clsIn X l).andThen .now;rw[PySem.W.osa_eq,refuse_eq];refine Cn (Cn (I.type.here (Cn (k.here ?_))));rw[m,refuseLoop_ref,refuseLoop_ref,show refuseLoop (.ref x) "__setattr__" De=pure ()from a.passes _];exact Sc (Cn (I.type.here (Cn ((PySem.W.looks_findIn X p).here (Cn (Sc (h _)))))))
theorem VO{f:Array Db}{g:Array (t_ Db)}{Q:Unit->Go->Prop}(X:K.In s.heap)(c:XC K nm C U)(j:s.heap.get? x=P3 ⟨.ref C,p_,.fields f,g⟩)(t:PySem.W.findIn K (.ref C) name=P3 p_)
  (h:∀d u,d.get? x=P3 ⟨.ref C,P3 s.heap.objs.size,.fields f,g⟩->d.Ns1 s.heap.objs.size (λy=>if y=name then P3 v else p_)->(∀b o,b≠x->s.heap.get? b=P3 o->d.get? b=P3 o)->Q () {s with heap:=d,toks:=u}):
  wpAny (model prog w) A (setAttr (.ref x) name v) Q E s:=by
 let⟨N,z,O,B,_⟩:=c.cls;have J:PySem.W.InstAt s.heap x ⟨.ref C,p_,.fields f,g⟩ C p_:=⟨j,rfl,rfl,trivial⟩;refine PySem.W.set_plain X J c.sa (SA (s:={s with toks:=s.toks+1}) X c J t λb=>?_);refine Cn (Sc (Cn (Cn (wpAny_loadPart j (Cn (PySem.W.Looks.here (s:={s with toks:=s.toks+1}) (PySem.W.looks_clsIn X z) ?_))))));rw[B];have i:(s.heap.push {cls:=.type "dict",data:=.dict #[]}).get? x=P3 ⟨.ref C,p_,.fields f,g⟩:=Ev _ j;have p:x≠s.heap.objs.size:=gg (UF j);show wpAny _ _ (alloc _ >>=_) _ _ _;refine Cn (wpAny_alloc (Cn (wpAny_update i (Sc ?_))));generalize a:((s.heap.push {cls:=.type "dict",data:=.dict #[]}).update x λo=>{cls:=o.cls,dict:=P3 s.heap.objs.size,data:=o.data,slots:=o.slots})=hh
 have D:hh.get? s.heap.objs.size=P3 {cls:=.type "dict",data:=.dict #[]}:=by
  rw[←a,Heap.get?_update_ne _ _ _ _ p.symm];exact XV _ rfl
 have F:hh.get? x=P3 ⟨.ref C,P3 s.heap.objs.size,.fields f,g⟩:=by
  rw[←a];exact ii _ i rfl
 have G:∀b o,b≠x->s.heap.get? b=P3 o->hh.get? b=P3 o:=λb o k e=>by
  rw[←a,Heap.get?_update_ne _ _ _ _ k];exact Ev _ e
 have H:hh.Ns s.heap.objs.size (λ_=>p_):=⟨_,#[],_,D,rfl,λe I=>absurd I (by simp),λ_=>rfl⟩;show wpAny _ _ (lV s.heap.objs.size _ name v) _ _ _;unfold lV Builtin.ObjectAttr.newKeyGuard;refine Cn (Sc (Cn (wpAny_nsSet1 (Heap.Ns1.of_empty H) λd q r=>?_)));let⟨P,L,M,l,m,n⟩:=q.count (PySem.Within.cons name v PySem.Within.nil);refine Cn (wpAny_lookBehind l (by rw[m];exact pastItsLine_dict (gc n (by rw[gS,ik,iK];omega))) ?_);refine Sc (h d _ ((r.2 x p).trans F) q λb o k e=>(r.2 b (gg (UF e))).trans (G b o k e))
theorem VN{k:Array Db}{l:Array (t_ Db)}{d:Ch}{f:Str->t_ Db}{m:s_ Str}{Q:Unit->Go->Prop}(X:K.In s.heap)(c:XC K nm C U)(n:s.heap.get? x=P3 ⟨.ref C,P3 d,.fields k,l⟩)(p:s.heap.Ns1 d f)(r:PySem.Within f m)(t:m.length<=sizeLine)(u:PySem.W.findIn K (.ref C) name=P3 p_)
  (h:∀e z,e.Ns1 d (λy=>if y=name then P3 v else f y)->kF d s.heap e->Q () {s with heap:=e,toks:=z}):
  wpAny (model prog w) A (setAttr (.ref x) name v) Q E s:=by
 let⟨L,B,M,D,_⟩:=c.cls;let⟨o,_,_,F,_⟩:=id p;have J:PySem.W.InstAt s.heap x ⟨.ref C,P3 d,.fields k,l⟩ C (P3 o):=⟨n,rfl,rfl,F⟩;refine PySem.W.set_plain X J c.sa (SA (s:={s with toks:=s.toks+1}) X c J u λb=>?_);refine Cn (Sc (Cn (Cn (wpAny_loadPart n (Cn (PySem.W.Looks.here (s:={s with toks:=s.toks+1}) (PySem.W.looks_clsIn X B) ?_))))));rw[D];refine Sc (a:=P3 d) (Cn (Sc (Cn ?_)));refine wpAny_nsSet1 (s:={s with toks:=s.toks+1}) p λe q G=>?_;let⟨N,H,I,g,i,j⟩:=q.count (PySem.Within.cons name v r);refine Cn (wpAny_lookBehind g (by rw[i];exact pastItsLine_dict (gc j (by rw[gS];omega))) ?_);exact Sc (h _ _ q G)
end
section
variable {M:Model}{prog:Program}{w:World}{A:Around}{E:Value->Shared->Prop}{R:Result->Shared->Prop}{h:Heap}{g:Array GenState}{d:Drawn}{t:Nat}{os:OsState}
variable {K:Frag}{nm q:Str}{C U N f:Addr}{bs:s_ Value}{sn:s_ Str}{sub:s_ Value}{ab:Bool}{col:t_ Bool}{dd:t_ Addr}{k0 k1 k2 k3 k5:t_ Value}{rest:s_ Value}
theorem Sr{Q:Unit->Go->Prop}(hC:h.get? C=P3 (excClassObj nm q C N bs (.ref U::De) q_ sn sub ab col dd k0 k1 k2 k3 k5 "ValueError.__new__"))
  (hq:Q () ⟨h,g,d,t,os⟩):wpAny M A (checkBuiltinCall "ValueError.__new__" ⟨.ref C::rest,[]⟩) Q E ⟨h,g,d,t,os⟩:=by
 have F:=PySem.F.excBase_ValueError;have hcont:(gY C::.ref U::De).contains (.type "ValueError")=q_:=by simp[De]
 have hstar:=F.noStar;simp only[checkBuiltinCall,F.newKind,F.newSplit,F.newRow]
 repeat (first|refine iI hC ?_|(refine iV hC ?_;rw[hcont])|refine wpAny_staticBase_exc hC ?_|refine mY hC ?_|simp only[bne_self_eq_false,jB,if_false]|wp_step)
 exact hq
theorem Sb(hC:h.get? C=P3 (excClassObj nm q C N bs (.ref U::De) q_ sn sub ab col dd k0 k1 k2 k3 k5 "ValueError.__new__"))
  (hq:R (.ok (.ret (.ref (h.objs.size+1)))) ⟨(h.push {cls:=.type "tuple",data:=.seq rest.toArray}).push (Bw C h.objs.size),g,d,t,os⟩) (hrest:rest.length<=sizeLine):
  codeAny (model prog w) A (.builtin "ValueError.__new__" ⟨.ref C::rest,[]⟩) R ⟨h,g,d,t,os⟩:=by
 have F:=PySem.F.excBase_ValueError;have hends:=F.ends;have hcB:(gY C::.ref U::De).contains (.type "ValueError")=q_:=by simp[De]
 have hcA:(gY C::.ref U::De).contains (.type "AttributeError")=r_:=by simp[De]
 have hcN:(gY C::.ref U::De).contains (.type "NameError")=r_:=by simp[De]
 refine codeAny_builtinAt F.entry ?_;unfold kI.«BaseException.__new__»;refine PySem.wpAt_bind ?_;show PySem.wpAt _ _ _ (stack >>=_) _ _ _;refine PySem.wpAt_bind (PySem.wpAt_stack λp below=>wpAt_of_wpAny ?_)
 wp_walk
 refine wpAt_of_wpAny ?_;rw[F.owner]
 repeat (first|with_reducible refine wpAny_madeHere_exc F.canon hC ?_|with_reducible refine iI hC ?_|(with_reducible refine iV hC ?_;first|rw[hcB]|rw[hcA]|rw[hcN])|wp_step)
 show R _ _;rw[iq];exact hq
theorem Ws{e:Ch}{oe:Obj}{Q:Unit->Go->Prop}(hC:h.get? C=P3 (excClassObj nm q C N bs (.ref U::De) q_ sn sub ab col dd k0 k1 k2 k3 k5 "ValueError.__new__"))(he:h.get? e=P3 oe)(hcls:oe.cls=.ref C)(hq:Q () ⟨h,g,d,t,os⟩):
  wpAny M A (checkBuiltinCall "ValueError.__init__" ⟨.ref e::rest,[]⟩) Q E ⟨h,g,d,t,os⟩:=by
 have F:=PySem.F.excBase_ValueError;have hcB:(gY C::.ref U::De).contains (.type "ValueError")=q_:=by simp[De]
 have hshort:=F.noStar;simp only[checkBuiltinCall,F.initKind,F.initSplit,F.initRow]
 repeat (first|(with_reducible refine iI he ?_;rw[hcls])|with_reducible refine iI hC ?_|(with_reducible refine iV hC ?_;rw[hcB])|wp_step)
 refine lH ?_
 rw[show ∀(a b:String) (n:Nat),Bind.check ⟨.positional,"*","ValueError",.self,[⟨"args",.varPos,r_⟩]⟩ a b n (List.map (λx=>x.fst) ({pos:=gY e::rest}:Args).kw)=pure ()from
  λa b n=>check_star_args _ _ _ _ _ _]
 exact Sc hq
theorem WZ(X:K.In h)(c:XC K nm C U)(hi:PySem.W.findIn K (.ref C) "__init__"=P3 (P3 (.ref f)))(hf:PySem.W.typeIn K (.ref f)=P3 (.type "function"))(hrest:rest.length<=sizeLine)
  (hq:codeAny (model prog w) (A.under (.builtin "type.__call__" ⟨.ref C::rest,[]⟩)) (.call (.ref f) ⟨.ref (h.objs.size+1)::rest,[]⟩) (dk (h.objs.size+1) R) ⟨(h.push {cls:=.type "tuple",data:=.seq rest.toArray}).push (Bw C h.objs.size),g,d,t,os⟩):
  codeAny (model prog w) A (.call (.ref C) ⟨rest,[]⟩) R ⟨h,g,d,t,os⟩:=by
 have F:=PySem.F.excBase_ValueError;let⟨q,N,bs,sn,sub,ab,col,dd,k0,k1,k2,k3,k5,eC⟩:=c.obj;have hC:=X _ _ eC;have f1:=tc_lookup;have f2:=tc_bind (.ref C);have hT:(⟨h,g,d,t,os⟩:Go).TypeIs (.ref C) "type":=⟨_,hC,rfl⟩;refine mx ?_;show wpAny _ _ (callAny (.ref C) _) _ _ _
 repeat (any_goals (first|assumption|with_reducible refine iI hC ?_|wp_step))
 refine⟨rfl,?_⟩;refine codeAny_call_builtin_at (jy _ (by decide +kernel)) entry_typeCall (wpAny_check_type_call_sub hC ?_)
 repeat (first|with_reducible refine iI hC ?_|with_reducible refine mY hC ?_|wp_step)
 refine codeAny_call_builtin_code (jy _ F.quiet) (Sr hC ?_);refine Sb hC ?_ hrest;show wpAny _ _ _ _ _ _;have kk:∀b o,h.get? b=P3 o->((h.push {cls:=.type "tuple",data:=.seq rest.toArray}).push (Bw C h.objs.size)).get? b=P3 o:=λb o e=>Ev _ (Ev _ e);have hC₁:=kk _ _ hC;have hget:((h.push {cls:=.type "tuple",data:=.seq rest.toArray}).push (Bw C h.objs.size)).get? (h.objs.size+1)=P3 (Bw C h.objs.size):=by unfold Bw;heap_get
 have hcC:(gY C::gY U::De).contains (.ref C)=q_:=by simp
 unfold isInstance;unfold Bw at *
 repeat (first|with_reducible refine iI hget ?_|(with_reducible refine iV hC₁ ?_;rw[hcC])|wp_step)
 show wpAny _ _ (isSubtype (.ref C) (.ref C)) _ _ _;refine iV hC₁ ?_;rw[hcC,if_neg (by decide)];refine Cn (iP ?_);unfold callSpecial? specialOf
 repeat (first|with_reducible refine iI hget ?_|wp_step)
 show wpAny _ _ (typeLookup (.ref C) _) _ _ _;refine(PySem.W.looks_findIn (X.keeps kk) hi).here ?_;refine iP (Cn ((PySem.W.bind_fn (X.keeps kk) _ hf).here ?_));refine Cn (jj (kG hq λr s' z=>?_))
 rcases r with e|(v|_|_|_) <;>first|exact z|exact z.elim|skip
 let⟨rfl,z⟩:=z;exact Sc (Sc z)
theorem UV(X:K.In h)(c:XC K nm C U)(hi:PySem.W.findIn K (.ref C) "__init__"=P3 (P3 (.builtin "ValueError.__init__")))(hrest:rest.length<=sizeLine)
  (hq:∀h',(∀b o,h.get? b=P3 o->h'.get? b=P3 o)->h'.get? (h.objs.size+1)=P3 (Bw C (h.objs.size+2))->R (.ok (.ret (.ref (h.objs.size+1)))) ⟨h',g,d,t,os⟩):
  codeAny (model prog w) A (.call (.ref C) ⟨rest,[]⟩) R ⟨h,g,d,t,os⟩:=by
 have F:=PySem.F.excBase_ValueError;let⟨q,N,bs,sn,sub,ab,col,dd,k0,k1,k2,k3,k5,eC⟩:=c.obj;have hC:=X _ _ eC;have f1:=tc_lookup;have f2:=tc_bind (.ref C);have hT:(⟨h,g,d,t,os⟩:Go).TypeIs (.ref C) "type":=⟨_,hC,rfl⟩;refine mx ?_;show wpAny _ _ (callAny (.ref C) _) _ _ _
 repeat (any_goals (first|assumption|with_reducible refine iI hC ?_|wp_step))
 refine⟨rfl,?_⟩;refine codeAny_call_builtin_at (jy _ (by decide +kernel)) entry_typeCall (wpAny_check_type_call_sub hC ?_)
 repeat (first|with_reducible refine iI hC ?_|with_reducible refine mY hC ?_|wp_step)
 refine codeAny_call_builtin_code (jy _ F.quiet) (Sr hC ?_);refine Sb hC ?_ hrest;show wpAny _ _ _ _ _ _;have kk:∀b o,h.get? b=P3 o->((h.push {cls:=.type "tuple",data:=.seq rest.toArray}).push (Bw C h.objs.size)).get? b=P3 o:=λb o e=>Ev _ (Ev _ e);have hC₁:=kk _ _ hC;have hget:((h.push {cls:=.type "tuple",data:=.seq rest.toArray}).push (Bw C h.objs.size)).get? (h.objs.size+1)=P3 (Bw C h.objs.size):=by unfold Bw;heap_get
 have hcC:(gY C::gY U::De).contains (.ref C)=q_:=by simp
 unfold isInstance;unfold Bw at *
 repeat (first|with_reducible refine iI hget ?_|(with_reducible refine iV hC₁ ?_;rw[hcC])|wp_step)
 show wpAny _ _ (isSubtype (.ref C) (.ref C)) _ _ _;refine iV hC₁ ?_;rw[hcC,if_neg (by decide)];refine Cn (iP ?_);unfold callSpecial? specialOf
 repeat (first|with_reducible refine iI hget ?_|wp_step)
 show wpAny _ _ (typeLookup (.ref C) _) _ _ _;refine(PySem.W.looks_findIn (X.keeps kk) hi).here ?_;refine iP (Cn (m_ (F.init.bind _) ?_));refine Cn (jj (jm F.init.plain F.initEntry (Ws hC₁ hget rfl ?_)))
 wp_walk
 refine hq _ (λb o e=>?_) ?_
 ·rw[gZ _ _ (jY (iw (UF e)))]
  exact Ev _ (kk b o e)
 ·refine(ii (jf (·.setIfInBounds 0 (gY _))) (Ev _ hget) rfl).trans ?_
  simp only[iq];rfl
end
structure CXD (P:gi) (w:gn) (outer:List Env) (H:Hp) (s:Go) (a C:Ch) (dx:Option Ch) (B:gf) (H':Hp) (s':Go):Prop where
 os:s'.os=s.os
 bare:kE s'.gens
 un:Un (Ml outer) [] H H' s.heap s'.heap
 hok:HOk P w H' B
 all:∀b o o',s.heap.get? b=P3 o->b∉Ml outer->s'.heap.get? b=P3 o'->B.get? b=P3 o'
 fly:Fly B outer a C dx s'.heap
 new:s.heap.objs.size<=a
 free:H' a=p_
def Ra(P:gi)(w:gn):Ur:=λb H s E e f=>∃a C c B d,e=.ref a/\CXD P w b H s a C c B d f/\E (.ref C) c d
section
variable {P:Program}{w:World}{outer:s_ Env}{H H':Hp}{s s':Shared}{a C:Addr}{dx:t_ Addr}{B h':Heap}
theorem CXD.step(x:CXD P w outer H s a C dx B H' s')(F:Fly B outer a C dx h')(u:s'.heap.UpToSlots h'):CXD P w outer H s a C dx B H' {s' with heap:=h'}:=by
 have fr:∀b∈Ml outer,∃o,s'.heap.get? b=P3 o/\∀k,o.data≠.fields k:=λb c=>(x.fly.frames.mem c).2;refine⟨x.os,x.bare,⟨λb o e n c d=>F.stays _ _ (x.all b o o e c (x.un.keep b o e n c d)),λb o e n c d=>?_,x.un.free,λb o e d=>?_,x.un.tups,x.un.frzs,x.un.tbls⟩,x.hok,λb o j e c q=>?_,F,x.new,x.free⟩
 ·let⟨p,q⟩:=x.un.slot b o e n c d
  let⟨j,f,h⟩:=fr b c;rw[q]at f;cases f;let⟨i,l⟩:=u b _ q h
  grind
 ·let⟨g,q⟩:=x.un.there b o e d
  by_cases c:b∈Ml outer
  ·let⟨j,f,h⟩:=fr b c
   let⟨i,l⟩:=u b _ f h
   grind
  ·exact⟨g,F.stays _ _ (x.all b o g e c q)⟩
 ·let⟨g,m⟩:=x.un.there b o e (by simp)
  have z:=x.all b o g e c m;rw[F.stays _ _ z]at q
  grind
end
section
variable {X:Cx}{zH:s_ (Addr×Obj)}{σ:St}{H H':Hp}{s s':Shared}{a C:Addr}{dx:t_ Addr}{B:Heap}
theorem CXD.inv(x:CXD X.prog X.w X.stack H s a C dx B H' s')(I:Inv X zH σ H s):Inv X zH σ H' s':=
 I.call' x.os x.un (x.hok.kept x.fly.stays) x.bare λb z=>absurd z (by simp)
theorem CXD.leave(x:CXD X.prog X.w X.stack H s a C dx B H' s')(I:Inv X zH σ H s)(c:X.stack=X.env::X.outer)(f:X.ex=[]):CXD X.prog X.w X.outer X.H₀ X.s₀ a C dx B H' s':=by
 have J:=x.inv I;have d:=x.fly;rw[c]at d;refine⟨J.os,J.bare,by have z:=J.base;grind,x.hok,λb o g e h q=>?_,d.tail,gc I.sz x.new,x.free⟩;let⟨i,j⟩:=I.base.there b o e (by grind);refine x.all b i g j (λz=>?_) q
 rcases TW.mp (I.stkSub b z)with z|z
 ·exact absurd (UF e) (by rw[z];exact ko.mpr I.ok.above)
 ·exact h z
theorem Fd{P:gi}{w:gn}{K:Frag}{j:Str->t_ Db}{d:gf}{N:s_ Str}{g:Str}{b:jN}{f:Ch}{k:Db}{A:gw}{c:s_ Env}{h:Go}{i:Hp}{E:XK}:
  JV (Ra P w) (HN (Ra P w) P w K j d N g b f k A c h i E) E:=by
 intro zH σ H s e s' I ⟨a,C,dx,B,H',l,x,q⟩;subst l;exact UR I.ok.frames rfl x.fly λn m u=>⟨a,C,dx,B,H',rfl,(x.step m u).leave I rfl rfl,q⟩
theorem R_{P:gi}{w:gn}{K:Frag}{i:Str->t_ Db}{d:gf}{N:s_ Str}{e:Str}{b:jN}{f:Ch}{j:Db}{A:gw}{c:s_ Env}{g:Go}{h:Hp}{E:XK}:
  lL (model P w) (HN (Ra P w) P w K i d N e b f j A c g h E).A (HN (Ra P w) P w K i d N e b f j A c g h E).env (HN (Ra P w) P w K i d N e b f j A c g h E).xe:=by
 passes_own
end
def XO(a C:Ch)(c:t_ Ch)(h:gf):Prop:=∃b d,h.get? a=P3 ⟨.ref C,c,.fields b,d⟩/\b[2]?=P3 .none/\b[1]?=P3 .none
def XF(d:Ch)(fs:s_ (Str×V))(h:gf):Prop:=∃a,h.Ns1 d a/\(∀f,RelO (fs.lookup f) (a f))/\PySem.Within a (fs.map (·.1))/\fs.length<=1000
theorem XO.ok{P:gi}{w:gn}{H:Hp}{a C:Ch}{b:t_ Ch}{h:gf}(x:XO a C b h):ObjOk P w H h a (.ext (XO a C b)):=by
 refine⟨x,?_,λf g ⟨c,d,e,r⟩ k=>⟨c,d,k _ e,r⟩⟩;let⟨c,d,e,_⟩:=x
 simp_all
theorem XF.ok{P:gi}{w:gn}{H:Hp}{d:Ch}{a:s_ (Str×V)}{h:gf}(x:XF d a h):ObjOk P w H h d (.ext (XF d a)):=by
 refine⟨x,?_,λc f ⟨b,e,r⟩ k=>⟨b,e.at k,r⟩⟩;let⟨b,⟨o,_,_,e,_⟩,_⟩:=x
 grind
section
variable {X:Cx}{zH:s_ (Addr×Obj)}{σ:St}{H:Hp}{s:Shared}{a C U:Addr}{nm f:Str}{A:Around}{E:Value->Shared->Prop}
theorem VM{y:V}{u:Db}{Q:Unit->Go->Prop}(I:Inv X zH σ H s)(e:H a=P3 (.ext (XO a C p_)))(c:XC X.K nm C U)(n:Oc X.K C f)(M:RelV y u)
  (h:∀d B,H d=p_->d≠a->Inv X zH σ (A2 (A2 H d (.ext (XF d [(f,y)]))) a (.ext (XO a C (P3 d)))) B->Q () B):wpAny (model X.prog X.w) A (setAttr (.ref a) f u) Q E s:=by
 let⟨⟨N,O,D,P,R⟩,_⟩:=(show ObjOk X.prog X.w H s.heap a _ from I.hok a _ e);refine VO I.kIn c D n λh' t' F S l=>?_;have G:H s.heap.objs.size=p_:=I.hok.fresh (On _);have T:s.heap.objs.size≠a:=jY (UF D);have lt:∀{b:Ch}{o:Obj},s.heap.get? b=P3 o->b≠s.heap.objs.size:=λ{b o} q=>gg (UF q);have p:∀{b:Ch},H b=p_->b≠a:=λ{b} q z=>by rw[z,e]at q;cases q
 have of:∀{b:Ch}{u:HO},H b=P3 u->(∀j,u≠.ext j)->A2 (A2 H s.heap.objs.size (.ext (XF s.heap.objs.size [(f,y)]))) a (.ext (XO a C (P3 s.heap.objs.size))) b=P3 u:=λ{b u} q W=>by
  rw[AT (λz=>by rw[z,e]at q;exact W _ (gW q).symm),AT (λz=>by rw[z,G]at q;cases q)];exact q
 refine h s.heap.objs.size _ G T (I.un (h':=h') (t':=t') ⟨λb o q n _ _=>l b o (p n) q,λb o q n _ _=>⟨o.slots,l b o (p n) q⟩,λb o q n _=>?_,λb o q _=>?_,λb J q=>of q (by intro j z;cases z),λb o J q=>of q (by intro j z;cases z),λb ps q=>⟨#[],by rw[of q (by intro j z;cases z)];simp⟩⟩ ?_)
 ·rw[AT (p n),AT (lt q)];exact n
 ·by_cases z:b=a
  ·rw[z];exact⟨_,F⟩
  ·exact⟨o,l b o z q⟩
 ·intro b o q
  by_cases z:b=a
  ·subst z
   rw[AX]at q;cases q;exact XO.ok ⟨N,O,F,P,R⟩
  ·rw [AT z]at q
   by_cases L:b=s.heap.objs.size
   ·subst L
    rw[AX]at q;cases q;refine XF.ok ⟨_,S,λg=>?_,λg Y=>?_,by simp⟩
    ·by_cases i:g=f
     ·rw[if_pos i]
      have t:(g==f)=q_:=beq_iff_eq.mpr i;simp only[kX,t];exact M
     ·rw[if_neg i]
      have t:(g==f)=r_:=beq_eq_false_iff_ne.mpr i;simp only[kX,t];trivial
    ·by_cases i:g=f
     ·simp[i]
     ·exact absurd (if_neg i) Y
   ·rw[AT L]at q
    refine(I.hok b o q).stay (λx v m r=>l x v ?_ r) (λx r=>of r (by intro j z;cases z)) λx J r=>of r (by intro j z;cases z)
    rcases m with rfl|m
    ·exact z
    ·intro Z;rw[Z,e]at m;cases m
theorem VL{d:Ch}{i:s_ (Str×V)}{y:V}{u:Db}{Q:Unit->Go->Prop}(I:Inv X zH σ H s)(e:H a=P3 (.ext (XO a C (P3 d))))(k:H d=P3 (.ext (XF d i)))(c:XC X.K nm C U)(n:Oc X.K C f)(v:RelV y u)(O:i.length<1000)
  (h:∀l,Inv X zH σ (A2 H d (.ext (XF d (FL f y i)))) l->Q () l):wpAny (model X.prog X.w) A (setAttr (.ref a) f u) Q E s:=by
 let⟨⟨P,R,B,S,T⟩,_⟩:=(show ObjOk X.prog X.w H s.heap a _ from I.hok a _ e);let⟨⟨m,D,r,p,_⟩,_⟩:=(show ObjOk X.prog X.w H s.heap d _ from I.hok d _ k);refine VN I.kIn c B D p (by rw[No,iK];omega) n λF W t G=>h _ ?_;have J:∃o,F.get? d=P3 o:=let ⟨o,_,_,L,_⟩:=t;⟨o,L⟩
 refine I.write (x:=d) (e:=d) (by rw[k];exact ip) (.inl rfl) (λb q M z=>(G.2 b M).trans z) J (XF.ok ⟨_,t,λg=>?_,λg N=>?_,?_⟩)
 ·show RelO ((FL f y i).lookup g) (if g=f then P3 u else m g)
  rw[JZ]
  by_cases q:g=f
  ·rw[if_pos q,if_pos q];exact v
  ·rw[if_neg q,if_neg q];exact r g
 ·by_cases q:g=f
  ·rw[q];exact(JH f y i).1
  ·refine(JH f y i).2 g (p g λz=>N ?_)
   show(if g=f then P3 u else m g)=p_;rw[if_neg q];exact z
 ·have:=Ja f y i;omega
end
def gG(C:Ch)(c e:TE)(f:Str):TS:=λD b H=>e b H λy g=>c b g λx H2=>∃a,x=.ref a/\H2 a=P3 (.ext (XO a C p_))/\∀d,H2 d=p_->d≠a->D.nx b (A2 (A2 H2 d (.ext (XF d [(f,y)]))) a (.ext (XO a C (P3 d))))
def gF(C:Ch)(e g:TE)(f:Str):TS:=λD b H=>g b H λy h=>e b h λx H2=>∃a d c,x=.ref a/\H2 a=P3 (.ext (XO a C (P3 d)))/\H2 d=P3 (.ext (XF d c))/\c.length<1000/\D.nx b (A2 H2 d (.ext (XF d (FL f y c))))
section
variable {X:Cx}{o value:Expr}{nm f:Str}{C U:Addr}{pos pos':Pos}{ta tv:TE}
theorem cv(c:XC X.K nm C U)(n:Oc X.K C f)(g:PE X o ta)(i:PE X value tv)(j:swapsWith value (P3 (.Attribute o f pos')) pos.line X.env=pure r_):PS X (.Assign [.Attribute o f pos'] value pos) (gG C ta tv f):=by
 intro E s b H D I h;refine lP (thn (i _ s b H _ I h) λu k ⟨y,l,m,p,q⟩=>thn (g _ k b l _ m q) λr F ⟨x,H2,t,v,a,ex,w,z⟩=>?_) j;subst ex;obtain rfl:r=gY a:=v;exact VM t w c n p λd G A e B=>⟨b,_,B,z d A e⟩
theorem cu(c:XC X.K nm C U)(n:Oc X.K C f)(e:PE X o ta)(g:PE X value tv)(i:swapsWith value (P3 (.Attribute o f pos')) pos.line X.env=pure r_):PS X (.Assign [.Attribute o f pos'] value pos) (gF C ta tv f):=by
 intro E s b H D I h;refine lP (thn (g _ s b H _ I h) λu j ⟨y,k,m,p,q⟩=>thn (e _ j b k _ m q) λr F ⟨x,H2,t,v,a,d,G,ex,w,z,l,A⟩=>?_) i;subst ex;obtain rfl:r=gY a:=v;exact VL t w z c n p l λJ B=>⟨b,_,B,A⟩
end
def del(H:Hp)(a:Ch):Hp:=λb=>if b=a then p_ else H b
theorem Le{H:Hp}{a b:Ch}(h:b≠a):del H a b=H b:=if_neg h
theorem Fs{H:Hp}{a:Ch}:del H a a=p_:=if_pos rfl
section
variable {X:Cx}{zH:s_ (Addr×Obj)}{σ:St}{H H1:Hp}{s s1:Shared}{a C:Addr}{dx:t_ Addr}
theorem dG(I:Inv X zH σ H s)(A:s1.os=s.os)(f:kE s1.gens)(u:Un (Ml X.stack) [] H H1 s.heap s1.heap)(h:HOk X.prog X.w H1 s1.heap)(k:H1 a=P3 (.ext (XO a C dx)))(i:s.heap.objs.size<=a):
  CXD X.prog X.w X.stack H s a C dx (PySem.W.hideAll s1.heap (a::Ml X.stack)) (del H1 a) s1:=by
 have J:Inv X zH σ H1 s1:=I.call' A u h f λb z=>absurd z (by simp);have E:∀{b:Ch}{u:HO},H1 b=P3 u->(∀g,u≠.ext g)->b≠a:=λ{b u} q p z=>by rw[z,k]at q;exact p _ (gW q).symm
 have of:∀{b:Ch}{u:HO},H1 b=P3 u->(∀g,u≠.ext g)->del H1 a b=P3 u:=λq p=>(Le (E q p)).trans q;have B:∀{b:Ch}{u:HO},H1 b=P3 u->b∉Ml X.stack:=λ{b u} q z=>by rw[J.stkFree b z]at q;cases q
 let⟨⟨F,G,t,K,L⟩,_⟩:=(show ObjOk X.prog X.w H1 s1.heap a _ from h a _ k);refine⟨A,f,⟨u.keep,u.slot,λb o q n t=>?_,u.there,λb j q=>of (u.tups b j q) (by intro g z;cases z),λb o j q=>of (u.frzs b o j q) (by intro g z;cases z),λb M q=>?_⟩,λb o q=>?_,λb o P q x N=>?_,⟨λb o q=>PySem.W.of_hideAll _ q,PySem.W.hideAll_none _ (by simp),PySem.W.funFrames_hide J.stack λy O b x=>?_,F,G,.none,t,K,L,.inl rfl⟩,i,Fs⟩
 ·by_cases z:b=a
  ·rw[z];exact Fs
  ·rw[Le z];exact u.free b o q n t
 ·let⟨m,e⟩:=u.tbls b M q
  exact⟨m,of e (by intro g z;cases z)⟩
 ·have D:b≠a:=λz=>by rw[z,Fs]at q;cases q
  rw[Le D]at q;refine(h b o q).stay (λc v d r=>PySem.W.hideAll_get _ r λz=>?_) (λc r=>of r (by intro g z;cases z)) λc j r=>of r (by intro g z;cases z)
  rcases TW.mp z with z|z
  ·rcases d with d|d
   ·exact D (d.symm.trans z)
   ·rw[z,k]at d;cases d
  ·rcases d with d|d
   ·exact B q (d▸z)
   ·exact B d z
 ·refine PySem.W.hideAll_get _ N λz=>?_
  rcases TW.mp z with z|z
  ·exact absurd (UF q) (by rw[z];exact ko.mpr i)
  ·exact x z
 ·exact Rs _ (lu.mpr ⟨y,O,x⟩)
end
def XS(X:Cx)(a:s_ (Ch×Obj))(b:St)(R:XK)(e:Db)(c:Go):Prop:=∃H s,Inv X a b H s/\Ra X.prog X.w X.stack H s R e c
def Made(X:Cx)(e:s_ (Ch×Obj))(f:St)(C:Ch)(R:XK)(v:Db)(b:Go):Prop:=∃a d H s c,v=.ref a/\Inv X e f H s/\b.os=s.os/\kE b.gens/\Un (Ml X.stack) [] H c s.heap b.heap/\HOk X.prog X.w c b.heap/\c a=P3 (.ext (XO a C d))/\s.heap.objs.size<=a/\R (.ref C) d (del c a)
section
variable {X:Cx}{zH:s_ (Addr×Obj)}{σ:St}{s:Shared}{C U:Addr}{nm:Str}{R:XK}
theorem MW{e:gj}{pos:Pos}{Q:Flow->Go->Prop}{i:Db->Go->Prop}(c:XC X.K nm C U)(D:X.A.handled=p_)(h:wpAny (model X.prog X.w) X.A (eval e X.env) (Made X zH σ C R) i s)(E:∀e t,XS X zH σ R e t->i e t):
  wpAny (model X.prog X.w) X.A (exec (.Raise (P3 e) p_ pos) X.env) Q i s:=by
 let⟨q,N,F,G,m,H,n,L,M,O,P,S,T,V⟩:=c.obj
 have W:wpAny (model X.prog X.w) X.A (eval e X.env) (λv d=>∃e k l o,v=.ref e/\d.heap.get? C=P3 (excClassObj nm q C N F (.ref U::De) q_ G m H n L M O P S T "ValueError.__new__") /\
   d.heap.get? e=P3 ⟨.ref C,k,.fields l,o⟩/\l[1]?=P3 .none/\i (.ref e) d) i s:=by
  refine thn h λv s1 ⟨a,k,Y,Z,H1,ev,I,y,f,u,g,B,p,r⟩=>?_;let⟨⟨l,o,hx,h2,h1⟩,_⟩:=(g a _ B);have J:=I.call' y u g f λb z=>absurd z (by simp);exact⟨a,k,l,o,ev,J.kIn _ _ V,hx,h1,E _ _ ⟨Y,Z,I,a,C,k,_,_,rfl,dG I y f u g B p,r⟩⟩
 first
  |exact Cn (lF (Qr rfl D (Cn (g9 W (λv d j=>Cn (lF (Sc j))) λ_ _ x=>x))))
  |omega
end
def Kp(C:Ch)(c f:Str):Sp:=λg H Q _=>∃a b e,g=[.ref a,b,e]/\H a=P3 (.ext (XO a C p_)) /\
 ∀d,H d=p_->d≠a->Q .non (A2 (A2 (A2 H d (.ext (XF d [(c,b)]))) a (.ext (XO a C (P3 d)))) d (.ext (XF d [(c,b),(f,e)])))
section
variable {X:Cx}{zH:s_ (Addr×Obj)}{σ:St}{H:Hp}{s:Shared}{C U f:Addr}{nm k1 k2 p0 p1 p2:Str}{R:XK}{E:Value->Shared->Prop}{k:Nat}{fd:FuncData}{us:s_ Value}{v1 v2:V}
theorem YA(c:XC X.K nm C U)(M:PySem.W.findIn X.K (.ref C) "__init__"=P3 (P3 (.ref f)))(N:PySem.W.typeIn X.K (.ref f)=P3 (.type "function"))(F:A3 X.prog X.w X.K X.mg X.base CA k f fd [p0,p1,p2] (Kp C k1 k2))(O:Binds X.K fd [p0,p1,p2] [])
  (P:Room (k+1) X.A) (I:Inv X zH σ H s) (r:Vals [v1,v2] us) (h:∀d,H d=p_->R (.ref C) (P3 d) (A2 H d (.ext (XF d [(k1,v1),(k2,v2)])))):wpAny (model X.prog X.w) X.A (call (.ref C) us) (Made X zH σ C R) E s:=by
 let⟨a,g,Q,t,S⟩:=s;have y:us.length=2:=r.length.symm;have T:((a.push {cls:=.type "tuple",data:=.seq us.toArray}).push (Bw C a.objs.size)).get? (a.objs.size+1)=P3 (Bw C a.objs.size):=by unfold Bw;heap_get
 have B:∀b o,a.get? b=P3 o->((a.push {cls:=.type "tuple",data:=.seq us.toArray}).push (Bw C a.objs.size)).get? b=P3 o:=λb o e=>Ev _ (Ev _ e);have D:H (a.objs.size+1)=p_:=I.hok.fresh (iE _);have G:Inv X zH σ (A2 H (a.objs.size+1) (.ext (XO (a.objs.size+1) C p_))) ⟨(a.push {cls:=.type "tuple",data:=.seq us.toArray}).push (Bw C a.objs.size),g,Q,t,S⟩:=I.laid (t':=t) B (iE _) (XO.ok ⟨_,_,T,rfl,rfl⟩)
 have p:Kp C k1 k2 [.ref (a.objs.size+1),v1,v2] (A2 H (a.objs.size+1) (.ext (XO (a.objs.size+1) C p_))) (λv J=>v=.non/\∃d,H d=p_/\d≠a.objs.size+1 /\
   J=A2 (A2 (A2 (A2 H (a.objs.size+1) (.ext (XO (a.objs.size+1) C p_))) d (.ext (XF d [(k1,v1)]))) (a.objs.size+1) (.ext (XO (a.objs.size+1) C (P3 d)))) d (.ext (XF d [(k1,v1),(k2,v2)]))) E0:=
  ⟨_,v1,v2,rfl,AX,λd l i=>⟨rfl,d,by rw[AT i]at l;exact l,i,rfl⟩⟩
 have Y:Vals [V.ref (a.objs.size+1),v1,v2] (gY (a.objs.size+1)::(us++[])):=by rw[gq];exact .cons rfl r
 refine jj (WZ (K:=X.K) (U:=U) (nm:=nm) I.kIn c M N (by rw[y];decide) (kG (F.run _ X.stack _ _ ⟨gY (a.objs.size+1)::us,[]⟩ _ _ _ E0 (P.make C us []) (G.env0.make C us []) (O _ (gY (a.objs.size+1)::us) G.kIn (by simp[y])) Y p) λZ s' L=>?_))
 rcases Z with e|(u|_|_|_) <;>first|exact iZ L|skip
 let⟨v,J,q,j,un,x,rv,ev,d,l,i,eH⟩:=L;subst ev;subst eH;exists rv,a.objs.size+1,P3 d,H,_,_,rfl,I,q,j,(Un.laid B (iE _) D).trans un,x,by rw[AT i.symm,AX],iE _
 have e:del (A2 (A2 (A2 (A2 H (a.objs.size+1) (.ext (XO (a.objs.size+1) C p_))) d (.ext (XF d [(k1,v1)]))) (a.objs.size+1) (.ext (XO (a.objs.size+1) C (P3 d)))) d (.ext (XF d [(k1,v1),(k2,v2)]))) (a.objs.size+1)=A2 H d (.ext (XF d [(k1,v1),(k2,v2)])):=by
  funext b
  by_cases z:b=a.objs.size+1
  ·rw[z,Fs,AT i.symm,D]
  ·rw[Le z]
   by_cases m:b=d
   ·rw[m,AX,AX]
   ·rw[AT m,AT z,AT m,AT z,AT m]
 rw[e];exact h d l
theorem YB(c:XC X.K nm C U)(j:PySem.W.findIn X.K (.ref C) "__init__"=P3 (P3 (.builtin "ValueError.__init__")))(I:Inv X zH σ H s)(k:us.length<=sizeLine)(h:R (.ref C) p_ H):wpAny (model X.prog X.w) X.A (call (.ref C) us) (Made X zH σ C R) E s:=by
 let⟨a,g,n,t,o⟩:=s;have d:=I.hok.fresh (iE _);refine jj (UV (K:=X.K) (U:=U) (nm:=nm) I.kIn c j k λp i l=>?_);have m:Inv X zH σ (A2 H (a.objs.size+1) _) _:=I.laid (t':=t) i (iE _) (XO.ok ⟨_,_,l,rfl,rfl⟩);exists a.objs.size+1,p_,H,_,_,rfl,I,rfl,I.bare,Un.laid i (iE _) d,m.hok,AX,iE _
 have e:del (A2 H (a.objs.size+1) (.ext (XO (a.objs.size+1) C p_))) (a.objs.size+1)=H:=by
  funext b
  by_cases z:b=a.objs.size+1
  ·rw[z,Fs,d]
  ·rw[Le z,AT z]
 grind
end
abbrev XM:=Ends->XK->St->Hp->Prop
abbrev ZV:=XK->St->Hp->VK->Prop
def XE(X:Cx)(b:s_ (Ch×Obj))(c:St)(R:XK)(e:Db)(a:Go):Prop:=X.xe e a\/XS X b c R e a
def bR(X:Cx)(c:gm)(t:XM):Prop:=
 ∀(a:s_ (Ch×Obj)) (s:Go) (b:St) (H:Hp) (D:Ends) (R:XK),Inv X a b H s->t D R b H->wpAny (model X.prog X.w) X.A (exec c X.env) (SP X a D) (XE X a b R) s
def XA(X:Cx)(c:s_ gm)(t:XM):Prop:=
 ∀(a:s_ (Ch×Obj)) (s:Go) (b:St) (H:Hp) (D:Ends) (R:XK),Inv X a b H s->t D R b H->wpAny (model X.prog X.w) X.A (execs c X.env) (SP X a D) (XE X a b R) s
def df(X:Cx)(e:gj)(t:ZV):Prop:=
 ∀(b:s_ (Ch×Obj)) (s:Go) (a:St) (H:Hp) (Q:VK) (R:XK),Inv X b a H s->t R a H Q->wpAny (model X.prog X.w) X.A (eval e X.env) (EP X b a Q) (XE X b a R) s
section
variable {X:Cx}{st:Stmt}{t u:XM}{te:ZV}{e:Expr}{es:s_ Expr}{ta:TA}{x nm k1 k2 p0 p1 p2:Str}{p pos cpos:Pos}{C U f:Addr}{k:Nat}{fd:FuncData}{ps:s_ Str}{sp:Sp}
theorem be{a:Type}{t:Sem a}{Q:a->Go->Prop}{b:s_ (Ch×Obj)}{c:St}{R:XK}{s:Go}(h:wpAny (model X.prog X.w) X.A t Q X.xe s):wpAny (model X.prog X.w) X.A t Q (XE X b c R) s:=g9 h (λ_ _ z=>z) λ_ _ z=>.inl z
theorem Tg{R:XK}(b:JV (Ra X.prog X.w) X R)(h:bR X st t):PS X st (λD=>t D R):=λg s a H D I q=>
 g9 (h _ s a H D R I q) (λ_ _ z=>z) λe d z=>z.elim id fun⟨H,s,J,c⟩=>b _ a H s e d J c
theorem Vf(a:bR X st t):XA X [st] t:=by
 intro d s b H D R I h;refine mT (g9 (a _ s b H D R I h) (λf e q=>?_) λ_ _ z=>z);cases f with
 |next=>
  let⟨g,c,J,q⟩:=q;exact jw ⟨_,c,J,q⟩
 |brk=>exact q
 |cont=>exact q
 |ret v=>exact q
def ej(c:TT)(t u:XM):XM:=λD R a H=>c a H λb d=>if b=q_ then t D R a d else u D R a d
theorem Z6{c:gj}{a b:s_ gm}{e:TT}(k:PT X c e)(l:XA X a t)(m:XA X b u):bR X (.If c a b pos) (ej e t u):=by
 intro n s d H D R I h;refine wpAny_If (thn (be (k _ s d H _ I h)) λv g ⟨i,j,q⟩=>?_);cases v with
 |true=>exact l _ g d i D R j q
 |false=>exact m _ g d i D R j q
def Xf(C:Ch)(k1 k2:Str)(ta:TA):XM:=λ_ R e H=>ta e H λg a=>∃b c,g=[b,c]/\∀d,a d=p_->R (.ref C) (P3 d) (A2 a d (.ext (XF d [(k1,b),(k2,c)])))
def Xg(C:Ch)(ta:TA):XM:=λ_ R a H=>ta a H λb c=>b.length<=sizeLine/\R (.ref C) p_ c
theorem Qt(c:XC X.K nm C U)(i:PySem.W.findIn X.K (.ref C) "__init__"=P3 (P3 (.ref f)))(j:PySem.W.typeIn X.K (.ref f)=P3 (.type "function"))(F:A3 X.prog X.w X.K X.mg X.base CA k f fd [p0,p1,p2] (Kp C k1 k2))(l:Binds X.K fd [p0,p1,p2] [])
  (d:Room (k+1) X.A) (m:Gl X x) (n:X.mg x=P3 (.ref C)) (o:PA X (e::es) ta) (a:(x==("__debug__":Str))=r_:=by decide) (u:starEach (e::es) X.env=(r_,eval e X.env)::starEach es X.env:=by rfl) (b:(backTo cpos (starEach es X.env)).any (·.1)=r_:=by rfl):
  bR X (.Raise (P3 (.Call (.Name x p) (e::es) [] cpos)) p_ pos) (Xf C k1 k2 ta):=by
 intro B s v H D R I h;refine MW c d.hd ?_ λ_ _ z=>.inr z;refine ia (GK I m n ?_ a);refine PySem.W.callWith_K I.ok.mod.kin c.kp (thn (be (o _ _ s v H _ I h)) λE G ⟨J,L,g,r,M,N,y,q⟩=>⟨g.kIn,?_⟩) u b;subst y;exact YA c i j F l d g r q
theorem Qu(c:XC X.K nm C U)(g:PySem.W.findIn X.K (.ref C) "__init__"=P3 (P3 (.builtin "ValueError.__init__")))(i:X.A.handled=p_)(j:Gl X x)(k:X.mg x=P3 (.ref C))(l:PA X (e::es) ta)(a:(x==("__debug__":Str))=r_:=by decide)(m:starEach (e::es) X.env=(r_,eval e X.env)::starEach es X.env:=by rfl)(b:(backTo cpos (starEach es X.env)).any (·.1)=r_:=by rfl):
  bR X (.Raise (P3 (.Call (.Name x p) (e::es) [] cpos)) p_ pos) (Xg C ta):=by
 intro u s n H D R I h;exact MW c i (ia (GK I j k (PySem.W.callWith_K I.ok.mod.kin c.kp (thn (be (l _ _ s n H _ I h)) λv w ⟨y,B,d,r,o,q⟩=>⟨d.kIn,YB c g d (by rw[gy,←r.length];exact o) q⟩) m b) a)) λ_ _ z=>.inr z
def Zs(sp:Sp)(ta:TA):ZV:=λR a H Q=>ta a H λb c=>sp b c Q R
theorem Vp(F:A3 X.prog X.w X.K X.mg X.base (Ra X.prog X.w) k f fd ps sp)(m:Room k X.A)(n:Gl X x)(o:X.mg x=P3 (.ref f))(v:keepIn X.K (.ref f)=q_)(y:Binds X.K fd ps [])
  (z:PA X (e::es) ta) (d:(x==("__debug__":Str))=r_:=by decide) (B:starEach (e::es) X.env=(r_,eval e X.env)::starEach es X.env:=by rfl) (g:(backTo pos (starEach es X.env)).any (·.1)=r_:=by rfl):
  df X (.Call (.Name x p) (e::es) [] pos) (Zs sp ta):=by
 intro D s E H Q R I h;refine ia (GK I n o ?_ d);refine PySem.W.callWith_K (h₀:=X.base) I.ok.mod.kin v (thn (be (z pos D s E H _ I h)) λa i ⟨j,l,b,r,q⟩=>⟨b.kIn,?_⟩) B g;have G:(a++[]).length=ps.length:=by rw[gq,←r.length];exact F.len _ _ _ _ q
 have J:Vals j (a++[]):=by grind
 refine jj (kG (F.run X.A X.stack i l ⟨a,[]⟩ (a++[]) j Q R m b.env0 (y i a b.kIn G) J q) λr M c=>?_);cases r with
 |error e=>exact .inr ⟨l,i,b,c⟩
 |ok L=>
  cases L with
  |ret u=>exact b.after c
  |next=>exact iZ c
  |brk=>exact iZ c
  |cont=>exact iZ c
def b_(i:Nat)(te:ZV):XM:=λD R a H=>te R a H λv b=>D.nx (a.set i (P3 v)) b
theorem Xt{i:Nat}{y:Str}{a:Pos}(b:X.N.Nodup)(c:X.N[i]?=P3 y)(d:Loc X.env.scope y)(g:df X e te)(j:swapsWith e (P3 (.Name y a)) pos.line X.env=pure r_:=by rfl)(k:X.fn y=q_\/X.env.scope.names.lookup y=P3 .local:=by first|exact .inl rfl|exact .inr rfl|assumption):
  bR X (.Assign [.Name y a] e pos) (b_ i te):=λu s l H D R I h=>wpAny_Assign_Name (thn (g _ s l H _ R I h) λv w ⟨y,m,n,o,q⟩=>Hf n b c d o (λz r=>⟨_,m,r,q⟩) k) j
end
def Cx.hush(X:Cx)(A:gw):Cx:={X with A:=A,calm:=r_,xe:=λ_ _=>False}
section
variable {X:Cx}{A:Around}{zH:s_ (Addr×Obj)}{σ:St}{H:Hp}{s:Shared}
theorem Inv.hush(I:Inv X zH σ H s)(a:A.frames=P3 X.stack):Inv (X.hush A) zH σ H s:=
 ⟨⟨I.ok.mod,I.ok.kind,I.ok.glob,I.ok.blt,I.ok.above,I.ok.inj,I.ok.has,I.ok.cab,λz=>absurd (z) gh,a,I.ok.stk,I.ok.exf,I.ok.bs,I.ok.bsz,I.ok.noex,I.ok.exfs,I.ok.funs,I.ok.frf⟩,I.os,I.bare,I.base,I.loc,I.cell,I.free,I.freeC,I.pin,I.hok,I.len⟩
theorem Inv.unhush(I:Inv (X.hush A) zH σ H s)(ok:X.Ok):Inv X zH σ H s:=⟨ok,I.os,I.bare,I.base,I.loc,I.cell,I.free,I.freeC,I.pin,I.hok,I.len⟩
end
def XT(C:Ch)(c:t_ Ch)(a:Ch)(u:HO):Prop:=∃b d,u=.frz ⟨.ref C,c,.fields b,d⟩ (.own a)/\b[2]?=P3 .none
abbrev TH:=Ends->Ch->t_ Ch->St->Hp->Prop
def PH(X:Cx)(g:s_ kU)(t:TH):Prop:=
 ∀(b:s_ (Ch×Obj)) (c:St) (D:Ends) (a C:Ch) (d:t_ Ch) (B:gf) (e:Hp) (f:Go) (H:Hp) (s:Go),Inv X b c e f->CXD X.prog X.w X.stack e f a C d B H s->t D C d c H->
  wpAny (model X.prog X.w) X.A (handleBy (.ref a) X.env g) (SP X b D) X.xe s
section
variable {X:Cx}{pos:Pos}{body:s_ Stmt}{rest:s_ ExceptHandler}{U:Addr}{nm:Str}{th:TH}{tb:XM}
def bp(K:Frag)(D:Ch):Prop:=∃nm q N d c e f a g b h i j k l m,K.lookup D=P3 (excClassObj nm q D N d c e f a g b h i j k l m "ValueError.__new__")/\c.contains (.type "BaseException")=q_
theorem XC.isX{K:Frag}{C:Ch}(c:XC K nm C U):bp K C:=by
 let⟨q,N,a,b,d,f,g,h,i,j,k,l,m,e⟩:=c.obj;exact⟨nm,q,N,a,_,_,b,_,f,_,h,i,j,k,l,m,e,by simp[De]⟩
theorem XC.isU{K:Frag}{C:Ch}(c:XC K nm C U):bp K U:=by
 let⟨q,N,a,b,d,f,g,h,i,j,k,l,m,n,e⟩:=c.up;exact⟨_,q,N,a,_,_,b,_,f,_,h,i,j,k,l,m,e,by simp[De]⟩
theorem QA{C U D:Ch}:(gY C::gY U::De).contains (.ref D)=(decide (C=D)||decide (U=D)):=by
 simp only[List.contains_cons,De,List.contains_nil]
 have d:∀(a b:Ch),(gY a==gY b)=decide (b=a):=λa b=>by
  grind
 have c:∀T,(gY D==jW T)=r_:=λT=>rfl;rw[d,d,c,c,c,c];simp
def Zo:TH:=λ_ _ _ _ _=>False
theorem Z_:PH X [] Zo:=λ_ _ _ _ _ _ _ _ _ _ _ _ _ h=>h.elim
def eX(tb:XM)(th:TH):TS:=λD a H=>tb D (λC c d=>∃b,C=.ref b/\th D b c a d) a H
theorem Z7{b:kU}(d:X.stack=X.env::X.outer)(g:X.env.frame=P3 X.env.locals)(J:∀e s,X.xe e s->False)(n:XA X body tb)(o:PH X (b::rest) th):PS X (.Try body (b::rest) [] [] pos) (eX tb th):=by
 intro j s k H D I h;refine wpAny_Try_except (g9 (n j s k H D _ I h) (λf l q=>?_) λe l q=>?_)
 ·cases f with
  |next=>exact jw q
  |_=>exact q
 ·rcases q with q|⟨p,r,t,a,C,u,B,v,rfl,c,K,w,i⟩
  ·grind
  ·cases w
   have m:=c.fly;rw[d]at m;have fr:=I.ok.frames;rw[d]at fr;refine Px fr g m λx y z=>?_;have A:=c.step (by grind) z;refine HJ (s:={l with heap:=x}) y λL E F=>?_;have G:=A.step (by rw[d];exact E) F;exact o j k D a C u B p r v _ t G i
end
end L2
namespace Dp
open L2
inductive D where
 |non|bl (b:Bool)|int (i:Int)|str (x:Str)|tup (xs:List D)|lst (xs:List D)|dic (ks:List Key) (xs:List D)|fdi (ks:List Key) (xs:List D)|dit (ks:List (List Key)) (xs:List D)
 deriving Inhabited
def NdT(M:Ch->Prop)(H:Hp)(a:Ch)(b:s_ V):Prop:=H a=P3 (.tup b)
def NdL(M:Ch->Prop)(H:Hp)(a:Ch)(b:s_ V):Prop:=¬M a/\H a=P3 (.lst b)
def NdD(M:Ch->Prop)(H:Hp)(a:Ch)(b:s_ Key)(c:s_ V):Prop:=¬M a/\H a=P3 (.dK (b.zip c))
def NdF(M:Ch->Prop)(H:Hp)(a:Ch)(b:s_ Key)(c:s_ V):Prop:=∃o,¬M a/\H a=P3 (.frz o (.dK (b.zip c)))
def NdU(M:Ch->Prop)(H:Hp)(a:Ch)(b:s_ (s_ Key))(c:s_ V):Prop:=¬M a/\H a=P3 (.dT (b.zip c))
mutual
def At(K:Frag)(M:Ch->Prop)(H:Hp):D->V->Prop
 |.non,v=>v=.non
 |.bl b,v=>v=.bl b
 |.int i,v=>v=.int i
 |.str x,v=>v=.str x/\x.length<=sizeLine
 |.tup ds,v=>∃a vs,v=.ref a/\NdT M H a vs/\Ats K M H ds vs
 |.lst ds,v=>∃a vs,v=.ref a/\NdL M H a vs/\Ats K M H ds vs
 |.dic ks ds,v=>∃a vs,v=.ref a/\NdD M H a ks vs/\ks.length=ds.length/\Ats K M H ds vs
 |.fdi ks ds,v=>∃a vs,v=.ref a/\NdF M H a ks vs/\ks.length=ds.length/\Ats K M H ds vs
 |.dit ks ds,v=>∃a vs,v=.ref a/\NdU M H a ks vs/\ks.length=ds.length/\Ats K M H ds vs
def Ats(K:Frag)(M:Ch->Prop)(H:Hp):s_ D->s_ V->Prop
 |[],vs=>vs=[]
 |d::ds,vs=>∃v r,vs=v::r/\At K M H d v/\Ats K M H ds r
end
section
variable {K:Frag}{M M':Addr->Prop}{H H':Hp}{a:Addr}{vs:s_ V}{ks:s_ Key}
theorem NdT.sq(h:NdT M H a vs):SqT K H a vs:=.inl (.inl h)
theorem NdL.sq(h:NdL M H a vs):SqL K H a vs:=.inl (.inl h.2)
def Pres(M:Ch->Prop)(H:Hp)(M':Ch->Prop)(H':Hp):Prop:=(∀b o,H b=P3 o->¬M b->H' b=P3 o)/\(∀b,M' b->M b\/H b=p_)/\∀b vs,H b=P3 (.tup vs)->H' b=P3 (.tup vs)
theorem Pres.nd{u:HO}(p:Pres M H M' H')(n:¬M a)(h:H a=P3 u):¬M' a/\H' a=P3 u:=by
 refine⟨λz=>?_,p.1 _ _ h n⟩
 rcases p.2.1 a z with z|z
 ·exact n z
 grind
theorem NdT.pres(p:Pres M H M' H')(h:NdT M H a vs):NdT M' H' a vs:=p.2.2 _ _ h
theorem NdL.pres(p:Pres M H M' H')(h:NdL M H a vs):NdL M' H' a vs:=p.nd h.1 h.2
theorem NdD.pres(p:Pres M H M' H')(h:NdD M H a ks vs):NdD M' H' a ks vs:=p.nd h.1 h.2
theorem NdU.pres{ks:s_ (s_ Key)}(p:Pres M H M' H')(h:NdU M H a ks vs):NdU M' H' a ks vs:=p.nd h.1 h.2
theorem NdF.pres(p:Pres M H M' H')(h:NdF M H a ks vs):NdF M' H' a ks vs:=let ⟨o,b,c⟩:=h;⟨o,p.nd b c⟩
mutual
theorem At.pres(p:Pres M H M' H'):∀{d:D}{v:V},At K M H d v->At K M' H' d v
 |.non,v,h=>h
 |.bl b,v,h=>h
 |.int i,v,h=>h
 |.str x,v,h=>h
 |.tup ds,v,h=>by
  let⟨a,vs,e,hn,hs⟩:=h;exact⟨a,vs,e,hn.pres p,Ats.pres p hs⟩
 |.lst ds,v,h=>by
  let⟨a,vs,e,hn,hs⟩:=h;exact⟨a,vs,e,hn.pres p,Ats.pres p hs⟩
 |.dic ks ds,v,h=>by
  let⟨a,vs,e,hn,hl,hs⟩:=h;exact⟨a,vs,e,hn.pres p,hl,Ats.pres p hs⟩
 |.fdi ks ds,v,h=>by
  let⟨a,vs,e,hn,hl,hs⟩:=h;exact⟨a,vs,e,hn.pres p,hl,Ats.pres p hs⟩
 |.dit ks ds,v,h=>by
  let⟨a,vs,e,hn,hl,hs⟩:=h;exact⟨a,vs,e,hn.pres p,hl,Ats.pres p hs⟩
theorem Ats.pres(p:Pres M H M' H'):∀{ds:s_ D}{vs:s_ V},Ats K M H ds vs->Ats K M' H' ds vs
 |[],vs,h=>h
 |d::ds,vs,h=>by
  let⟨v,r,e,h1,h2⟩:=h;exact⟨v,r,e,At.pres p h1,Ats.pres p h2⟩
end
theorem Pres.trans{M1 M2 d:Ch->Prop}{c H2 f:Hp}(p:Pres M1 c M2 H2)(q:Pres M2 H2 d f):Pres M1 c d f:=by
 refine⟨λb o e n=>?_,λb z=>?_,λb vs e=>q.2.2 b vs (p.2.2 b vs e)⟩
 ·refine q.1 b o (p.1 b o e n) λz=>?_
  rcases p.2.1 b z with z|z
  ·exact n z
  grind
 ·rcases q.2.1 b z with z|z
  ·exact p.2.1 b z
  ·cases e:c b with
   |none=>grind
   |some o=>
    by_cases n:M1 b
    ·exact .inl n
    ·rw[p.1 b o e n]at z;cases z
theorem Pres.refl(M:Ch->Prop)(H:Hp):Pres M H M H:=⟨λ_ _ e _=>e,λ_ z=>.inl z,λ_ _ e=>e⟩
theorem Pres.less(h:∀b,M' b->M b):Pres M H M' H:=⟨λ_ _ e _=>e,λb z=>.inl (h b z),λ_ _ e=>e⟩
theorem Ats.length:∀{b:s_ D}{vs:s_ V},Ats K M H b vs->vs.length=b.length
 |[],vs,h=>by cases h;rfl
 |d::b,vs,h=>by
  let⟨v,r,e,f,c⟩:=h;subst e;rw[gS,gS,Ats.length c]
theorem Ats.get:∀{b:s_ D}{vs:s_ V}{i:Nat}{d:D},Ats K M H b vs->b[i]?=P3 d->∃v,vs[i]?=P3 v/\At K M H d v
 |[],vs,i,d,h,e=>by simp at e
 |f::b,vs,0,d,h,e=>by
  let⟨v,r,g,j,c⟩:=h
  simp_all
 |f::b,vs,i+1,d,h,e=>by
  let⟨v,r,g,j,c⟩:=h;let⟨u,k,l⟩:=Ats.get c (by simpa using e)
  simp_all
theorem Ats.append:∀{f b:s_ D}{vs c:s_ V},Ats K M H f vs->Ats K M H b c->Ats K M H (f++b) (vs++c)
 |[],b,vs,c,h,g=>by cases h;exact g
 |d::f,b,vs,c,h,g=>by
  let⟨v,r,e,i,j⟩:=h;subst e;exact⟨v,_,rfl,i,Ats.append j g⟩
theorem Ats.drop:∀{b:s_ D}{vs:s_ V} (n:Nat),Ats K M H b vs->Ats K M H (b.drop n) (vs.drop n)
 |b,vs,0,h=>h
 |[],vs,n+1,h=>by cases h;exact rfl
 |d::b,vs,n+1,h=>by
  let⟨v,r,e,f,c⟩:=h;subst e;exact Ats.drop n c
theorem Ats.take:∀{b:s_ D}{vs:s_ V} (n:Nat),Ats K M H b vs->Ats K M H (b.take n) (vs.take n)
 |b,vs,0,h=>rfl
 |[],vs,n+1,h=>by cases h;exact rfl
 |d::b,vs,n+1,h=>by
  let⟨v,r,e,c,f⟩:=h;subst e;exact⟨v,_,rfl,c,Ats.take n f⟩
theorem Ats.one{d:D}{v:V}(h:At K M H d v):Ats K M H [d] [v]:=⟨v,[],rfl,h,rfl⟩
theorem Ats.eraseIdx:∀{b:s_ D}{vs:s_ V} (i:Nat),Ats K M H b vs->Ats K M H (b.eraseIdx i) (vs.eraseIdx i)
 |[],vs,i,h=>by cases h;exact rfl
 |f::b,vs,0,h=>by
  let⟨u,r,c,d,e⟩:=h
  grind
 |f::b,vs,i+1,h=>by
  let⟨u,r,c,d,e⟩:=h;subst c;exact⟨u,_,rfl,d,Ats.eraseIdx i e⟩
theorem Ats.reverse:∀{b:s_ D}{vs:s_ V},Ats K M H b vs->Ats K M H b.reverse vs.reverse
 |[],vs,h=>by cases h;exact rfl
 |d::b,vs,h=>by
  let⟨v,r,e,c,f⟩:=h;subst e;rw[j9,j9];exact Ats.append (Ats.reverse f) (Ats.one c)
end
inductive Kd where
 |sh|tp|fr
def Tops(K:Frag)(M:Ch->Prop)(H:Hp)(a:Ch):D->Prop
 |.lst c=>∃b,H a=P3 (.lst b)/\Ats K M H c b
 |.dic d c=>∃b,H a=P3 (.dK (d.zip b))/\d.length=c.length/\Ats K M H c b
 |.dit d c=>∃b,H a=P3 (.dT (d.zip b))/\d.length=c.length/\Ats K M H c b
 |_=>False
theorem Tops.notT{K:Frag}{M:Ch->Prop}{H:Hp}{a:Ch}{d:D}(h:Tops K M H a d){f:s_ V}:H a≠P3 (.tup f):=λq=>by
 cases d with
 |lst b=>let⟨c,e,_⟩:=h;grind
 |dic g b=>let⟨c,e,_⟩:=h;grind
 |dit g b=>let⟨c,e,_⟩:=h;grind
 |_=>exact h.elim
theorem Tops.pres{K:Frag}{M j:Ch->Prop}{H g:Hp}{a:Ch}{d:D}(h:Tops K M H a d)(p:Pres M H j g)(e:∀o,H a=P3 o->g a=P3 o):Tops K j g a d:=by
 cases d with
 |lst k=>let⟨b,c,f⟩:=h;exact⟨b,e _ c,f.pres p⟩
 |dic l k=>let⟨b,c,f,i⟩:=h;exact⟨b,e _ c,f,i.pres p⟩
 |dit l k=>let⟨b,c,f,i⟩:=h;exact⟨b,e _ c,f,i.pres p⟩
 |_=>assumption
theorem Tops.at{K:Frag}{M:Ch->Prop}{H:Hp}{a:Ch}{d:D}(h:Tops K M H a d)(n:¬M a):At K M H d (.ref a):=by
 cases d with
 |lst g=>let⟨b,c,e⟩:=h;exact⟨a,b,rfl,⟨n,c⟩,e⟩
 |dic i g=>let⟨b,c,e,f⟩:=h;exact⟨a,b,rfl,⟨n,c⟩,e,f⟩
 |dit i g=>let⟨b,c,e,f⟩:=h;exact⟨a,b,rfl,⟨n,c⟩,e,f⟩
 |_=>exact(h).elim
def AtT(K:Frag)(U:Ch->Prop)(M:Ch->Prop)(H:Hp):D->V->Prop
 |.lst c,v=>∃a b,v=.ref a/\¬U a/\Rd H a (.lst b)/\Ats K M H c b
 |.dic e c,v=>∃a b,v=.ref a/\¬U a/\H a=P3 (.dK (e.zip b))/\e.length=c.length/\Ats K M H c b
 |.dit e c,v=>∃a b,v=.ref a/\¬U a/\H a=P3 (.dT (e.zip b))/\e.length=c.length/\Ats K M H c b
 |d,v=>At K M H d v
theorem Tops.att{K:Frag}{U M:Ch->Prop}{H:Hp}{a:Ch}{d:D}(h:Tops K M H a d)(n:¬U a):AtT K U M H d (.ref a):=by
 cases d with
 |lst g=>let⟨b,c,e⟩:=h;exact⟨a,b,rfl,n,.inl c,e⟩
 |dic i g=>let⟨b,c,e,f⟩:=h;exact⟨a,b,rfl,n,c,e,f⟩
 |dit i g=>let⟨b,c,e,f⟩:=h;exact⟨a,b,rfl,n,c,e,f⟩
 |_=>exact(h).elim
def VR(K:Frag)(U:Ch->Prop)(M:Ch->Prop)(H c:Hp):Kd->V->D->Prop
 |.sh,v,d=>At K M c d v
 |.tp,v,d=>AtT K U M c d v
 |.fr,v,d=>∃a,v=.ref a/\H a=p_/\Tops K (λb=>M b\/b=a) c a d
def FeedOk(K:Frag)(M:Ch->Prop)(H:Hp)(f:Ch×Ch)(n:Nat):Prop:=
 ∃(at_ b:Int) (a:s_ Int),H f.1=P3 (.lst [.ref f.2,.int at_,.int b])/\f.2≠f.1/\NdL M H f.2 (a.map V.int)/\a.length<=63/\0<=at_/\at_+n<=2 ^ 60
def FeedC(K:Frag)(F:t_ (Ch×Ch))(M:Ch->Prop)(H:Hp)(n:Nat):Prop:=∀f,F=P3 f->FeedOk K M H f n
def Ext(U:Ch->Prop)(H c:Hp):Prop:=∀b o,H b=P3 o->∃a,c b=P3 a/\(¬U b->a=o)/\∀d,o=.tup d->a=o
theorem Ext.keep{U:Ch->Prop}{H a:Hp}(p:Ext U H a){b:Ch}{o:HO}(e:H b=P3 o)(n:¬U b):a b=P3 o:=by
 let⟨c,q,r,_⟩:=p b o e;rw[q,r n]
theorem Ext.tup{U:Ch->Prop}{H a:Hp}(p:Ext U H a){b:Ch}{c:s_ V}(e:H b=P3 (.tup c)):a b=P3 (.tup c):=by
 let⟨d,q,_,r⟩:=p b _ e
 grind
theorem Ext.free{U:Ch->Prop}{H a:Hp}(p:Ext U H a){b:Ch}(e:a b=p_):H b=p_:=by
 cases q:H b with
 |none=>rfl
 |some o=>
  let⟨c,z,_⟩:=p b o q
  grind
theorem Ext.refl(U:Ch->Prop)(H:Hp):Ext U H H:=λ_ o e=>⟨o,e,λ_=>rfl,λ_ _=>rfl⟩
theorem Ext.trans{U:Ch->Prop}{c H2 d:Hp}(p:Ext U c H2)(q:Ext U H2 d):Ext U c d:=λb o e=>by
 let⟨g,h,i,f⟩:=p b o e;let⟨j,k,l,m⟩:=q b g h;exact⟨j,k,λn=>(l n).trans (i n),λa z=>(m a ((f a z).trans z)).trans (f a z)⟩
def Grow(H a:Hp):Prop:=a=H\/∃p o,H p=p_/\a=A2 H p o
theorem Grow.all{H a:Hp}(g:Grow H a):∀b o,H b=P3 o->a b=P3 o:=by
 intro b o e
 rcases g with rfl|⟨p,u,n,rfl⟩
 ·exact e
 ·rw[AT (Ax e n)];exact e
theorem Grow.refl{H:Hp}:Grow H H:=.inl rfl
theorem Grow.ext{U:Ch->Prop}{H a:Hp}(g:Grow H a):Ext U H a:=λb o e=>⟨o,g.all b o e,λ_=>rfl,λ_ _=>rfl⟩
theorem Grow.pres{M:Ch->Prop}{H a:Hp}(g:Grow H a):Pres M H M a:=⟨λb o e _=>g.all b o e,λ_ z=>.inl z,λb c e=>g.all b _ e⟩
theorem FeedOk.pres{K:Frag}{M c:Ch->Prop}{H b:Hp}{f:Ch×Ch}{n:Nat}(h:FeedOk K M H f n)(p:Pres M H c b)(e:∀o,H f.1=P3 o->b f.1=P3 o):FeedOk K c b f n:=by
 let⟨a,r,d,g,i,j,k⟩:=h;exact⟨a,r,d,e _ g,i,j.pres p,k⟩
theorem FeedC.pres{K:Frag}{F:t_ (Ch×Ch)}{M b:Ch->Prop}{H a:Hp}{n:Nat}(h:FeedC K F M H n)(p:Pres M H b a)(e:∀f o,F=P3 f->H f.1=P3 o->a f.1=P3 o):FeedC K F b a n:=λf c=>(h f c).pres p λo q=>e f o c q
theorem FeedC.grow{K:Frag}{F:t_ (Ch×Ch)}{M:Ch->Prop}{H a:Hp}{n:Nat}(h:FeedC K F M H n)(g:Grow H a):FeedC K F M a n:=h.pres g.pres λf o _ e=>g.all _ o e
theorem FeedC.more{K:Frag}{F:t_ (Ch×Ch)}{M:Ch->Prop}{H:Hp}{n:Nat}(h:FeedC K F M H n)(a:Ch)(e:∀f,F=P3 f->f.2≠a):FeedC K F (λb=>M b\/b=a) H n:=λf c=>by
 let⟨x,r,g,i,j,d,k⟩:=h f c;exact⟨x,r,g,i,j,⟨λz=>z.elim d.1 (e f c),d.2⟩,k⟩
def AtX(K:Frag)(M:Ch->Prop)(H:Hp)(a:Ch)(g:Str)(b:s_ Str)(f:s_ D):Prop:=∃C U c u e,XC K g C U/\(¬M a/\H a=P3 u)/\XT C c a u/\(c=p_/\b=[]/\e=[]\/∃d,c=P3 d/\¬M d/\H d=P3 (.ext (XF d (b.zip e))))/\b.length=f.length/\Ats K M H f e
theorem AtX.pres{K:Frag}{M b:Ch->Prop}{H e:Hp}{a:Ch}{f:Str}{g:s_ Str}{i:s_ D}(h:AtX K M H a f g i)(p:Pres M H b e):AtX K b e a f g i:=by
 let⟨C,U,j,u,k,c,⟨n,l⟩,x,m,o,q⟩:=h;refine⟨C,U,j,u,k,c,p.nd n l,x,?_,o,q.pres p⟩
 rcases m with z|⟨d,r,s,t⟩
 ·exact .inl z
 ·exact .inr ⟨d,r,p.nd s t⟩
inductive Slot where
 |no|sh (d:D)|br (d:D)|fd|ow (d:D)|lt (a:Ch) (d:D)|ex (a:Ch) (nm:Str) (ks:List Str) (ds:List D)
def Slot.owns:Slot->Bool
 |.ow _=>q_
 |.lt _ _=>q_
 |_=>r_
def SlotOk(K:Frag)(F:t_ (Ch×Ch))(U:Ch->Prop)(M:Ch->Prop)(H:Hp):Slot->t_ V->Prop
 |.no,_=>True
 |.sh d,o=>∃v,o=P3 v/\At K M H d v
 |.br d,o=>∃v,o=P3 v/\AtT K U M H d v
 |.fd,o=>∃f,o=P3 (.ref f.1)/\F=P3 f
 |.ow d,o=>∃a,o=P3 (.ref a)/\M a/\¬U a/\Tops K M H a d
 |.lt a d,o=>o=P3 (.ref a)/\M a/\¬U a/\Tops K M H a d
 |.ex a b c e,o=>o=P3 (.ref a)/\AtX K M H a b c e
structure Fm where
 M0:Ch->Prop
 F:Option (Ch×Ch)
 U:Ch->Prop
 V:Ch->Prop
 H0:Hp
 zH:List ((Ch->Prop)×Hp)
 kp:List (Ch×HO)
def Apart(b:s_ Slot)(c:L2.St):Prop:=∀(i j:Nat) (s t:Slot) (a:Ch),b[i]?=P3 s->s.owns=q_->b[j]?=P3 t->t.owns=q_->(c[i]?).getD p_=P3 (.ref a)->(c[j]?).getD p_=P3 (.ref a)->i=j
structure Rel (K:Frag) (C:Fm) (M:Ch->Prop) (H:Hp) (n:Nat) (ρ:List Slot) (σ:L2.St):Prop where
 len:ρ.length=σ.length
 sub:∀a,C.M0 a->M a
 dom:∀a,M a->∃o,H a=P3 o
 ext:Ext C.U C.H0 H
 fU:∀f,C.F=P3 f->C.U f.1
 uV:∀a,C.U a->C.V a
 vM:∀a,C.V a->M a
 feed:FeedC K C.F M H n
 sl:∀(i:Nat) (s:Slot),ρ[i]?=P3 s->SlotOk K C.F C.V M H s ((σ[i]?).getD p_)
 pin:∀p∈C.zH,Pres p.1 p.2 M H
 br0:∀(i:Nat) (d:D) (a:Ch),ρ[i]?=P3 (.br d)->(σ[i]?).getD p_=P3 (.ref a)->∃o,C.H0 a=P3 o
 new:∀(i:Nat) (s:Slot) (a:Ch),ρ[i]?=P3 s->s.owns=q_->(σ[i]?).getD p_=P3 (.ref a)->¬C.M0 a/\C.H0 a=p_
 two:Apart ρ σ
 kept:∀p∈C.kp,H p.1=P3 p.2/\M p.1/\¬C.V p.1/\∀(i:Nat) (d:D),ρ[i]?=P3 (.ow d)->(σ[i]?).getD p_≠P3 (.ref p.1)
section
variable {K:Frag}{C:Fm}{M:Addr->Prop}{H H':Hp}{n n':Nat}{ρ:s_ Slot}{σ:L2.St}{d:D}{v:V}{κ:Kd}
theorem Rel.pres(R:Rel K C M H n ρ σ)(e:Ext C.U H H'):Pres M H M H':=⟨λb o q a=>e.keep q λz=>a (R.vM b (R.uV b z)),λ_ z=>.inl z,λb c q=>e.tup q⟩
theorem AtT.pres{U q:Ch->Prop}{s:Ch->Prop}(h:AtT K q M H d v)(p:Pres M H s H')(e:Ext U H H')(l:∀a,U a->q a):AtT K q s H' d v:=by
 cases d with
 |lst m=>
  let⟨a,g,j,c,f,k⟩:=h;refine⟨a,g,j,c,?_,k.pres p⟩
  rcases f with f|⟨o,f⟩
  ·exact .inl (e.keep f λz=>c (l a z))
  ·exact .inr ⟨o,e.keep f λz=>c (l a z)⟩
 |dic t m=>
  let⟨a,g,j,c,f,r,k⟩:=h;exact⟨a,g,j,c,e.keep f λz=>c (l a z),r,k.pres p⟩
 |dit t m=>
  let⟨a,g,j,c,f,r,k⟩:=h;exact⟨a,g,j,c,e.keep f λz=>c (l a z),r,k.pres p⟩
 |non=>assumption
 |bl b=>assumption
 |int i=>assumption
 |str x=>assumption
 |tup m=>exact At.pres p h
 |fdi t m=>exact At.pres p h
theorem AtT.same{U r:Ch->Prop}{s:Ch->Prop}(h:AtT K U M H d v)(p:Pres M H s H')(e:∀a o,v=.ref a->H a=P3 o->H' a=P3 o)(m:∀a,v=.ref a->¬U a->¬r a):AtT K r s H' d v:=by
 cases d with
 |lst l=>
  let⟨a,g,c,j,f,k⟩:=h;refine⟨a,g,c,m a c j,?_,k.pres p⟩
  rcases f with f|⟨o,f⟩
  ·exact .inl (e a _ c f)
  ·exact .inr ⟨o,e a _ c f⟩
 |dic t l=>
  let⟨a,g,c,j,f,q,k⟩:=h;exact⟨a,g,c,m a c j,e a _ c f,q,k.pres p⟩
 |dit t l=>
  let⟨a,g,c,j,f,q,k⟩:=h;exact⟨a,g,c,m a c j,e a _ c f,q,k.pres p⟩
 |non=>assumption
 |bl b=>assumption
 |int i=>assumption
 |str x=>assumption
 |tup l=>exact At.pres p h
 |fdi t l=>exact At.pres p h
theorem AtT.lies{U:Ch->Prop}{a:Ch}(h:AtT K U M H d (.ref a)):∃o,H a=P3 o:=by
 cases d with
 |lst f=>
  let⟨b,g,e,_,c,_⟩:=h;cases e
  rcases c with c|⟨o,c⟩
  ·exact⟨_,c⟩
  grind
 |dic j f=>
  let⟨b,g,e,_,c,_⟩:=h
  grind
 |dit j f=>
  let⟨b,g,e,_,c,_⟩:=h
  grind
 |non=>cases(h)
 |bl b=>cases(h)
 |int i=>cases(h)
 |str x=>cases(h).1
 |tup f=>
  let⟨b,g,e,c,_⟩:=h;cases e;exact⟨_,c⟩
 |fdi j f=>
  let⟨b,g,e,⟨o,_,c⟩,_⟩:=h
  simp_all
theorem SlotOk.pres{F:t_ (Ch×Ch)}{U g i:Ch->Prop}{s:Slot}{o:t_ V}(h:SlotOk K F g M H s o)(p:Pres M H i H')(m:∀a,M a->i a)(e:Ext U H H')(j:∀a,U a->g a):SlotOk K F g i H' s o:=by
 cases s with
 |no=>trivial
 |sh d=>let⟨v,b,c⟩:=h;exact⟨v,b,c.pres p⟩
 |ex a l r t=>let⟨b,c⟩:=h;exact⟨b,c.pres p⟩
 |br d=>let⟨v,b,c⟩:=h;exact⟨v,b,c.pres p e j⟩
 |fd=>exact h
 |ow d=>let⟨a,b,c,f,k⟩:=h;exact⟨a,b,m a c,f,k.pres p λo q=>e.keep q λz=>f (j a z)⟩
 |lt a d=>let⟨b,c,f,k⟩:=h;exact⟨b,m a c,f,k.pres p λo q=>e.keep q λz=>f (j a z)⟩
theorem Rel.step(R:Rel K C M H n ρ σ)(e:Ext C.U H H')(f:FeedC K C.F M H' n'):Rel K C M H' n' ρ σ:=by
 have p:=R.pres e;refine⟨R.len,R.sub,λa z=>?_,R.ext.trans e,R.fU,R.uV,R.vM,f,λi s q=>(R.sl i s q).pres p (λ_ z=>z) e R.uV,λq b=>(R.pin q b).trans p,R.br0,R.new,R.two,λq b=>?_⟩
 ·let⟨o,c⟩:=R.dom a z
  let⟨k,g,_⟩:=e a o c
  grind
 ·let⟨c,g,h,j⟩:=R.kept q b
  exact⟨e.keep c λz=>h (R.uV _ z),g,h,j⟩
theorem Rel.udom(R:Rel K C M H n ρ σ):∀a,C.U a->∃o,H a=P3 o:=λa z=>R.dom a (R.vM a (R.uV a z))
theorem At.tp{U:Ch->Prop}(k:∀a,U a->M a)(h:At K M H d v):AtT K U M H d v:=by
 cases d with
 |lst j=>
  let⟨a,f,e,c,g⟩:=h;exact⟨a,f,e,λz=>c.1 (k a z),.inl c.2,g⟩
 |dic m j=>
  let⟨a,f,e,c,l,g⟩:=h;exact⟨a,f,e,λz=>c.1 (k a z),c.2,l,g⟩
 |dit m j=>
  let⟨a,f,e,c,l,g⟩:=h;exact⟨a,f,e,λz=>c.1 (k a z),c.2,l,g⟩
 |non=>exact h
 |bl b=>exact h
 |int i=>exact h
 |str x=>exact h
 |tup j=>exact h
 |fdi m j=>exact h
theorem VR.back{U b:Ch->Prop}{c:Hp}(e:Ext U H c)(h:VR K b M c H' κ v d):VR K b M H H' κ v d:=by
 cases κ with
 |sh=>exact h
 |tp=>exact h
 |fr=>
  let⟨a,f,g,i⟩:=h;exact⟨a,f,e.free g,i⟩
theorem VR.shOf{U:Ch->Prop}(b:∀a,M a->∃o,H a=P3 o)(h:VR K U M H H' κ v d)(e:κ≠.tp):At K M H' d v:=by
 cases κ with
 |sh=>exact h
 |tp=>grind
 |fr=>
  let⟨a,rfl,f,c⟩:=h;refine(c.pres (Pres.less λ_ z=>.inl z) λ_ z=>z).at λz=>?_
  grind
theorem VR.tpOf{U:Ch->Prop}(b:∀a,M a->∃o,H a=P3 o)(c:∀a,U a->M a)(h:VR K U M H H' κ v d):AtT K U M H' d v:=by
 cases κ with
 |sh=>exact At.tp c h
 |tp=>exact h
 |fr=>exact At.tp c (VR.shOf b h (by grind))
theorem Er{a:Type}{l:s_ a}{i j:Nat}{x y:a}(h:(l.set i x)[j]?=P3 y):(j=i/\i<l.length/\y=x)\/(j≠i/\l[j]?=P3 y):=by
 rw[List.getElem?_set]at h
 by_cases e:i=j
 ·simp_all
 ·rw[if_neg e]at h
  exact .inr ⟨λz=>e z.symm,h⟩
theorem G3{l:L2.St}{i j:Nat}{x:t_ V}(h:j≠i):((l.set i x)[j]?).getD p_=(l[j]?).getD p_:=by
 rw[List.getElem?_set,if_neg (λz=>h z.symm)]
theorem Qe{l:L2.St}{i:Nat}{x:t_ V}(h:i<l.length):((l.set i x)[i]?).getD p_=x:=by
 simp_all
theorem Rel.set(R:Rel K C M H n ρ σ){i:Nat}(h:At K M H d v):Rel K C M H n (ρ.set i (.sh d)) (σ.set i (P3 v)):=by
 have b:∀(j:Nat) (s:Slot),(ρ.set i (.sh d))[j]?=P3 s->s.owns=q_->ρ[j]?=P3 s/\((σ.set i (P3 v))[j]?).getD p_=(σ[j]?).getD p_:=λj s q o=>by
  rcases Er q with⟨_,_,rfl⟩|⟨f,q⟩
  ·cases o
  ·exact⟨q,G3 f⟩
 refine⟨by rw[i7,i7];exact R.len,R.sub,R.dom,R.ext,R.fU,R.uV,R.vM,R.feed,λj s q=>?_,R.pin,λj e a q c=>?_,λj s a q o c=>?_,λj k s t a g m c r u w=>?_,λp x=>?_⟩
 ·rcases Er q with⟨rfl,y,rfl⟩|⟨f,q⟩
  ·rw[Qe (by rw[←R.len];exact y)]
   exact⟨v,rfl,h⟩
  ·rw[G3 f]
   exact R.sl j s q
 ·rcases Er q with⟨_,_,e⟩|⟨f,q⟩
  ·cases e
  ·rw[G3 f]at c
   exact R.br0 j e a q c
 ·let⟨g,e⟩:=b j s q o
  rw[e]at c;exact R.new j s a g o c
 ·let⟨z,A⟩:=b j s g m
  let⟨B,l⟩:=b k t c r;rw[A]at u;rw[l]at w;exact R.two j k s t a z m B r u w
 ·let⟨D,E,F,G⟩:=R.kept p x
  refine⟨D,E,F,λj e q=>?_⟩;let⟨g,l⟩:=b j _ q rfl;rw[l];exact G j e g
theorem Rel.owner(R:Rel K C M H n ρ σ){i:Nat}{s:Slot}(h:ρ[i]?=P3 s)(o:s.owns=q_):∃a e,(σ[i]?).getD p_=P3 (.ref a)/\M a/\¬C.V a/\Tops K M H a e/\¬C.M0 a/\C.H0 a=p_:=by
 have q:=R.sl i s h;cases s with
 |ow d=>let⟨a,b,c,f,g⟩:=q;exact⟨a,d,b,c,f,g,R.new i _ a h o b⟩
 |lt a d=>let⟨b,c,f,g⟩:=q;exact⟨a,d,b,c,f,g,R.new i _ a h o b⟩
 |_=>cases o
theorem Rel.setOw(R:Rel K C M H n ρ σ){i:Nat}{a:Ch}(e:Ext C.U H H')(f:FeedC K C.F M H' n')(G:H a=p_)(h:Tops K (λb=>M b\/b=a) H' a d):
  Rel K C (λb=>M b\/b=a) H' n' (ρ.set i (.ow d)) (σ.set i (P3 (.ref a))):=by
 have J:=R.step e f
 have I:∀b,M b->b≠a:=λb z q=>by
  let⟨o,w⟩:=R.dom b z;rw[q,G]at w;cases w
 have X:¬C.M0 a/\C.H0 a=p_:=⟨λz=>I a (R.sub a z) rfl,R.ext.free G⟩;have P:Pres M H (λb=>M b\/b=a) H':=⟨λb o q Y=>e.keep q λz=>Y (R.vM b (R.uV b z)),λb z=>z.elim .inl λz=>.inr (by rw[z];exact G),λb L q=>e.tup q⟩
 have r:∀(j:Nat) (s:Slot),(ρ.set i (.ow d))[j]?=P3 s->(j=i/\s=.ow d/\((σ.set i (P3 (.ref a)))[j]?).getD p_=P3 (.ref a))\/(j≠i/\ρ[j]?=P3 s/\((σ.set i (P3 (.ref a)))[j]?).getD p_=(σ[j]?).getD p_):=λj s q=>by
  rcases Er q with⟨rfl,Z,rfl⟩|⟨A,q⟩
  ·exact .inl ⟨rfl,rfl,Qe (by rw[←R.len];exact Z)⟩
  ·exact .inr ⟨A,q,G3 A⟩
 have D:∀(j:Nat) (s:Slot) (b:Ch),ρ[j]?=P3 s->s.owns=q_->(σ[j]?).getD p_=P3 (.ref b)->b≠a:=λj s b q o z=>by
  let⟨c,_,l,m,_⟩:=R.owner q o;rw[l]at z;cases z;exact I _ m
 have hd:∃o,H' a=P3 o:=by
  cases d with
  |lst Q=>let⟨L,q,_⟩:=h;exact⟨_,q⟩
  |dic ks Q=>let⟨L,q,_⟩:=h;exact⟨_,q⟩
  |dit ks Q=>let⟨L,q,_⟩:=h;exact⟨_,q⟩
  |_=>exact(show False from h).elim
 refine⟨by rw[i7,i7];exact R.len,λb z=>.inl (R.sub b z),λb z=>?_,J.ext,R.fU,R.uV,λb z=>.inl (R.vM b z),f.more a λg hg q=>?_,λj s q=>?_,λq hq=>(R.pin q hq).trans P,λj x b q u=>?_,λj s b q o u=>?_,λj k s t b y S u T E B=>?_,λp hp=>?_⟩
 ·rcases z with z|z
  ·exact J.dom b z
  ·rw[z];exact hd
 ·let⟨_,_,_,_,_,N,_⟩:=R.feed g hg
  have:=N.2
  rw[q,G]at this;cases this
 ·rcases r j s q with⟨rfl,rfl,l⟩|⟨A,y,l⟩
  ·rw[l]
   exact⟨a,rfl,.inr rfl,λz=>I a (R.vM a z) rfl,h⟩
  ·rw[l]
   exact(R.sl j s y).pres P (λ_ z=>.inl z) e R.uV
 ·rcases r j _ q with⟨_,l,_⟩|⟨A,y,l⟩
  ·cases l
  ·rw[l]at u
   exact R.br0 j x b y u
 ·rcases r j s q with⟨_,_,l⟩|⟨A,y,l⟩
  ·rw[l]at u
   cases u;exact X
  ·rw[l]at u
   exact R.new j s b y o u
 ·rcases r j s y with⟨rfl,_,l⟩|⟨A,V,l⟩
  ·rw[l]at E
   cases E
   rcases r k t u with⟨rfl,_,_⟩|⟨hk,O,x⟩
   ·rfl
   ·rw[x]at B
    exact absurd rfl (D k t a O T B)
  ·rw[l]at E
   rcases r k t u with⟨rfl,_,x⟩|⟨hk,O,x⟩
   ·rw[x]at B
    cases B;exact absurd rfl (D j s a V S E)
   ·rw[x]at B
    exact R.two j k s t b V S O T E B
 ·let⟨h1,W,N,h4⟩:=J.kept p hp
  refine⟨h1,.inl W,N,λj x q=>?_⟩
  rcases r j _ q with⟨_,_,l⟩|⟨A,y,l⟩
  ·rw[l]
   intro z;cases z;exact I _ W rfl
  ·rw[l]
   exact h4 j x y
theorem Rel.mut(R:Rel K C M H n ρ σ){i:Nat}{a:Ch}{e:D}{o:HO}(E:ρ[i]?=P3 (.ow d))(N:(σ[i]?).getD p_=P3 (.ref a))(h:Tops K M (A2 H a o) a e):
  Rel K C M (A2 H a o) n (ρ.set i (.ow e)) σ:=by
 let⟨b,_,c,m,U,t,n0,V⟩:=R.owner E rfl;rw[N]at c;cases c;have F:Pres M H M (A2 H a o):=⟨λb A q Y=>by rw[AT (λz=>Y (by rw[z];exact m))];exact q,λ_ z=>.inl z,λb vs q=>by rw[AT (λz=>t.notT (by rw[←z];exact q))];exact q⟩
 have l:∀(j:Nat) (s:Slot),(ρ.set i (.ow e))[j]?=P3 s->(j=i/\s=.ow e)\/(j≠i/\ρ[j]?=P3 s):=λj s q=>by
  rcases Er q with⟨rfl,hl,rfl⟩|⟨y,q⟩
  ·exact .inl ⟨rfl,rfl⟩
  ·exact .inr ⟨y,q⟩
 have I:∀(j:Nat) (s:Slot) (b:Ch),j≠i->ρ[j]?=P3 s->s.owns=q_->(σ[j]?).getD p_=P3 (.ref b)->b≠a:=λj s b y q o z w=>by
  subst w;exact y (R.two j i s _ b q o E rfl z N)
 refine⟨by rw[i7];exact R.len,R.sub,λb z=>?_,λb A q=>?_,R.fU,R.uV,R.vM,R.feed.pres F λf A Z q=>?_,λj s q=>?_,λq hq=>(R.pin q hq).trans F,λj O b q g=>?_,λj s b q G g=>?_,λj k s t b u W g G P Q=>?_,λp hp=>?_⟩
 ·by_cases B:b=a
  ·exact⟨o,by rw[B,AX]⟩
  ·let⟨A,q⟩:=R.dom b z
   exact⟨A,by rw[AT B];exact q⟩
 ·let⟨G,g,r⟩:=R.ext b A q
  have B:b≠a:=λz=>by rw[z,V]at q;cases q
  exact⟨G,by rw[AT B];exact g,r⟩
 ·have B:f.1≠a:=λz=>U (by rw[←z];exact R.uV _ (R.fU f Z))
  rw[AT B];exact q
 ·rcases l j s q with⟨rfl,rfl⟩|⟨y,u⟩
  ·rw[N]
   exact⟨a,rfl,m,U,h⟩
  ·have g:=R.sl j s u
   cases s with
   |no=>trivial
   |sh d=>let⟨v,c,x⟩:=g;exact⟨v,c,x.pres F⟩
   |ex a nm ks ds=>let⟨c,x⟩:=g;exact⟨c,x.pres F⟩
   |br d=>
    let⟨v,c,x⟩:=g;refine⟨v,c,x.same F (λb A z q=>?_) λ_ _ z=>z⟩;subst z;let⟨o3,w⟩:=R.br0 j d b u c;rw[AT (λz=>by rw[z,V]at w;cases w)];exact q
   |fd=>exact g
   |ow d=>
    let⟨b,c,x,J,L⟩:=g;exact⟨b,c,x,J,L.pres F λA w=>by rw[AT (I j _ b y u rfl c)];exact w⟩
   |lt b d=>
    let⟨c,x,J,L⟩:=g;exact⟨c,x,J,L.pres F λA w=>by rw[AT (I j _ b y u rfl c)];exact w⟩
 ·rcases l j _ q with⟨_,c⟩|⟨y,u⟩
  ·cases c
  ·exact R.br0 j O b u g
 ·rcases l j s q with⟨rfl,_⟩|⟨y,u⟩
  ·exact R.new j _ b E rfl g
  ·exact R.new j s b u G g
 ·rcases l j s u with⟨rfl,rfl⟩|⟨y,X⟩
  ·rcases l k t g with⟨rfl,_⟩|⟨hk,S⟩
   ·rfl
   ·exact R.two j k _ t b E rfl S G P Q
  ·rcases l k t g with⟨rfl,rfl⟩|⟨hk,S⟩
   ·exact R.two j k s _ b X W E rfl P Q
   ·exact R.two j k s t b X W S G P Q
 ·let⟨x,J,L,T⟩:=R.kept p hp
  have B:p.1≠a:=λz=>T i d E (by rw[N,z]);refine⟨by rw[AT B];exact x,J,L,λj O q=>?_⟩
  rcases l j _ q with⟨rfl,_⟩|⟨y,u⟩
  ·exact T j d E
  ·exact T j O u
theorem Rel.freeze(R:Rel K C M H n ρ σ){i:Nat}{a:Ch}(E:ρ[i]?=P3 (.ow d))(x:(σ[i]?).getD p_=P3 (.ref a)):Rel K C (λb=>M b/\b≠a) H n (ρ.set i (.sh d)) σ:=by
 let⟨b,_,c,m,J,_,L,V⟩:=R.owner E rfl;rw[x]at c;cases c;have y:∀b,M b/\b≠a->M b:=λ_ z=>z.1;have r:Pres M H (λb=>M b/\b≠a) H:=Pres.less y
 have e:∀(j:Nat) (s:Slot),(ρ.set i (.sh d))[j]?=P3 s->(j=i/\s=.sh d)\/(j≠i/\ρ[j]?=P3 s):=λj s q=>by
  rcases Er q with⟨rfl,W,rfl⟩|⟨l,q⟩
  ·exact .inl ⟨rfl,rfl⟩
  ·exact .inr ⟨l,q⟩
 have A:∀(j:Nat) (s:Slot) (b:Ch),j≠i->ρ[j]?=P3 s->s.owns=q_->(σ[j]?).getD p_=P3 (.ref b)->b≠a:=λj s b l q o z w=>by
  subst w;exact l (R.two j i s _ b q o E rfl z x)
 have t:Tops K M H a d:=by
  let⟨b,c,_,_,u⟩:=R.sl i _ E;rw[x]at c;cases c;exact u
 refine⟨by rw[i7];exact R.len,λb z=>⟨R.sub b z,λw=>L (by rw[←w];exact z)⟩,λb z=>R.dom b z.1,R.ext,R.fU,R.uV,λb z=>⟨R.vM b z,λw=>J (by rw[←w];exact z)⟩,R.feed.pres r λ_ _ _ q=>q,λj s q=>?_,λq N=>(R.pin q N).trans r,λj F b q f=>?_,λj s b q B f=>?_,λj k s t b g G f B O P=>?_,λp Q=>?_⟩
 ·rcases e j s q with⟨rfl,rfl⟩|⟨l,g⟩
  ·rw[x]
   exact⟨_,rfl,(t.pres r λ_ z=>z).at λz=>z.2 rfl⟩
  ·have f:=R.sl j s g
   cases s with
   |no=>trivial
   |sh d=>let⟨v,c,h⟩:=f;exact⟨v,c,h.pres r⟩
   |ex a X Y Z=>let⟨c,h⟩:=f;exact⟨c,h.pres r⟩
   |br d=>let⟨v,c,h⟩:=f;exact⟨v,c,h.same r (λ_ _ _ z=>z) λ_ _ z=>z⟩
   |fd=>exact f
   |ow d=>
    let⟨b,c,h,D,u⟩:=f;exact⟨b,c,⟨h,A j _ b l g rfl c⟩,D,u.pres r λ_ z=>z⟩
   |lt b d=>
    let⟨c,h,D,u⟩:=f;exact⟨c,⟨h,A j _ b l g rfl c⟩,D,u.pres r λ_ z=>z⟩
 ·rcases e j _ q with⟨_,c⟩|⟨l,g⟩
  ·cases c
  ·exact R.br0 j F b g f
 ·rcases e j s q with⟨_,rfl⟩|⟨l,g⟩
  ·cases B
  ·exact R.new j s b g B f
 ·rcases e j s g with⟨_,rfl⟩|⟨l,S⟩
  ·cases G
  ·rcases e k t f with⟨_,rfl⟩|⟨hk,T⟩
   ·cases B
   ·exact R.two j k s t b S G T B O P
 ·let⟨h,D,u,I⟩:=R.kept p Q
  have U:p.1≠a:=λz=>I i d E (by rw[x,z]);refine⟨h,⟨D,U⟩,u,λj F q=>?_⟩
  rcases e j _ q with⟨_,c⟩|⟨l,g⟩
  ·cases c
  ·exact I j F g
end
abbrev DW:=Nat->s_ Slot->(D->Nat->Prop)->Prop
abbrev Gg:=Nat->s_ Slot->(Bool->Nat->Prop)->Prop
abbrev D8:=Nat->s_ Slot->(s_ D->Nat->Prop)->Prop
abbrev XN:=Nat->s_ Slot->(s_ Slot->Nat->Prop)->Prop
section
variable (X:Cx)
def DE(e:gj)(g:Kd)(w:DW):Prop:=∃t,PE X e t/\∀(C:Fm) (M:Ch->Prop) (H:Hp) (n:Nat) (b:s_ Slot) (c:L2.St) (P:D->Nat->Prop) (Q:VK),Rel X.K C M H n b c->w n b P->
 (∀v a d f,Ext C.U H a->FeedC X.K C.F M a f->VR X.K C.V M H a g v d->P d f->Q v a)->t c H Q
def DT(e:gj)(w:Gg):Prop:=∃t,PT X e t/\∀(C:Fm) (M:Ch->Prop) (H:Hp) (n:Nat) (c:s_ Slot) (d:L2.St) (P:Bool->Nat->Prop) (Q:Bool->Hp->Prop),Rel X.K C M H n c d->w n c P->
 (∀b a f,Ext C.U H a->FeedC X.K C.F M a f->P b f->Q b a)->t d H Q
def DTW(e:gj)(w:Gg):Prop:=∃t,PW X e t/\∀(C:Fm) (M:Ch->Prop) (H:Hp) (n:Nat) (c:s_ Slot) (d:L2.St) (P:Bool->Nat->Prop) (Q:Bool->Hp->Prop),Rel X.K C M H n c d->w n c P->
 (∀b a f,Ext C.U H a->FeedC X.K C.F M a f->P b f->Q b a)->t d H Q
def XQ(h:s_ gj)(w:D8):Prop:=∃t,PA X h t/\∀(C:Fm) (M:Ch->Prop) (H:Hp) (n:Nat) (b:s_ Slot) (c:L2.St) (P:s_ D->Nat->Prop) (Q:s_ V->Hp->Prop),Rel X.K C M H n b c->w n b P->
 (∀e a f g,Ext C.U H a->FeedC X.K C.F M a g->Paired (λv d=>AtT X.K C.V M a d v) e f->P f g->Q e a)->t c H Q
def XD(g:s_ gj)(w:D8):Prop:=∃t,PA X g t/\∀(C:Fm) (M:Ch->Prop) (H:Hp) (n:Nat) (b:s_ Slot) (c:L2.St) (P:s_ D->Nat->Prop) (Q:s_ V->Hp->Prop),Rel X.K C M H n b c->w n b P->
 (∀d a e f,Ext C.U H a->FeedC X.K C.F M a f->Ats X.K M a e d->P e f->Q d a)->t c H Q
def NG(K:Frag)(F:t_ (Ch×Ch))(a M:Ch->Prop)(H:Hp)(v:V)(s:Slot):Prop:=SlotOk K F a M H s (P3 v)/\s.owns=r_
def eR(e:gj)(w:Nat->s_ Slot->(Slot->Nat->Prop)->Prop):Prop:=∃t,PE X e t/\∀(C:Fm) (M:Ch->Prop) (H:Hp) (n:Nat) (b:s_ Slot) (c:L2.St) (P:Slot->Nat->Prop) (Q:VK),Rel X.K C M H n b c->w n b P->
 (∀v a s d,Ext C.U H a->FeedC X.K C.F M a d->NG X.K C.F C.V M a v s->P s d->Q v a)->t c H Q
def bd(g:s_ gj)(w:XN):Prop:=∃t,PA X g t/\∀(C:Fm) (M:Ch->Prop) (H:Hp) (n:Nat) (b:s_ Slot) (c:L2.St) (P:s_ Slot->Nat->Prop) (Q:s_ V->Hp->Prop),Rel X.K C M H n b c->w n b P->
 (∀d a e f,Ext C.U H a->FeedC X.K C.F M a f->Paired (NG X.K C.F C.V M a) d e->P e f->Q d a)->t c H Q
end
def AC(i:Nat):DW:=λn a P=>match a[i]? with
 |some (.sh d)=>P d n
 |_=>False
def Av(i:Nat):DW:=λn a P=>match a[i]? with
 |some (.sh d)=>P d n
 |some (.br d)=>P d n
 |some (.ow d)=>P d n
 |some (.lt _ d)=>P d n
 |_=>False
def wC(d:D):DW:=λn _ P=>P d n
section
variable {X:Cx}{a b c e:Expr}{κ zU zL:Kd}{wa wb:DW}{pos:Pos}
theorem getD_some{c:L2.St}{i:Nat}{v:V}(h:(c[i]?).getD p_=P3 v):c[i]?=P3 (P3 v):=by
 cases q:c[i]? with
 |none=>simp_all
 |some o=>simp_all
theorem Ye{i:Nat}(h:PE X e (B3 i)):DE X e .sh (AC i):=by
 refine⟨_,h,λC M H n j k P Q R w q=>?_⟩;unfold AC at w
 split at w
 ·rename_i d c
  let⟨v,f,g⟩:=R.sl i _ c;exact⟨v,getD_some f,q v H d n (Ext.refl _ _) R.feed g w⟩
 grind
theorem Wm{i:Nat}(h:PE X e (B3 i)):DE X e .tp (Av i):=by
 refine⟨_,h,λC M H n l m P Q R w q=>?_⟩;unfold Av at w
 split at w
 ·rename_i d c
  let⟨v,f,g⟩:=R.sl i _ c;exact⟨v,getD_some f,q v H d n (Ext.refl _ _) R.feed (At.tp R.vM g) w⟩
 ·rename_i d c
  let⟨v,f,g⟩:=R.sl i _ c;exact⟨v,getD_some f,q v H d n (Ext.refl _ _) R.feed g w⟩
 ·rename_i d c
  let⟨a,f,_,j,k⟩:=R.sl i _ c;exact⟨.ref a,getD_some f,q _ H d n (Ext.refl _ _) R.feed (k.att j) w⟩
 ·rename_i a d c
  let⟨f,_,j,k⟩:=R.sl i _ c;exact⟨.ref a,getD_some f,q _ H d n (Ext.refl _ _) R.feed (k.att j) w⟩
 ·exact w.elim
theorem dv(i:Nat){x:Str}{pos:Pos}(d:X.N[i]?=P3 x:=by rfl)(e:bM X.env.scope x:=by first|exact T0 rfl|exact jK (T0 rfl)|exact jK (jK rfl))(f:(x==("__debug__":Str))=r_:=by decide)
  (c:(x==("__classdict__":Str))=r_:=by decide):DE X (.Name x pos) .sh (AC i):=Ye (Nj d e f c)
theorem Ic(i:Nat){x:Str}{pos:Pos}(d:X.N[i]?=P3 x:=by rfl)(e:bM X.env.scope x:=by first|exact T0 rfl|exact jK (T0 rfl)|exact jK (jK rfl))(f:(x==("__debug__":Str))=r_:=by decide)
  (c:(x==("__classdict__":Str))=r_:=by decide):DE X (.Name x pos) .tp (Av i):=Wm (Nj d e f c)
theorem IE{d:D}{v:V}(h:PE X e (tC v))(c:∀M H,At X.K M H d v):DE X e .sh (wC d):=
 ⟨_,h,λC M H n f g P Q R w q=>q v H d n (Ext.refl _ _) R.feed (c M H) w⟩
theorem AE{i:Int}{j pos}:DE X (.Constant (.int i) j pos) .sh (wC (.int i)):=IE A1 λ_ _=>rfl
theorem CF{b:Bool}{j pos}:DE X (.Constant (.bool b) j pos) .sh (wC (.bl b)):=IE cx λ_ _=>rfl
theorem BV{j pos}:DE X (.Constant .none j pos) .sh (wC .non):=IE aE λ_ _=>rfl
theorem A_{x:Str}{j pos}(c:decide (x.length<=1000)=q_:=by rfl):DE X (.Constant (.str x) j pos) .sh (wC (.str x)):=
 IE aB λ_ _=>⟨rfl,gc (of_decide_eq_true c) (by decide)⟩
theorem DE.sh(h:DE X e κ wa)(c:κ≠.tp:=by intro z;cases z):DE X e .sh wa:=by
 let⟨t,g,i⟩:=h;exact⟨t,g,λC M H n j k P Q R w q=>i C M H n j k P Q R w λv l d m e f r p=>q v l d m e f (r.shOf R.dom c) p⟩
def GW(K:Frag)(κ:Kd)(r:R2)(f:D->D->(D->Prop)->Prop):Prop:=∀(U:Ch->Prop) (M:Ch->Prop) (H:Hp) (d e:D) (x y:V) (P:D->Prop) (Q:VK),(∀a,M a->∃o,H a=P3 o)->(∀a,U a->M a)->
 AtT K U M H d x->AtT K U M H e y->f d e P->(∀v c z,Grow H c->VR K U M H c κ v z->P z->Q v c)->r x y H Q
def AV(f:D->D->(D->Prop)->Prop)(wa wb:DW):DW:=λn c P=>wa n c λx d=>wb d c λy e=>f x y λz=>P z e
theorem Fw{r:R2}{f:D->D->(D->Prop)->Prop}(A:GW X.K κ r f){s t:TE}(B:∀(C:Fm) (M:Ch->Prop) (H:Hp) (n:Nat) (h:s_ Slot) (i:L2.St) (P:D->Nat->Prop) (Q:VK),Rel X.K C M H n h i->wa n h P->
   (∀v c d j,Ext C.U H c->FeedC X.K C.F M c j->VR X.K C.V M H c zU v d->P d j->Q v c)->s i H Q)
  (E:∀(C:Fm) (M:Ch->Prop) (H:Hp) (n:Nat) (h:s_ Slot) (i:L2.St) (P:D->Nat->Prop) (Q:VK),Rel X.K C M H n h i->wb n h P->
   (∀v c d j,Ext C.U H c->FeedC X.K C.F M c j->VR X.K C.V M H c zL v d->P d j->Q v c)->t i H Q)
  (C:Fm) (M:Ch->Prop) (H:Hp) (n:Nat) (h:s_ Slot) (i:L2.St) (P:D->Nat->Prop) (Q:VK) (R:Rel X.K C M H n h i) (w:AV f wa wb n h P)
  (q:∀v c d j,Ext C.U H c->FeedC X.K C.F M c j->VR X.K C.V M H c κ v d->P d j->Q v c):Ec r s t i H Q:=by
 refine B C M H n h i _ _ R w λx G d I o J L N=>?_;have k:=R.step o J;refine E C M G I h i _ _ k N λy H2 e O l u S T=>?_;have m:=k.step l u;exact A _ M H2 d e x y _ _ m.dom m.vM ((L.tpOf R.dom R.vM).pres (k.pres l) l R.uV) (S.tpOf k.dom k.vM) T λv W z g Y p=>q v W z O ((o.trans l).trans g.ext) (u.grow g) (VR.back (o.trans l) Y) p
theorem An{h:Operator}{r:R2}{f:D->D->(D->Prop)->Prop}(i:OpR X (binaryOp h) r)(j:GW X.K κ r f)(k:DE X a zU wa)(l:DE X b zL wb):DE X (.BinOp a h b pos) κ (AV f wa wb):=by
 let⟨p,c,d⟩:=k;let⟨s,e,g⟩:=l;exact⟨_,B5 i c e,λC M H n m o P Q R w q=>Fw j d g C M H n m o P Q R w q⟩
theorem Aa{r:R2}{f:D->D->(D->Prop)->Prop}(h:IxR X r)(i:GW X.K κ r f)(j:DE X a zU wa)(k:DE X b zL wb)(l:S7 b:=by intro _ _;rfl):DE X (.Subscript a b pos) κ (AV f wa wb):=by
 let⟨p,c,d⟩:=j;let⟨s,e,g⟩:=k;exact⟨_,DQ h c e l,λC M H n m o P Q R w q=>Fw i d g C M H n m o P Q R w q⟩
theorem Cj{c:CmpOp}{r:R2}{f:D->D->(D->Prop)->Prop}(i:OpR X (compareOp c) r)(j:GW X.K .sh r f)(k:DE X a zU wa)(l:DE X b zL wb)(m:behindInMarks c b=r_):DE X (.Compare a [c] [b] pos) .sh (AV f wa wb):=by
 let⟨s,d,e⟩:=k;let⟨t,g,h⟩:=l;exact⟨_,X1 i d g m,λC M H n o p P Q R w q=>Fw j e h C M H n o p P Q R w q⟩
def AW(w:DW):Gg:=λn c P=>w n c λd e=>match d with
 |.bl b=>P b e
 |_=>False
theorem KC{U:Ch->Prop}{K:Frag}{M:Ch->Prop}{H c:Hp}{v:V}{b:Bool}(h:VR K U M H c κ v (.bl b)):v=.bl b:=by
 cases κ with
 |sh=>exact h
 |tp=>exact h
 |fr=>let⟨a,_,_,t⟩:=h;exact(t).elim
theorem Ak{c:CmpOp}{r:R2}{f:D->D->(D->Prop)->Prop}(k:OpR X (compareOp c) r)(l:GW X.K .sh r f)(m:DE X a zU wa)(o:DE X b zL wb)(s:behindInMarks c b=r_):DT X (.Compare a [c] [b] pos) (AW (AV f wa wb)):=by
 let⟨z,g,h⟩:=m;let⟨A,i,j⟩:=o;refine⟨_,Hk k g i s,λC M H n t u P Q R w q=>?_⟩;refine Fw l h j C M H n t u _ _ R w λv x d y e f r p=>?_;cases d with
 |bl b=>exact⟨b,KC r,q b x y e f p⟩
 |_=>exact p.elim
theorem BL(h:DE X e κ wa)(g:∀c,isTrue e X.env c=(do let v ←c;standAt e.pos;holding [v] (truthy v)):=by intro _;rfl):DT X e (AW wa):=by
 let⟨t,i,j⟩:=h;refine⟨_,Z4 i g,λC M H n k l P Q R w q=>?_⟩;refine j C M H n k l _ _ R w λv m d o e f r p=>?_;cases d with
 |bl b=>exact⟨b,KC r,q b m o e f p⟩
 |_=>exact p.elim
def Kf(u v:Gg):Gg:=λn d P=>u n d λc e=>if c=q_ then v e d P else P r_ e
def Eo(u v:Gg):Gg:=λn d P=>u n d λc e=>if c=q_ then P q_ e else v e d P
def CW(u:Gg):Gg:=λn d P=>u n d λc e=>P (!c) e
variable {wA wB:Gg}{rest:s_ Expr}
theorem H_(h:DT X a wA):DTW X (.BoolOp .And [a] pos) wA:=by
 let⟨t,c,d⟩:=h;exact⟨t,Rx c,d⟩
theorem DJ(h:DT X a wA):DTW X (.BoolOp .Or [a] pos) wA:=by
 let⟨t,c,d⟩:=h;exact⟨t,Z3 c,d⟩
theorem LY(j:DT X a wA)(k:DTW X (.BoolOp .And (b::rest) pos) wB):DTW X (.BoolOp .And (a::b::rest) pos) (Kf wA wB):=by
 let⟨t,l,m⟩:=j;let⟨u,o,r⟩:=k;refine⟨_,Vb l o,λC M H n e f P Q R w q=>?_⟩;refine m C M H n e f _ _ R w λc g h d i p=>?_;cases c with
 |false=>exact q _ g h d i p
 |true=>exact r C M g h e f P Q (R.step d i) p λb H2 s v x y=>q b H2 s (d.trans v) x y
theorem C9(j:DT X a wA)(k:DTW X (.BoolOp .Or (b::rest) pos) wB):DTW X (.BoolOp .Or (a::b::rest) pos) (Eo wA wB):=by
 let⟨t,l,m⟩:=j;let⟨u,o,r⟩:=k;refine⟨_,cr l o,λC M H n e f P Q R w q=>?_⟩;refine m C M H n e f _ _ R w λc g h d i p=>?_;cases c with
 |true=>exact q _ g h d i p
 |false=>exact r C M g h e f P Q (R.step d i) p λb H2 s v x y=>q b H2 s (d.trans v) x y
theorem DTW.dt(h:DTW X e wA):DT X e wA:=by
 let⟨t,c,d⟩:=h;exact⟨t,c.pt,d⟩
theorem Bs(d:DT X a wA):DT X (.UnaryOp .Not a pos) (CW wA):=by
 let⟨t,e,f⟩:=d;exact⟨_,Z5 e,λC M H n g h P Q R w q=>f C M H n g h _ _ R w λc i j k l p=>q _ i j k l p⟩
def NJ(u v:DW):DW:=λn d P=>u n d λc e=>match c with
 |.bl q_=>v e d P
 |.bl r_=>P (.bl r_) e
 |_=>False
def bw(u:DW):DW:=λn d P=>u n d λc e=>match c with
 |.bl b=>P (.bl (!b)) e
 |_=>False
theorem HM{op}(h:DE X a κ wa):DE X (.BoolOp op [a] pos) κ wa:=by
 assumption
theorem Ft(l:DE X a zU wa)(m:DE X (.BoolOp .And (b::rest) pos) .sh wb):DE X (.BoolOp .And (a::b::rest) pos) .sh (NJ wa wb):=by
 let⟨t,o,r⟩:=l;let⟨u,s,x⟩:=m;refine⟨_,aF o s,λC M H n g h P Q R w q=>?_⟩;refine r C M H n g h _ _ R w λc e d i f j y p=>?_;cases d with
 | bl k=>
  exists k,KC y;cases k with
  |false=>exact q _ e _ i f j (show VR _ _ M H e _ _ (.bl _)from rfl) p
  |true=>
   exact x C M e i g h P Q (R.step f j) p λv H2 d z A B D E=>q v H2 d z (f.trans A) B D E
 |_=>exact p.elim
theorem ay(f:DE X a zU wa):DE X (.UnaryOp .Not a pos) .sh (bw wa):=by
 let⟨t,g,h⟩:=f;refine⟨_,aD g,λC M H n i j P Q R w q=>?_⟩;refine h C M H n i j _ _ R w λc e d l m o r p=>?_;cases d with
 |bl k=>exact⟨k,KC r,q _ e _ l m o (show VR _ _ M H e _ _ (.bl _)from rfl) p⟩
 |_=>exact p.elim
def Xa(t:Gg)(u v:DW):DW:=λn d P=>t n d λc e=>if c=q_ then u e d P else v e d P
theorem Jj(s:DT X c wA)(x:DE X a κ wa)(y:DE X b κ wb):DE X (.IfExp c a b pos) κ (Xa wA wa wb):=by
 let⟨t,z,A⟩:=s;let⟨u,B,D⟩:=x;let⟨G,E,F⟩:=y;refine⟨_,PK z B E,λC M H n f g P Q R w q=>?_⟩;refine A C M H n f g _ _ R w λc m o e r p=>?_;cases c with
 |true=>exact D C M m o f g P Q (R.step e r) p λv H2 d h i j k l=>q v H2 d h (e.trans i) j (VR.back e k) l
 |false=>exact F C M m o f g P Q (R.step e r) p λv H2 d h i j k l=>q v H2 d h (e.trans i) j (VR.back e k) l
def AU:D8:=λn _ P=>P [] n
def AF(w:DW)(e:D8):D8:=λn c P=>w n c λd f=>e f c λg h=>P (d::g) h
variable {es:s_ Expr}{ws:D8}
theorem AZ:XQ X [] AU:=⟨_,B6,λC M H n c d P Q R w q=>q [] H [] n (Ext.refl _ _) R.feed .nil w⟩
theorem AS:XD X [] AU:=⟨_,B6,λC M H n c d P Q R w q=>q [] H [] n (Ext.refl _ _) R.feed rfl w⟩
theorem AR(j:DE X e κ wa)(k:XQ X es ws)(l:starEach (e::es) X.env=(r_,eval e X.env)::starEach es X.env:=by rfl):XQ X (e::es) (AF wa ws):=by
 let⟨t,m,o⟩:=j;let⟨u,r,s⟩:=k;refine⟨_,BF m r l,λC M H n f g P Q R w q=>?_⟩;refine o C M H n f g _ _ R w λv x d y h z A p=>?_;have i:=R.step h z;exact s C M x y f g _ _ i p λG H2 I B c D E F=>q _ H2 _ B (h.trans c) D (.cons ((A.tpOf R.dom R.vM).pres (i.pres c) c R.uV) E) F
theorem AD(j:DE X e κ wa)(k:XD X es ws)(l:κ≠.tp:=by intro z;cases z)(m:starEach (e::es) X.env=(r_,eval e X.env)::starEach es X.env:=by rfl):XD X (e::es) (AF wa ws):=by
 let⟨t,o,r⟩:=j;let⟨u,s,x⟩:=k;refine⟨_,BF o s m,λC M H n c f P Q R w q=>?_⟩;refine r C M H n c f _ _ R w λv y d A g B D p=>?_;have h:=R.step g B;exact x C M y A c f _ _ h p λE H2 F G i I J K=>q _ H2 (d::F) G (g.trans i) I ⟨v,E,rfl,(D.shOf R.dom l).pres (h.pres i),J⟩ K
def Bc(ws:D8):DW:=λn d P=>ws n d λc e=>c.length<=sizeLine/\P (.tup c) e
def DZ(ws:D8):DW:=λn d P=>ws n d λc e=>c.length<=sizeLine/\P (.lst c) e
theorem Dv{M:Ch->Prop}{H:Hp}{p:Ch}{o:HO}(h:H p=p_):Pres M H (λb=>M b\/b=p) (A2 H p o):=⟨λb u e _=>by rw[AT (Ax e h)];exact e,λb z=>z.elim .inl λz=>.inr (by grind),λb c e=>by rw[AT (Ax e h)];exact e⟩
theorem Ar{H:Hp}{p:Ch}{o:HO}(h:H p=p_):Grow H (A2 H p o):=.inr ⟨p,o,h,rfl⟩
theorem A7{x1}(h:XD X es ws):DE X (.Tuple es x1 pos) .sh (Bc ws):=by
 let⟨t,f,i⟩:=h;refine⟨_,Vq f,λC M H n j k P Q R w q=>?_⟩;refine i C M H n j k _ _ R w λc d l m o r e p=>?_;refine⟨by rw[e.length];exact p.1,λa s=>?_⟩;have g:Grow d (A2 d a (.tup c)):=Ar s;refine q _ _ (.tup l) m (o.trans g.ext) (r.grow g) ⟨a,c,rfl,AX,e.pres g.pres⟩ p.2
theorem Bi(h:XD X es ws):DE X (.List es pos) .fr (DZ ws):=by
 let⟨t,j,k⟩:=h;refine⟨_,Iz j,λC M H n l m P Q R w q=>?_⟩;refine k C M H n l m _ _ R w λd e o r f s i p=>?_;refine⟨by rw[i.length];exact p.1,λa c=>?_⟩;have g:Grow e (A2 e a (.lst d)):=Ar c;exact q _ _ (.lst o) r (f.trans g.ext) (s.grow g) (VR.back f ⟨a,rfl,c,d,AX,i.pres (Dv c)⟩) p.2
def D7(K:Frag)(κ:Kd)(r:s_ V->Hp->VK->Prop)(f:s_ D->(D->Prop)->Prop):Prop:=∀(U:Ch->Prop) (M:Ch->Prop) (H:Hp) (e:s_ D) (g:s_ V) (P:D->Prop) (Q:VK),(∀a,M a->∃o,H a=P3 o)->(∀a,U a->M a)->
 Paired (λv d=>AtT K U M H d v) g e->f e P->(∀v c z,Grow H c->VR K U M H c κ v z->P z->Q v c)->r g H Q
def Cp(f:s_ D->(D->Prop)->Prop)(ws:D8):DW:=λn c P=>ws n c λd e=>f d λz=>P z e
theorem ZQ{r:s_ V->Hp->VK->Prop}{f:s_ D->(D->Prop)->Prop}{t:TA}(s:D7 X.K κ r f)(u:∀(C:Fm) (M:Ch->Prop) (H:Hp) (n:Nat) (e:s_ Slot) (h:L2.St) (P:s_ D->Nat->Prop) (Q:s_ V->Hp->Prop),Rel X.K C M H n e h->ws n e P->
   (∀j c k i,Ext C.U H c->FeedC X.K C.F M c i->Paired (λv d=>AtT X.K C.V M c d v) j k->P k i->Q j c)->t h H Q)
  (C:Fm) (M:Ch->Prop) (H:Hp) (n:Nat) (e:s_ Slot) (h:L2.St) (P:D->Nat->Prop) (Q:VK) (R:Rel X.K C M H n e h) (w:Cp f ws n e P)
  (q:∀v c d i,Ext C.U H c->FeedC X.K C.F M c i->VR X.K C.V M H c κ v d->P d i->Q v c):d_ r t h H Q:=by
 refine u C M H n e h _ _ R w λj x k y l m A p=>?_;have o:=R.step l m;exact s _ M x k j _ _ o.dom o.vM A p λv H2 z g B E=>q v H2 z y (l.trans g.ext) (m.grow g) (VR.back l B) E
theorem Ao{x:Str}{g:String}{p:Pos}{r:s_ V->Hp->VK->Prop}{f:s_ D->(D->Prop)->Prop}(h:Co X (.builtin g) r)(i:D7 X.K κ r f)(j:Gl X x)(k:X.mg x=p_)(l:bootBuiltins x=P3 (.builtin g))(m:XQ X (e::es) ws)
  (o:x ≠ "__name__":=by decide) (c:(x==("__debug__":Str))=r_:=by decide)
  (s:starEach (e::es) X.env=(r_,eval e X.env)::starEach es X.env:=by rfl) (d:(backTo pos (starEach es X.env)).any (·.1)=r_:=by rfl):DE X (.Call (.Name x p) (e::es) [] pos) κ (Cp f ws):=by
 let⟨t,u,v⟩:=m;exact⟨_,Fc h j k l u o c s d,λC M H n y z P Q R w q=>ZQ i v C M H n y z P Q R w q⟩
theorem BN{x:Str}{T:String}{p:Pos}{r:s_ V->Hp->VK->Prop}{f:s_ D->(D->Prop)->Prop}(g:Co X (.type T) r)(h:D7 X.K κ r f)(i:Gl X x)(j:X.mg x=p_)(k:bootBuiltins x=P3 (.type T))(l:XQ X (e::es) ws)
  (m:x ≠ "__name__":=by decide) (c:(x==("__debug__":Str))=r_:=by decide)
  (o:starEach (e::es) X.env=(r_,eval e X.env)::starEach es X.env:=by rfl) (d:(backTo pos (starEach es X.env)).any (·.1)=r_:=by rfl):DE X (.Call (.Name x p) (e::es) [] pos) κ (Cp f ws):=by
 let⟨t,s,u⟩:=l;exact⟨_,Ma g i j k s m c o d,λC M H n v y P Q R w q=>ZQ h u C M H n v y P Q R w q⟩
end
end Dp
namespace L2
def fW(z:Str):It:=⟨λi _=>i<z.cps.size,λi H x a=>a=H/\∃c,z.cps[i]?=P3 c/\x=.str ⟨#[c]⟩,λi _=>z.cps.size<=i⟩
theorem Om{P:gi}{w:gn}{K:Frag}{U:gj}(a:Ch)(z:Str)(t:Tok)(ty:String)(j:ty="str_ascii_iterator"\/ty="str_iterator")
  (W:∀N:gw,N.handled=p_->Walks P w N a [a] [a] z.cps.size (SignAt z) (λi h=>h.IsStrIter a ty z t i)):Turn P w K U (fW z) [a] a (λi h=>h.IsStrIter a ty z t i) where
 mem:=by simp
 obj:=λi h f b g=>by
  have e:b=a:=by simpa using g
  subst e;let⟨o,e,c,d⟩:=f;exact⟨o,e,λv z=>by rw[d]at z;cases z⟩
 keep:=λi h l f k=>let ⟨o,V,r⟩:=f;⟨o,k a (by simp) o V,r⟩
 item:=by
  intro X D F G n i O s R H E I p f J;subst D F G;let⟨q,x,Y,y,B,C⟩:=p a (by simp);refine(W X.A (I.ok.hd n)).item i s _ _ J f λv l S Z m kk=>?_;let⟨c,u,L,rfl⟩:=Z;have I1:Inv X O R H {s with heap:=l,toks:=S}:=I.turned (λb o g e=>kk b o (by simpa using g) e) q x y B C;let⟨o,e,cc,d⟩:=id m;exact⟨_,rfl,Pw (s:={s with heap:=l,toks:=S}) e cc d (by rcases j with rfl|rfl <;>decide) ⟨.str ⟨#[c]⟩,H,I1,⟨_,rfl⟩,⟨rfl,c,L,rfl⟩,m,λb g=>(p b g).1⟩⟩
 done:=by
  intro X D F G n i O s R H E I p f J;subst D F G;let⟨q,x,Y,y,B,C⟩:=p a (by simp)
  have T:z.cps[i]?=p_:=by
   have:z.cps.size<=i:=J
   simp[this]
  rcases j with rfl|rfl
  ·exact wpAny_pyNext_ascii_end (I.ok.hd n) f T λl M=>⟨rfl,I.turned (t':=s.toks) (λb o g e=>M b o g e) q x y B C⟩
  ·exact wpAny_pyNext_wide_end (I.ok.hd n) f T λl M=>⟨rfl,I.turned (t':=s.toks) (λb o g e=>M b o g e) q x y B C⟩
 self:=λA i s Q E f h=>by
  rcases j with rfl|rfl
  ·exact wpAny_pyIter_striter_ascii f h
  ·exact wpAny_pyIter_striter_wide f h
section
variable {X:Cx}{tg:Expr}
def fI(K:Frag)(d:TE):TI:=λe H R=>d e H λx b=>
 (∃a,x=.ref a/\(∃c,SqL K b a c)/\R (fX K a) b)\/(∃a,x=.ref a/\(∃c,SqT K b a c)/\R (bX K a) b)\/∃z,x=.str z/\R (fW z) b
theorem Qw{l:gj}{n:TE}(w:PE X l n):PI X tg l (fI X.K n):=by
 intro r s y H R I h;refine thn (w r s y H _ I h) λv c ⟨x,g,f,j,A⟩=>?_
 have d:∀b,b∈[c.heap.objs.size]->Ge X r g b:=λb B=>by
  have e:b=c.heap.objs.size:=by simpa using B
  subst e;exact f.fpOk (On _) (f.hok.fresh (On _))
 rcases A with⟨a,e,⟨C,k⟩,q⟩|⟨a,e,⟨C,k⟩,q⟩|⟨z,e,q⟩
 ·subst e
  cases j;let⟨i,D,p,E⟩:=f.list k;refine iy p.isList ?_;exact⟨c.heap.objs.size,[c.heap.objs.size],_,_,g,rfl,f.kept (t':=c.toks) λb o e=>Ev _ e,TB a _,⟨_,XV _ rfl,rfl,rfl⟩,d,q⟩
 ·subst e
  cases j;let⟨i,D,p,E⟩:=f.tuple k;refine i_ (show c.heap.IsTuple a i.toArray from p) ?_;exact⟨c.heap.objs.size,[c.heap.objs.size],_,_,g,rfl,f.kept (t':=c.toks) λb o e=>Ev _ e,Kh a _,⟨_,XV _ rfl,rfl,rfl⟩,d,q⟩
 ·subst e
  let⟨t,rfl⟩:=j;cases u:z.cps.all (·<128)
  ·refine wpAny_pyIter_wide u ?_
   exact⟨c.heap.objs.size,[c.heap.objs.size],_,_,g,rfl,f.kept (t':=c.toks) λb o e=>Ev _ e,Om _ z t "str_iterator" (.inr rfl) (λF m=>Walks.strWide m _ z t),⟨_,XV _ rfl,rfl,rfl⟩,d,q⟩
  ·refine wpAny_pyIter_ascii u ?_
   exact⟨c.heap.objs.size,[c.heap.objs.size],_,_,g,rfl,f.kept (t':=c.toks) λb o e=>Ev _ e,Om _ z t "str_ascii_iterator" (.inl rfl) (λF m=>Walks.strAscii m _ z t),⟨_,XV _ rfl,rfl,rfl⟩,d,q⟩
end
section
variable {X:Cx}
theorem L8(bs:s_ Bool):((gs bs.length).all λi=>(bs[i]?).getD q_)=bs.all id:=by
 induction bs with
 |nil=>rfl
 |cons b r a=>
  rw[gS,nA,nO,ni]
  congr 1
theorem Eh(t:X.calm=q_):Co X (.builtin "all") (λj H Q=>∃(p:Ch) (c:s_ Bool),j=[.ref p]/\SqL X.K H p (c.map V.bl)/\Q (.bl (c.all id)) H):=by
 intro J s L H j M Q I r h;let⟨p,c,rfl,w,q⟩:=h;let⟨u,rfl,y⟩:=vals1 r;cases y;let⟨a,k,z,N⟩:=I.list w;have d:=k.length;have f:s.heap.IsList p a.toArray:=z.isList;have g:p<s.heap.objs.size:=by let⟨_,e,_⟩:=id f;exact UF e
 refine call_all_walk (iy f ?_)
 refine⟨s.heap.objs.size,[s.heap.objs.size,p],[s.heap.objs.size],a.toArray.size,_,_,λi=>(c[i]?).getD q_,rfl,Walks.list (A:=X.A.in1) (I.ok.hd t) _ p (gg g) a.toArray,
  ⟨⟨_,XV _ rfl,rfl,rfl⟩,f.push _⟩,λi v O P R B l=>?_,λS C D=>?_⟩
 ·have m:a[i]?=P3 v:=by simpa using B
  have E:∃b,c[i]?=P3 b:=by
   have T:i<a.length:=(ZB.mp m).1;rw[No]at d;exact⟨c[i]'(by omega),FM (by omega)⟩
  let⟨b,n⟩:=E;let⟨u,o,F⟩:=k.get (i:=i) (x:=.bl b) (by rw[gR,n];rfl);rw[m]at o;cases o;cases F;simp only[n,Option.getD_some]at l;exact jR l
 ·have e:((gs a.toArray.size).all λi=>(c[i]?).getD q_)=c.all id:=by
   rw[gQ,←d,No];exact L8 c
  rw[e];exact⟨.bl _,H,I.kept (t':=C) λb x e=>D b x (λG=>by rw[Re.mp G]at e;exact iY _ (UF e)) (Ev _ e),rfl,q⟩
theorem QH:Co X (.builtin "isinstance") (λa H Q=>∃x T t b,a=[x,.ty T]/\Gd X.K H x t/\PySem.W.kitOne X.K t (.type T)=P3 b/\Q (.bl b) H):=by
 intro f s g H a i Q I r h;let⟨x,T,t,b,rfl,ty,e,q⟩:=h;let⟨u,j,rfl,c,d⟩:=vals2 r;cases d;exact UM I c ty e λk=>⟨.bl b,H,I.tok _,rfl,q⟩
theorem Tw:OpR X (compareOp .LtE) (λx y H Q=>∃i j,x=.str i/\y=.str j/\Q (.bl (!(j.cps.toList<i.cps.toList))) H):=by
 intro c s d H x y v u Q I a b h;let⟨i,j,rfl,rfl,q⟩:=h;let⟨t,rfl⟩:=a;let⟨e,rfl⟩:=b;exact PySem.P.le_str ⟨.bl _,H,I,rfl,q⟩
theorem Ko{b:s_ Str}:∀{a:s_ Db},Vals (b.map V.str) a->StrsAre a b:=by
 induction b with
 |nil=>intro a r;cases r;exact .nil
 | cons n g c=>
  intro a r;cases r with
  |cons d f=>
   let⟨t,e⟩:=d;subst e;exact .cons n t (c f)
theorem X9:ZW X "str.join" (λx b H Q=>∃(z:Str) (p:Ch) (a:s_ Str),x=.str z/\b=[.ref p]/\SqL X.K H p (a.map V.str)/\(a.map (·.length)).sum+a.length*z.length<=16777216/\Q (.str (Txt.join z a)) H):=by
 intro m s n H x b v o Q I c d h;let⟨z,p,a,rfl,rfl,e,f,q⟩:=h;let⟨t,rfl⟩:=c;let⟨u,rfl,g⟩:=vals1 d;cases g;let⟨i,j,l,_⟩:=I.list e;exact join_list l.isList (Ko j) f λr k=>⟨.str _,H,I.tok _,⟨_,rfl⟩,q⟩
theorem Zt:SlR X (λx f g H Q=>∃z,x=.str z/\z.length<=sizeLine/\Q (.str (Txt.slice z f g)) H):=by
 intro o s p H x v y A f g B Q I r c w m h;let⟨z,rfl,d,q⟩:=h;let⟨t,rfl⟩:=r;exists "str",_,F.slot_str_getitem.lookup,typeIs_str _ _ _;have b:∀a k,EP X o p Q (.str _ a) {s with toks:=k}:=λa k=>⟨.str _,H,I.tok _,⟨_,rfl⟩,q⟩;cases w with
 |none=>
  cases m with
  |none=>exact jv (l:=p_) (u:=p_) (st:=p_) c rfl (lW ⟨gc (Txt.slice_le z _ _) d,λa k=>b a k⟩)
  |int j e=>exact jv (l:=p_) (u:=P3 (j,e)) (st:=p_) c rfl (lW ⟨gc (Txt.slice_le z _ _) d,λa k=>b a k⟩)
 |int i n=>
  cases m with
  |none=>exact jv (l:=P3 (i,n)) (u:=p_) (st:=p_) c rfl (lW ⟨gc (Txt.slice_le z _ _) d,λa k=>b a k⟩)
  |int j e=>exact jv (l:=P3 (i,n)) (u:=P3 (j,e)) (st:=p_) c rfl (lW ⟨gc (Txt.slice_le z _ _) d,λa k=>b a k⟩)
theorem Tu(d:X.A.units<cLine):OpR X (compareOp .NotEq) (λx y H Q=>∃a b c,x=.ref a/\y=.ref b/\SqL X.K H a c/\SqL X.K H b []/\Q (.bl (!c.isEmpty)) H):=by
 intro w s z H x y v u Q I m n h;let⟨a,b,c,rfl,rfl,o,p,q⟩:=h;cases m;cases n;let⟨r,f,g,_⟩:=I.list o;let⟨i,k,l,_⟩:=I.list p;cases k;cases f with
 |nil=>exact SeqAt.RcNeAt.lists (e:=λ_=>q_) g.isList l.isList rfl d (λj t B=>absurd t (by simp)) _ _ _ _ ⟨.bl _,H,I,rfl,q⟩
 |cons f k=>exact SeqAt.RcNeAt.lists_lengths g.isList l.isList (by simp) d _ _ _ _ ⟨.bl _,H,I,rfl,q⟩
end
end L2
namespace Dp
open L2
def bQ(K:Frag)(F:t_ (Ch×Ch))(U b M:Ch->Prop)(H:Hp)(n:Nat)(c:s_ Slot)(d:s_ V):Prop:=
 (∀a,M a->∃o,H a=P3 o)/\(∀f,F=P3 f->U f.1)/\(∀a,U a->b a)/\(∀a,b a->M a)/\FeedC K F M H n/\Paired (NG K F b M H) d c
abbrev W2:=s_ Slot->Nat->(D->Nat->Prop)->Prop
def DC(K:Frag)(g:Kd)(W:W2)(h:Nat):Sp:=λb H Q _=>b.length=h/\∃(F:t_ (Ch×Ch)) (U c M:Ch->Prop) (n:Nat) (e:s_ Slot) (P:D->Nat->Prop),bQ K F U c M H n e b/\W e n P /\
 ∀v a d f,Ext U H a->FeedC K F M a f->VR K c M H a g v d->P d f->Q v a
def AG(w:DW):Nat->s_ Slot->(Slot->Nat->Prop)->Prop:=λn a P=>w n a λd b=>P (.sh d) b
def Cr(w:DW):Nat->s_ Slot->(Slot->Nat->Prop)->Prop:=λn a P=>w n a λd b=>P (.br d) b
def Az(i:Nat):Nat->s_ Slot->(Slot->Nat->Prop)->Prop:=λn a P=>match a[i]? with
 |some .fd=>P .fd n
 |_=>False
def AO:XN:=λn _ P=>P [] n
def AB(w:Nat->s_ Slot->(Slot->Nat->Prop)->Prop)(b:XN):XN:=λn a P=>w n a λs c=>b c a λd e=>P (s::d) e
def AQ(W:W2)(a:XN):DW:=λn b P=>a n b λc d=>W c d P
section
variable {X:Cx}{a e:Expr}{es:s_ Expr}{κ zU:Kd}{wa:DW}{pos:Pos}{w1:Nat->s_ Slot->(Slot->Nat->Prop)->Prop}{was:XN}{ws:D8}
theorem AI(h:DE X e κ wa)(b:κ≠.tp:=by intro z;cases z):eR X e (AG wa):=by
 let⟨t,c,g⟩:=h;exact⟨t,c,λC M H n i j P Q R w q=>g C M H n i j _ _ R w λv k d l e f r p=>q v k (.sh d) l e f ⟨⟨v,rfl,r.shOf R.dom b⟩,rfl⟩ p⟩
theorem Jk(h:DE X e κ wa):eR X e (Cr wa):=by
 let⟨t,b,c⟩:=h;exact⟨t,b,λC M H n g i P Q R w q=>c C M H n g i _ _ R w λv j d k e f r p=>q v j (.br d) k e f ⟨⟨v,rfl,r.tpOf R.dom R.vM⟩,rfl⟩ p⟩
theorem BB(i:Nat){x:Str}{pos:Pos}(d:X.N[i]?=P3 x:=by rfl)(e:bM X.env.scope x:=by first|exact T0 rfl|exact jK (T0 rfl)|exact jK (jK rfl))(b:(x==("__debug__":Str))=r_:=by decide)
  (c:(x==("__classdict__":Str))=r_:=by decide):eR X (.Name x pos) (Az i):=by
 refine⟨_,Nj d e b c,λC M H n j k P Q R w q=>?_⟩;unfold Az at w
 split at w
 ·rename_i b
  let⟨f,g,h⟩:=R.sl i _ b;exact⟨_,getD_some g,q _ H .fd n (Ext.refl _ _) R.feed ⟨⟨f,rfl,h⟩,rfl⟩ w⟩
 grind
theorem AJ:bd X [] AO:=⟨_,B6,λC M H n b c P Q R w q=>q [] H [] n (Ext.refl _ _) R.feed .nil w⟩
theorem AA(j:eR X e w1)(k:bd X es was)(l:starEach (e::es) X.env=(r_,eval e X.env)::starEach es X.env:=by rfl):bd X (e::es) (AB w1 was):=by
 let⟨t,m,o⟩:=j;let⟨u,r,s⟩:=k;refine⟨_,BF m r l,λC M H n c f P Q R w q=>?_⟩;refine o C M H n c f _ _ R w λv x d y g A h p=>?_;have i:=R.step g A;exact s C M x y c f _ _ i p λG H2 I B b D E F=>q _ H2 _ B (g.trans b) D (.cons ⟨h.1.pres (i.pres b) (λ_ z=>z) b R.uV,h.2⟩ E) F
theorem Yh{k:Nat}{f:Ch}{fd:hU}{b:s_ Str}{W:W2}{x:Str}{p:Pos}(G:A3 X.prog X.w X.K X.mg X.base CA k f fd b (DC X.K κ W b.length))(o:∀c n P,W c n P->c.length=b.length)
  (r:Room k X.A) (s:Gl X x) (u:X.mg x=P3 (.ref f)) (y:keepIn X.K (.ref f)=q_) (z:Binds X.K fd b []) (B:bd X (e::es) was)
  (h:(x==("__debug__":Str))=r_:=by decide) (D:starEach (e::es) X.env=(r_,eval e X.env)::starEach es X.env:=by rfl) (i:(backTo pos (starEach es X.env)).any (·.1)=r_:=by rfl):
  DE X (.Call (.Name x p) (e::es) [] pos) κ (AQ W was):=by
 let⟨t,E,F⟩:=B;refine⟨_,Nl G r s u y z .nil Vv E h D i,λC M H n I J P Q R w q=>?_⟩;refine F C M H n I J _ _ R w λV Y c L j l m p=>?_;have g:=R.step j l;rw[gq];exact⟨(Paired.length m).trans (o _ _ _ p),_,_,_,M,L,c,P,⟨g.dom,g.fU,g.uV,g.vM,l,m⟩,p,λv H2 d N O S T U=>q v H2 d N (j.trans O) S (VR.back j T) U⟩
def eN(K:Frag)(κ:Kd)(T:String)(r:V->s_ V->Hp->VK->Prop)(f:D->s_ D->(D->Prop)->Prop):Prop:=∀(U:Ch->Prop) (M:Ch->Prop) (H:Hp) (d:D) (c:s_ D) (x:V) (e:s_ V) (P:D->Prop) (Q:VK),(∀a,M a->∃o,H a=P3 o)->(∀a,U a->M a)->
 AtT K U M H d x->Paired (λv d=>AtT K U M H d v) e c->f d c P->(∀v b z,Grow H b->VR K U M H b κ v z->P z->Q v b)->r x e H Q
def eF(T:String)(d:D):Prop:=match d with
 |.str _=>T="str"
 |.int _=>T="int"
 |.lst _=>T="list"
 |_=>False
def d8(T:String)(f:D->s_ D->(D->Prop)->Prop)(c:DW)(ws:D8):DW:=λn b P=>c n b λd e=>eF T d/\ws e b λg h=>f d g λz=>P z h
theorem LL{T:String}{K:Frag}{U:Ch->Prop}{M:Ch->Prop}{H:Hp}{d:D}{x:V}(h:eF T d)(b:AtT K U M H d x):eT K T x H:=by
 cases d with
 |str z=>let⟨e,_⟩:=b;subst e;exact h
 |int i=>cases(b);exact h
 |lst g=>let⟨a,c,e,_,f,_⟩:=b;subst e;exact .inl ⟨h,c,.inl f⟩
 |_=>exact(h).elim
theorem ZO{name:Str}{h b:Pos}{T s:String}{r:V->s_ V->Hp->VK->Prop}{f:D->s_ D->(D->Prop)->Prop}(J:PlainAttrs T)(k:PySem.Slot T name s)(y:typeOf (.builtin s)=pure (.type "method_descriptor"))(L:ZW X s r)
  (N:eN X.K κ T r f) (O:DE X a zU wa) (S:XQ X (e::es) ws)
  (i:attributeBase a name X.env (eval a X.env)=eval a X.env:=by rfl)
  (l:((backTo b (starEach (e::es) X.env)).all (λx=>!x.1)&&(backToKw b (keywordEach [] X.env)).all (λx=>x.1.isSome)
   && decide ((e::es).length+([]:s_ jJ).length+(if([]:s_ jJ).isEmpty then 0 else 1)<30))=q_:=by rfl)
  (j:(h.endLine==b.line)=q_:=by rfl) (U:starEach (e::es) X.env=(r_,eval e X.env)::starEach es X.env:=by rfl) (c:(backTo b (starEach es X.env)).any (·.1)=r_:=by rfl):
  DE X (.Call (.Attribute a name h) (e::es) [] b) κ (d8 T f wa ws):=by
 let⟨t,W,Y⟩:=O;let⟨u,Z,g2⟩:=S;refine⟨_,PM J k y L W Z i l j U c,λC M H n E F P Q R w q=>?_⟩;refine Y C M H n E F _ _ R w λx H1 d n1 A f1 r1 p=>?_;have B:=R.step A f1;have G:=r1.tpOf R.dom R.vM;exists LL p.1 G;refine g2 C M H1 n1 E F _ _ B p.2 λvs H2 ds n2 m I r2 p2=>?_;have o:=B.step m I;refine N C.V M H2 d ds x vs _ _ o.dom o.vM (G.pres (B.pres m) m R.uV) r2 p2 λv H3 z g vr pz=>?_;exact q v H3 z n2 ((A.trans m).trans g.ext) (I.grow g) (VR.back (A.trans m) vr) pz
def DO(X:Cx)(e:t_ gj)(w:Nat->s_ Slot->(t_ Int->Nat->Prop)->Prop):Prop:=∃t,PO X e t/\∀(C:Fm) (M:Ch->Prop) (H:Hp) (n:Nat) (c:s_ Slot) (d:L2.St) (P:t_ Int->Nat->Prop) (Q:t_ Int->Hp->Prop),Rel X.K C M H n c d->w n c P->
 (∀o b f,Ext C.U H b->FeedC X.K C.F M b f->P o f->Q o b)->t d H Q
def Bj:Nat->s_ Slot->(t_ Int->Nat->Prop)->Prop:=λn _ P=>P p_ n
def Bx(w:DW):Nat->s_ Slot->(t_ Int->Nat->Prop)->Prop:=λn b P=>w n b λd c=>match d with
 |.int i=>P (P3 i) c
 |_=>False
theorem By:DO X p_ Bj:=⟨_,R8,λC M H n b c P Q R w q=>q _ H n (Ext.refl _ _) R.feed w⟩
theorem LO{U:Ch->Prop}{K:Frag}{M:Ch->Prop}{H b:Hp}{v:V}{i:Int}(h:VR K U M H b κ v (.int i)):v=.int i:=by
 cases κ with
 |sh=>exact h
 |tp=>exact h
 |fr=>let⟨a,_,_,t⟩:=h;exact(t).elim
theorem BZ(h:DE X e κ wa):DO X (P3 e) (Bx wa):=by
 let⟨t,b,c⟩:=h;refine⟨_,R7 b,λC M H n f g P Q R w q=>?_⟩;refine c C M H n f g _ _ R w λv j d k l m o p=>?_;cases d with
 |int i=>exact⟨i,LO o,q _ j k l m p⟩
 |_=>exact p.elim
def ft(K:Frag)(κ:Kd)(r:V->t_ Int->t_ Int->Hp->VK->Prop)(f:D->t_ Int->t_ Int->(D->Prop)->Prop):Prop:=∀(U:Ch->Prop) (M:Ch->Prop) (H:Hp) (d:D) (x:V) (c e:t_ Int) (P:D->Prop) (Q:VK),(∀a,M a->∃o,H a=P3 o)->(∀a,U a->M a)->
 AtT K U M H d x->f d c e P->(∀v b z,Grow H b->VR K U M H b κ v z->P z->Q v b)->r x c e H Q
def MO(f:D->t_ Int->t_ Int->(D->Prop)->Prop)(w:DW)(c e:Nat->s_ Slot->(t_ Int->Nat->Prop)->Prop):DW:=λn b P=>w n b λd g=>c g b λh i=>e i b λj k=>f d h j λz=>P z k
theorem DV{i j:t_ gj}{k:Pos}{r:V->t_ Int->t_ Int->Hp->VK->Prop}{f:D->t_ Int->t_ Int->(D->Prop)->Prop}{x y:Nat->s_ Slot->(t_ Int->Nat->Prop)->Prop}(E:SlR X r)(F:ft X.K κ r f)(G:DE X e zU wa)(I:DO X i x)(J:DO X j y):
  DE X (.Subscript e (.Slice i j p_ k) pos) κ (MO f wa x y):=by
 let⟨t,L,N⟩:=G;let⟨u,O,S⟩:=I;let⟨u',T,U⟩:=J;refine⟨_,PJ E L O T,λC M H n l m P Q R w q=>?_⟩;refine N C M H n l m _ _ R w λv W d Y o Z r1 p=>?_;have s:=R.step o Z;have tv:=r1.tpOf R.dom R.vM;refine S C M W Y l m _ _ s p λi H2 n2 c f2 k=>?_;have b:=s.step c f2;refine U C M H2 n2 l m _ _ b k λj H3 n3 h A p3=>?_;have B:=b.step h A;refine F C.V M H3 d v i j _ _ B.dom B.vM ((tv.pres (s.pres c) c R.uV).pres (b.pres h) h R.uV) p3 λv H4 z g vr pz=>?_;exact q v H4 z n3 (((o.trans c).trans h).trans g.ext) (A.grow g) (VR.back ((o.trans c).trans h) vr) pz
end
structure E2 where
 nx:Nat->List Slot->Prop
 rt:D->Nat->Prop
 bk:Nat->List Slot->Prop:=λ_ _=>False
 ct:Nat->List Slot->Prop:=λ_ _=>False
abbrev AY:=E2->Nat->s_ Slot->Prop
structure GF (K:Frag) (C:Fm) (κ:Kd) (D2:E2) (E:Ends):Prop where
 nx:∀M H n ρ σ,Rel K C M H n ρ σ->D2.nx n ρ->E.nx σ H
 rt:∀v H d n,Ext C.U C.H0 H->FeedC K C.F C.M0 H n->VR K C.V C.M0 C.H0 H κ v d->D2.rt d n->E.rt v H
 bk:∀M H n ρ σ,Rel K C M H n ρ σ->D2.bk n ρ->E.bk σ H
 ct:∀M H n ρ σ,Rel K C M H n ρ σ->D2.ct n ρ->E.ct σ H
def DS(X:Cx)(d:Kd)(e:gm)(w:AY):Prop:=∃t,PS X e t/\∀(C:Fm) (M:Ch->Prop) (H:Hp) (n:Nat) (a:s_ Slot) (b:L2.St) (c:E2) (E:Ends),Rel X.K C M H n a b->GF X.K C d c E->w c n a->t E b H
def QU(X:Cx)(d:Kd)(e:s_ gm)(w:AY):Prop:=∃t,PSs X e t/\∀(C:Fm) (M:Ch->Prop) (H:Hp) (n:Nat) (a:s_ Slot) (b:L2.St) (c:E2) (E:Ends),Rel X.K C M H n a b->GF X.K C d c E->w c n a->t E b H
def Aw:AY:=λa n b=>a.nx n b
def Ad(u v:AY):AY:=λa n b=>u {a with nx:=v a} n b
def Au(w:DW):AY:=λa n b=>w n b λd c=>a.rt d c
def BK(t:Gg)(u v:AY):AY:=λb n a=>t n a λc d=>if c=q_ then u b d a else v b d a
def Ay(i:Nat)(w:DW):AY:=λb n a=>w n a λd c=>b.nx c (a.set i (.sh d))
section
variable {X:Cx}{κ zT:Kd}{st:Stmt}{rest:s_ Stmt}{u v:AY}{wa:DW}{wA:Gg}{e c:Expr}{pos:Pos}
theorem Al:QU X κ [] Aw:=⟨_,Hl,λC M H n a b c E R L w=>L.nx M H n a b R w⟩
theorem AH(d:DS X κ st u)(e:QU X κ rest v):QU X κ (st::rest) (Ad u v):=by
 let⟨t,f,g⟩:=d;let⟨j,h,i⟩:=e;exact⟨_,BD f h,λC M H n a b c E R L w=>g C M H n a b {c with nx:=v c} _ R ⟨λM H n a b R w=>i C M H n a b c E R L w,L.rt,L.bk,L.ct⟩ w⟩
theorem AK(a:DS X κ st u):QU X κ [st] u:=by
 let⟨t,b,c⟩:=a;exact⟨t,CL b,c⟩
theorem Zw{K:Frag}{C:Fm}{M:Ch->Prop}{H g:Hp}{n h:Nat}{j:s_ Slot}{k:L2.St}{i:E2}{E:Ends}{d:D}{v:V}(R:Rel K C M H n j k)(L:GF K C κ i E)(e:Ext C.U H g)(f:FeedC K C.F M g h)(r:VR K C.V M H g κ v d)(q:κ≠.tp)(p:i.rt d h):E.rt v g:=by
 have c:Pres M g _ g:=Pres.less R.sub;refine L.rt v g d h (R.ext.trans e) (f.pres c λ_ _ _ z=>z) ?_ p;cases κ with
 |sh=>exact At.pres c r
 |tp=>grind
 |fr=>
  let⟨a,l,m,o⟩:=VR.back R.ext r;exact⟨a,l,m,o.pres (Pres.less λb z=>z.imp (R.sub b) id) λ_ z=>z⟩
theorem Ab(h:DE X e κ wa)(a:κ≠.tp:=by intro z;cases z):DS X κ (.Return (P3 e) pos) (Au wa):=by
 let⟨t,b,c⟩:=h;exact⟨_,HD b,λC M H n f g l E R L w=>c C M H n f g _ _ R w λv m d o i j k p=>Zw R L i j k a p⟩
theorem BH{a b:s_ gm}(k:DT X c wA)(l:QU X κ a u)(m:QU X κ b v):DS X κ (.If c a b pos) (BK wA u v):=by
 let⟨t,o,q⟩:=k;let⟨A,r,s⟩:=l;let⟨x,y,z⟩:=m;refine⟨_,MZ o r y,λC M H n d e f E R L w=>?_⟩;refine q C M H n d e _ _ R w λb g h i j p=>?_;cases b with
 |true=>exact s C M g h d e f E (R.step i j) L p
 |false=>exact z C M g h d e f E (R.step i j) L p
theorem Aj{i:Nat}{x:Str}{a:Pos}(b:X.N.Nodup)(c:X.N[i]?=P3 x)(f:Loc X.env.scope x)(g:DE X e zT wa)(h:zT≠.tp:=by intro z;cases z)(j:swapsWith e (P3 (.Name x a)) pos.line X.env=pure r_:=by rfl)
  (k:X.fn x=q_\/X.env.scope.names.lookup x=P3 .local:=by first|exact .inl rfl|exact .inr rfl|assumption):DS X κ (.Assign [.Name x a] e pos) (Ay i wa):=by
 let⟨t,l,m⟩:=g;exact⟨_,E4 b c f l j k,λC M H n o q B E R L w=>m C M H n o q _ _ R w λv r d s u y A p=>L.nx M r s _ _ ((R.step u y).set (A.shOf R.dom h)) p⟩
end
section
variable {X:Cx}{κ:Kd}{e:Expr}{wa:DW}{pos:Pos}
def C3(i:Nat)(w:DW):AY:=λb n a=>w n a λd c=>b.nx c (a.set i (.ow d))
theorem CM{i:Nat}{x:Str}{b:Pos}(c:X.N.Nodup)(f:X.N[i]?=P3 x)(g:Loc X.env.scope x)(h:DE X e .fr wa)(j:swapsWith e (P3 (.Name x b)) pos.line X.env=pure r_:=by rfl)
  (k:X.fn x=q_\/X.env.scope.names.lookup x=P3 .local:=by first|exact .inl rfl|exact .inr rfl|assumption):DS X κ (.Assign [.Name x b] e pos) (C3 i wa):=by
 let⟨t,l,m⟩:=h;refine⟨_,E4 c f g l j k,λC M H n o q D E R L w=>?_⟩;refine m C M H n o q _ _ R w λv r d s u y z p=>?_;let⟨a,rfl,A,B⟩:=z;exact L.nx _ r s _ _ (R.setOw u y A B) p
def Oj(i:Nat):AY:=λa n b=>∃d,b[i]?=P3 (.ow d)/\a.rt d n
theorem Si{x:Str}{p:Pos}(i:Nat)(h:PE X (.Name x p) (B3 i)):DS X .fr (.Return (P3 (.Name x p)) pos) (Oj i):=by
 refine⟨_,HD h,λC M H n g j k E R L ⟨d,c,f⟩=>?_⟩;let⟨a,e,m,l,t⟩:=R.sl i _ c;exact⟨_,getD_some e,L.rt _ H d n R.ext (R.feed.pres (Pres.less R.sub) λ_ _ _ z=>z) ⟨a,rfl,(R.new i _ a c rfl e).2,t.pres (Pres.less λb z=>z.elim (R.sub b) λz=>by grind) λ_ z=>z⟩ f⟩
def bU(K:Frag)(r:V->s_ V->Hp->VK->Prop)(f:D->s_ D->(D->D->Prop)->Prop):Prop:=∀(M:Ch->Prop) (H:Hp) (a:Ch) (d:D) (b:s_ D) (c:s_ V) (P:D->D->Prop) (Q:VK),M a->Tops K M H a d->Ats K M H b c->f d b P->
 (∀o e z v,Tops K M (A2 H a o) a e->At K M (A2 H a o) z v->P e z->Q v (A2 H a o))->r (.ref a) c H Q
def Od(i:Nat)(T:String)(f:D->s_ D->(D->D->Prop)->Prop)(b:D8):AY:=λc n a=>∃d,a[i]?=P3 (.ow d)/\eF T d/\b n a λg h=>f d g λe _=>c.nx h (a.set i (.ow e))
theorem Dd{M:Ch->Prop}{H:Hp}{a:Ch}{o u:HO}(m:M a)(e:H a=P3 u)(t:∀c,u≠.tup c:=by intro _ z;cases z):Pres M H M (A2 H a o):=⟨λb f q d=>by rw[AT (λz=>d (by simp_all))];exact q,λ_ z=>.inl z,λb c q=>by rw[AT (λz=>by grind)];exact q⟩
theorem Gn{x name:Str}{p c b:Pos}{T w:String}{r:V->s_ V->Hp->VK->Prop}{f:D->s_ D->(D->D->Prop)->Prop}{j:s_ gj}{I:D8}(i:Nat)(O:PlainAttrs T)(q:PySem.Slot T name w)(y:typeOf (.builtin w)=pure (.type "method_descriptor"))
  (P:ZW X w r) (Q:bU X.K r f) (h:PE X (.Name x p) (B3 i)) (S:XD X (e::j) I)
  (k:attributeBase (.Name x p) name X.env (eval (.Name x p) X.env)=eval (.Name x p) X.env:=by rfl)
  (s:((backTo b (starEach (e::j) X.env)).all (λx=>!x.1)&&(backToKw b (keywordEach [] X.env)).all (λx=>x.1.isSome)
   && decide ((e::j).length+([]:s_ jJ).length+(if([]:s_ jJ).isEmpty then 0 else 1)<30))=q_:=by rfl)
  (l:(c.endLine==b.line)=q_:=by rfl) (U:starEach (e::j) X.env=(r_,eval e X.env)::starEach j X.env:=by rfl) (g:(backTo b (starEach j X.env)).any (·.1)=r_:=by rfl)
  (A:swapsWith (.Call (.Attribute (.Name x p) name c) (e::j) [] b) p_ pos.line X.env=pure r_:=by rfl):
  DS X κ (.Expr (.Call (.Attribute (.Name x p) name c) (e::j) [] b) pos) (Od i T f I):=by
 let⟨t,W,Y⟩:=S;refine⟨_,KD (PM O q y P h W k s l U g) A,λC M H n Z J D2 E R L ⟨d,B,hT,hw⟩=>?_⟩;let⟨a,F,m,nv,tt⟩:=R.sl i _ B;exists .ref a,getD_some F,LL hT (tt.att nv);refine Y C M H n Z J _ _ R hw λvs H1 ds n1 ee f1 r1 p=>?_;have N:=R.step ee f1;let⟨a',u,m',a0,G⟩:=N.sl i _ B;rw[F]at u;cases u;exact Q M H1 a d ds vs _ _ m' G r1 p λo d' z v t2 hz pp=>L.nx M _ n1 _ J (N.mut B F t2) pp
def Fp(d:D)(b:s_ D)(P:D->D->Prop):Prop:=∃a y,d=.lst a/\b=[y]/\a.length<sizeLine/\P (.lst (a++[y])) .non
theorem IQ{K:Frag}:bU K Rw Fp:=by
 intro M H a d j k P Q m t e w q;let⟨l,y,rfl,rfl,f,w⟩:=w;let⟨g,b,c⟩:=t;let⟨u,r,rfl,h,i⟩:=e;cases(i);exact⟨a,g,u,rfl,rfl,b,by rw[c.length];exact f,q _ (.lst _) .non _ ⟨_,AX,(c.append (Ats.one h)).pres (Dd m b)⟩ rfl w⟩
end
def Yields(K:Frag)(M:Ch->Prop)(H:Hp)(J:It)(e:s_ D):Prop:=∀(i:Nat) (c:Ch->Prop) (b:Hp),Pres M H c b->(∀a,c a->∃o,b a=P3 o)->
 (∀d,e[i]?=P3 d->J.go i b/\∀x H2,J.yld i b x H2->Grow b H2/\At K c H2 d x)/\(e.length<=i->J.stop i b)
def Sy(K:Frag)(U M:Ch->Prop)(H:Hp)(J:It)(e:s_ D):Prop:=∀(i:Nat) (c:Ch->Prop) (b:Hp),Pres M H c b->Ext U H b->(∀a,c a->∃o,b a=P3 o)->
 (∀d,e[i]?=P3 d->J.go i b/\∀x H2,J.yld i b x H2->Grow b H2/\At K c H2 d x)/\(e.length<=i->J.stop i b)
theorem Yields.e{K:Frag}{U M:Ch->Prop}{H:Hp}{J:It}{a:s_ D}(h:Yields K M H J a):Sy K U M H J a:=λi b c p _ d=>h i b c p d
def ZX(X:Cx)(h a:gj)(w:D8):Prop:=∃c,PI X h a c/\∀(C:Fm) (M:Ch->Prop) (H:Hp) (n:Nat) (d:s_ Slot) (e:L2.St) (P:s_ D->Nat->Prop) (R:It->Hp->Prop),Rel X.K C M H n d e->w n d P->
 (∀J b f g,Ext C.U H b->FeedC X.K C.F M b g->Sy X.K C.U M b J f->P f g->R J b)->c e H R
def DI(X:Cx)(h a:gj)(w:D8):Prop:=∃c,PI X h a c/\∀(C:Fm) (M:Ch->Prop) (H:Hp) (n:Nat) (d:s_ Slot) (e:L2.St) (P:s_ D->Nat->Prop) (R:It->Hp->Prop),Rel X.K C M H n d e->w n d P->
 (∀J b f g,Ext C.U H b->FeedC X.K C.F M b g->Yields X.K M b J f->P f g->R J b)->c e H R
def signs(x:Str):s_ D:=x.cps.toList.map λc=>.str ⟨#[c]⟩
def BQ(w:DW):D8:=λn c P=>w n c λd a=>match d with
 |.lst b=>P b a
 |.tup b=>P b a
 |.str x=>P (signs x) a
 |_=>False
theorem Og{K:Frag}{M:Ch->Prop}{H:Hp}{a:Ch}{b:s_ V}{f:s_ D}(h:NdL M H a b)(g:Ats K M H f b):Yields K M H (fX K a) f:=by
 intro i o j p _;have c:SqL K j a b:=(h.pres p).sq;refine⟨λd k=>?_,λl=>⟨b,c,by rw[g.length];exact l⟩⟩;let⟨v,e,m⟩:=(g.pres p).get k;refine⟨⟨b,v,c,e⟩,λx H2 y=>?_⟩;let⟨n,y⟩:=y;subst n
 have:=e.symm.trans (y b c)
 cases this;exact⟨.refl,m⟩
theorem Kb{K:Frag}{M:Ch->Prop}{H:Hp}{a:Ch}{b:s_ V}{f:s_ D}(h:NdT M H a b)(g:Ats K M H f b):Yields K M H (bX K a) f:=by
 intro i o j p _;have c:SqT K j a b:=(h.pres p).sq;refine⟨λd k=>?_,λl=>⟨b,c,by rw[g.length];exact l⟩⟩;let⟨v,e,m⟩:=(g.pres p).get k;refine⟨⟨b,v,c,e⟩,λx H2 y=>?_⟩;let⟨n,y⟩:=y;subst n
 have:=e.symm.trans (y b c)
 cases this;exact⟨.refl,m⟩
theorem yields_str{K:Frag}{M:Ch->Prop}{H:Hp}{z:Str}:Yields K M H (fW z) (signs z):=by
 intro i h j p _;refine⟨λd a=>?_,λe=>?_⟩
 ·unfold signs at a
  rw[gR]at a
  have f:i<z.cps.size:=by
   cases q:z.cps.toList[i]? with
   |none=>simp_all
   |some c=>simpa using (ZB.mp q).1
  refine⟨f,λx H2 y=>?_⟩;let⟨g,c,k,rfl⟩:=y;subst g
  have:z.cps.toList[i]?=P3 c:=by grind
  rw[this]at a;have b:D.str ⟨#[c]⟩=d:=gW a;subst b;exact⟨.refl,rfl,by rw[iK];show 1<=16777216;decide⟩
 ·show z.cps.size<=i
  unfold signs at e
  simp_all
def Dq(a:Int)(n:Nat):s_ D:=(gs n).map fun(i:Nat)=>.int (a+(i:Int))
theorem HY{K:Frag}{M:Ch->Prop}{H:Hp}{e:Int}{m:Nat}:Yields K M H (di e m) (Dq e m):=by
 intro i k l p _;refine⟨λd a=>?_,λg=>?_⟩
 ·unfold Dq at a
  rw[gR]at a
  have f:=by
   cases q:(gs m)[i]? with
   |none=>simp_all
   |some c=>simpa using (ZB.mp q).1
  rw[List.getElem?_range f]at a;have b:=gW a;subst b;refine⟨f,λx H2 y=>?_⟩;let⟨h,j⟩:=y;subst h;exact⟨.refl,j⟩
 ·show m<=i
  unfold Dq at g
  simp_all
section
variable {X:Cx}{tg e e2:Expr}{κ:Kd}{wa:DW}{ws:D8}{p pos:Pos}
theorem JN(h:DE X e κ wa)(o:κ≠.tp:=by intro z;cases z):DI X tg e (BQ wa):=by
 let⟨t,r,s⟩:=h;refine⟨_,Qw r,λC M H n u x P A R w q=>?_⟩;refine s C M H n u x _ _ R w λv c d f g i y p=>?_;have j:=y.shOf R.dom o;cases d with
 |lst k=>
  let⟨a,l,e,b,m⟩:=j;exact .inl ⟨a,e,⟨l,b.sq⟩,q _ c k f g i (Og b m) p⟩
 |tup k=>
  let⟨a,l,e,b,m⟩:=j;exact .inr (.inl ⟨a,e,⟨l,b.sq⟩,q _ c k f g i (Kb b m) p⟩)
 |str z=>exact .inr (.inr ⟨z,j.1,q _ c _ f g i yields_str p⟩)
 |_=>exact p.elim
def Eb(ws:D8):D8:=λn a P=>ws n a λb c=>∃j:Int,b=[.int j]/\(-(2 ^ 62)<=j/\j<2 ^ 62)/\P (Dq 0 j.toNat) c
theorem CV(b:Gl X "range")(c:X.mg "range"=p_)(d:XQ X [e] ws)(f:starEach [e] X.env=[(r_,eval e X.env)]:=by rfl):DI X tg (.Call (.Name "range" p) [e] [] pos) (Eb ws):=by
 let⟨t,g,h⟩:=d;refine⟨_,Tj b c g f,λC M H n i k P x R w q=>?_⟩;refine h C M H n i k _ _ R w λy l z m o s u p=>?_;let⟨j,rfl,a,p⟩:=p;cases u with
 |cons r v=>
  cases v;exact⟨j,by rw[r],a.1,a.2,q _ l _ m o s HY p⟩
theorem DI.c(h:DI X tg e ws):ZX X tg e ws:=by
 let⟨a,b,d⟩:=h;exact⟨a,b,λC M H n f g P i R w q=>d C M H n f g P i R w λJ j k l m o y p=>q J j k l m o y.e p⟩
theorem Bt(h:DE X e κ wa):ZX X tg e (BQ wa):=by
 let⟨t,B,D⟩:=h;refine⟨_,Qw B,λC M H n E F P O R w q=>?_⟩;refine D C M H n E F _ _ R w λv g d k l m G p=>?_;have f:AtT X.K C.V M g d v:=G.tpOf R.dom R.vM;cases d with
 | lst r=>
  let⟨a,b,e,u,c,j⟩:=f;refine .inl ⟨a,e,⟨b,.inl c⟩,q _ g r k l m (λi Q I J ex _=>?_) p⟩
  have s:SqL X.K I a b:=by
   rcases c with c|⟨o,c⟩
   ·exact .inl (.inl (ex.keep c λz=>u (R.uV a z)))
   ·exact .inl (.inr ⟨o,ex.keep c λz=>u (R.uV a z)⟩)
  refine⟨λd L=>?_,λN=>⟨b,s,by rw[j.length];exact N⟩⟩;let⟨v,e,f⟩:=(j.pres J).get L;refine⟨⟨b,v,s,e⟩,λx H2 y=>?_⟩;let⟨e2,y⟩:=y;subst e2
  have:P3 v=P3 x:=e.symm.trans (y b s)
  cases this;exact⟨.refl,f⟩
 |tup r=>
  let⟨a,b,e,A,j⟩:=f;exact .inr (.inl ⟨a,e,⟨b,A.sq⟩,q _ g r k l m (Kb A j).e p⟩)
 |str z=>exact .inr (.inr ⟨z,f.1,q _ g _ k l m yields_str.e p⟩)
 |_=>exact p.elim
end
abbrev BW:=D->s_ Slot->(s_ Slot->Prop)->Prop
def DG(X:Cx)(h:gj)(b:BW):Prop:=∃g,PG X h g/\∀(C:Fm) (M:Ch->Prop) (H:Hp) (n:Nat) (a:s_ Slot) (c:L2.St) (d:D) (v:V) (P:s_ Slot->Prop) (Q:L2.St->Hp->Prop),Rel X.K C M H n a c->At X.K M H d v->b d a P->
 (∀e f,Rel X.K C M H n e f->P e->Q f H)->g v c H Q
def Ae(i:Nat):BW:=λd a P=>P (a.set i (.sh d))
theorem Af{X:Cx}{i:Nat}{x:Str}{pos:Pos}(a:X.N.Nodup)(b:X.N[i]?=P3 x)(c:Loc X.env.scope x)(e:X.fn x=q_\/X.env.scope.names.lookup x=P3 .local:=by first|exact .inl rfl|exact .inr rfl|assumption):DG X (.Name x pos) (Ae i):=
 ⟨_,Ho a b c e,λC M H n f g d v P Q R h w q=>q _ _ (R.set h) w⟩
def BP(b:BW)(a:AY)(c:E2):s_ D->Nat->s_ Slot->Prop
 |[],n,e=>c.nx n e
 |d::f,n,e=>b d e λg=>a {c with nx:=BP b a c f,ct:=BP b a c f,bk:=c.nx} n g
def D9(c:D8)(b:BW)(a:AY):AY:=λe n d=>c n d λf g=>BP b a e f g d
theorem Rel.unpin{K:Frag}{C:Fm}{p:(Ch->Prop)×Hp}{M:Ch->Prop}{H:Hp}{n:Nat}{a:s_ Slot}{b:L2.St}(R:Rel K {C with zH:=p::C.zH} M H n a b):Rel K C M H n a b:=
 ⟨R.len,R.sub,R.dom,R.ext,R.fU,R.uV,R.vM,R.feed,R.sl,λq c=>R.pin q (Rs _ c),R.br0,R.new,R.two,R.kept⟩
theorem Rel.pinned{K:Frag}{C:Fm}{M:Ch->Prop}{H:Hp}{n:Nat}{a:s_ Slot}{b:L2.St}(R:Rel K C M H n a b):Rel K {C with zH:=(M,H)::C.zH} M H n a b:=
 ⟨R.len,R.sub,R.dom,R.ext,R.fU,R.uV,R.vM,R.feed,R.sl,λq c=>(TW.mp c).elim (λe=>e▸Pres.refl M H) (R.pin q),R.br0,R.new,R.two,R.kept⟩
section
variable {X:Cx}{κ:Kd}{tg iter:Expr}{body:s_ Stmt}{src:D8}{b:BW}{wb:AY}{pos:Pos}
theorem CT(S:lL (model X.prog X.w) X.A X.env X.xe)(T:X.calm=q_)(I:DI X tg iter src)(U:DG X tg b)(V:QU X κ body wb)
  (W:∀x,foldedSetIterable iter X.env x=pure x:=by intro _;rfl):DS X κ (.For tg iter body [] pos) (D9 src b wb):=by
 let⟨wi,Y,Z⟩:=I;let⟨g,g1,g2⟩:=U;let⟨tb,b1,b2⟩:=V;refine⟨_,K3 S T Y g1 b1 W,λC M H n N σ h E R L w=>?_⟩;refine Z C M H n N σ _ _ R w λJ u a n1 e1 f1 y w1=>?_;have R1:=R.step e1 f1;exists λi m v j=>m=a.length - i/\i<=a.length/\∃c k o,Rel X.K {C with zH:=(M,u)::C.zH} c j k o v/\BP b wb h (a.drop i) k o,⟨a.length,by simp,Tk _,M,n1,N,R1.pinned,w1⟩;rintro i m v j ⟨rfl,I,c,k,o,l,z⟩;have O:Pres M u c j:=l.pin (M,u) Op
 by_cases d:i<a.length
 ·have ed:a.drop i=a[i]::a.drop (i+1):=ic d
  rw[ed]at z;let⟨go,yl⟩:=(y i c j O l.dom).1 a[i] (FM d);refine .inr ⟨go,λP H2=>∃M2 B D,Rel X.K {C with zH:=(M,u)::C.zH} M2 H2 B D P/\BP b wb h (a.drop (i+1)) B D,λP H2 ⟨M2,B,D,f,w2⟩=>⟨a.length - (i+1),by omega,rfl,d,M2,B,D,f,w2⟩,λx H2 hy=>?_⟩;let⟨Q,hx⟩:=yl x H2 hy;have f:=l.step Q.ext (l.feed.grow Q);refine g2 _ c H2 k o v a[i] x _ _ f hx z λzN zV R3 w3=>?_;refine b2 _ c H2 k zN zV {h with nx:=BP b wb h (a.drop (i+1)),ct:=BP b wb h (a.drop (i+1)),bk:=h.nx} _ R3 ⟨λp F q r G s t=>⟨p,q,r,s,t⟩,L.rt,λp F q r G s t=>L.nx p F q r G s.unpin t,λp F q r G s t=>⟨p,q,r,s,t⟩⟩ w3
 ·have e:i=a.length:=by omega
  subst e;rw[jr]at z;exact .inl ⟨(y _ c j O l.dom).2 (On _),L.nx c j k o v l.unpin z⟩
end
def C5(b:BW)(f:Gg)(g:DW)(P:s_ D->Nat->Prop):s_ D->s_ D->Nat->s_ Slot->Prop
 |[],a,n,_=>P a n
 |d::h,a,n,j=>b d j λe=>f n e λc i=>if c=q_ then g i e λy k=>C5 b f g P h (a++[y]) k e else C5 b f g P h a i e
def V7:Slot->Slot
 |.ow d=>.br d
 |.lt _ d=>.br d
 |s=>s
theorem UC(s:Slot):(V7 s).owns=r_:=by cases s <;>rfl
theorem E6{a:s_ (t_ Nat)}{b:s_ Slot}{i:Nat}{s:Slot}(h:(a.map λo=>match o with|some i=>V7 ((b[i]?).getD .no)|none=>Slot.no)[i]?=P3 s):s.owns=r_:=by
 rw[gR]at h;cases q:a[i]? with
 |none=>grind
 | some o=>
  rw[q]at h;cases o with
  |none=>
   rw[←gW h];rfl
  |some j=>
   rw[←gW h];exact UC _
def Hv(a:s_ (t_ Nat))(b:s_ Slot):s_ Slot:=a.map λo=>match o with
 |some i=>V7 ((b[i]?).getD .no)
 |none=>.no
def Bp(f:s_ (t_ Nat))(a:D8)(b:BW)(g:Gg)(h:DW):DW:=λn d P=>a n d λe i=>e.length<=10000000/\C5 b g h (λc j=>P (.lst c) j) e [] i (Hv f d)
def ba(X:Cx)(a:s_ gj)(w:Gg):Prop:=∃t,da X a t/\∀(C:Fm) (M:Ch->Prop) (H:Hp) (n:Nat) (d:s_ Slot) (e:L2.St) (P:Bool->Nat->Prop) (Q:Bool->Hp->Prop),Rel X.K C M H n d e->w n d P->
 (∀b c f,Ext C.U H c->FeedC X.K C.F M c f->P b f->Q b c)->t e H Q
def DB:Gg:=λn _ P=>P q_ n
theorem Bz{X:Cx}:ba X [] DB:=⟨_,Xw,λC M H n a b P Q R w q=>q _ H n (Ext.refl _ _) R.feed w⟩
theorem ID{X:Cx}{c:gj}{w:Gg}(h:DT X c w):ba X [c] w:=by
 let⟨t,a,b⟩:=h;exact⟨t,Xv a,b⟩
theorem Md{c:s_ (t_ Nat)}{d:s_ Slot}{g:L2.St}{i:Nat}{s:Slot}(a:(Hv c d)[i]?=P3 s):s=.no\/∃(j:Nat) (b:Slot),d[j]?=P3 b/\s=V7 b/\((Cu c g)[i]?).getD p_=(g[j]?).getD p_:=by
 unfold Hv at a;unfold Cu;rw[gR]at a ⊢;cases q:c[i]? with
 |none=>simp_all
 | some o=>
  rw[q]at a;cases o with
  |none=>simp_all
  | some j=>
   have e:V7 _=s:=gW a;cases f:d[j]? with
   |none=>rw[f]at e;exact .inl e.symm
   |some b=>
    rw[f]at e;exact .inr ⟨j,b,f,e.symm,rfl⟩
theorem Pm{K:Frag}{F:t_ (Ch×Ch)}{U m M g:Ch->Prop}{H h:Hp}{n:s_ (t_ Nat)}{o:s_ Slot}{p:L2.St}(k:∀(i:Nat) (s:Slot),o[i]?=P3 s->SlotOk K F U M H s ((p[i]?).getD p_))
  (r:Pres M H g h) (br:∀d v,AtT K U M H d v->AtT K m g h d v):∀(i:Nat) (s:Slot),(Hv n o)[i]?=P3 s->SlotOk K F m g h s (((Cu n p)[i]?).getD p_):=by
 intro i s w
 rcases Md w with rfl|⟨j,u,q,rfl,e⟩
 ·trivial
 ·rw[e]
  have c:=k j u q;cases u with
  |no=>trivial
  |sh d=>let⟨v,b,f⟩:=c;exact⟨v,b,f.pres r⟩
  |ex a x y z=>let⟨b,f⟩:=c;exact⟨b,f.pres r⟩
  |br d=>let⟨v,b,f⟩:=c;exact⟨v,b,br d v f⟩
  |fd=>exact c
  |ow d=>let⟨a,b,_,l,t⟩:=c;exact⟨_,b,br d _ (t.att l)⟩
  |lt a d=>let⟨b,_,l,t⟩:=c;exact⟨_,b,br d _ (t.att l)⟩
theorem SJ{K:Frag}{F:t_ (Ch×Ch)}{U M:Ch->Prop}{H:Hp}{k:s_ (t_ Nat)}{l:s_ Slot}{m:L2.St}(g:∀(i:Nat) (s:Slot),l[i]?=P3 s->SlotOk K F U M H s ((m[i]?).getD p_)){i:Nat}{d:D}{a:Ch}
  (r:(Hv k l)[i]?=P3 (.br d)) (n:((Cu k m)[i]?).getD p_=P3 (.ref a)):∃o,H a=P3 o:=by
 rcases Md r with z|⟨j,p,q,z,e⟩
 ·cases z
 ·rw[e]at n
  have f:=g j p q;rw[n]at f;cases p with
  |br d=>let⟨v,c,u⟩:=f;cases c;exact u.lies
  |ow d=>let⟨b,c,_,h,t⟩:=f;cases c;exact(t.att h).lies
  |lt b d=>let⟨c,_,h,t⟩:=f;cases c;exact(t.att h).lies
  |no=>cases z
  |sh d=>cases z
  |ex a w x y=>cases z
  |fd=>cases z
section
variable {X:Cx}{zT:Kd}{tg elt iter:Expr}{ifs:s_ Expr}{sc:Scope}{pos:Pos}{src:D8}{b:BW}{tt:Gg}{te:DW}
theorem Sm(hc:X.calm=q_)(N':s_ Str)(js:s_ (t_ Nat))(hi:ZX X tg iter src)(hg:∀I C s H L,DG (A8 X sc N' I C s H L) tg b)(ht:∀I C s H L,ba (A8 X sc N' I C s H L) ifs tt)(he:∀I C s H L,DE (A8 X sc N' I C s H L) elt zT te)
  (hB:IF sc X.env.scope X.N N' js=q_) (hk:zT≠.tp:=by intro z;cases z)
  (hs:∀x,foldedSetIterable iter X.env x=pure x:=by intro _;rfl):DE X (.ListComp elt [⟨tg,iter,ifs,0⟩] sc pos) .fr (Bp js src b tt te):=by
 let⟨wi,a1,a2⟩:=hi;refine⟨_,X0 hc N' js a1 hB hs,λC M H n ρ σ P Q R w q=>?_⟩;refine a2 C M H n ρ σ _ _ R w λJ O r n1 u f1 y w1=>?_;let⟨b2,w1⟩:=w1;have R1:=R.step u f1;intro l hl b4 I Ca s0 H0 L;let⟨g,g1,g2⟩:=hg I Ca s0 H0 L;let⟨tc,c1,c2⟩:=ht I Ca s0 H0 L;let⟨tx,x1,x2⟩:=he I Ca s0 H0 L
 have a3:¬C.U l:=λz=>by
  let⟨o,z⟩:=R1.udom l z;rw[hl]at z;cases z
 generalize S:(λb=>M b\/b=l)=M';have a4:M' l:=by rw[←S];exact .inr rfl
 have M'of:∀b,M b->M' b:=λb z=>by rw[←S];exact .inl z
 have a0:∀b,M' b->M b\/b=l:=λb z=>by rw[←S]at z;exact z
 have a9:∀b,C.V b\/b=l->M' b:=λb z=>z.elim (λz=>M'of b (R1.vM b z)) λz=>by rw[z];exact a4
 have b3:js.length=N'.length:=Fv (CompOk.of hB).cap
 exists g,tc,tx,λi m zZ D=>m=r.length - i/\i<=r.length/\∃n' zY k E,Rel X.K ⟨M',C.F,C.U,λb=>C.V b\/b=l,O,[],[]⟩ M' D n' zY zZ/\D l=P3 (.lst E)/\Ats X.K M' D k E/\k.length<=i/\Pres M O M' D /\
   C5 b tt te (λk n2=>P (.lst k) n2) (r.drop i) k n' zY,g1,c1,x1,⟨r.length,by simp,Tk _,n1,Hv js ρ,[],[],?_⟩
 ·have G:Grow O (A2 O l (.lst [])):=Ar hl
  have T:Pres M O M' (A2 O l (.lst [])):=⟨λb o e _=>G.all b o e,λb z=>(a0 b z).elim .inl λz=>.inr (by rw[z];exact hl),λb E e=>G.all b _ e⟩;refine⟨⟨?_,λa z=>z,λa z=>?_,G.ext,R1.fU,λa z=>.inl (R1.uV a z),a9,f1.pres T λf o _ e=>G.all f.1 o e,?_,λp hp=>absurd hp (by simp),λi d a q z=>SJ R1.sl q z,λi s a q o _=>absurd o (by rw[E6 q];decide),λi j s t a q o _ _ _ _=>absurd o (by rw[E6 q];decide),λp hp=>absurd hp (by simp)⟩,AX,rfl,Tk _,T,w1⟩
  ·unfold Hv Cu
   rw[No,No]
  ·rcases a0 a z with z|z
   ·let⟨o,z⟩:=R1.dom a z
    exact⟨o,G.all a o z⟩
   ·subst z
    exact⟨_,AX⟩
  ·refine Pm R1.sl T λd v h=>h.same T (λa o _ e=>G.all a o e) λa e n1 z=>z.elim n1 λz=>?_
   subst e;let⟨o,w⟩:=h.lies;rw[z,hl]at w;cases w
 ·rintro i m zZ D ⟨rfl,hi,n',zY,k,E,R',a6,W,a7,T,w'⟩
  by_cases Y:i<r.length
  ·have ed:r.drop i=r[i]::r.drop (i+1):=ic Y
   rw[ed]at w';let⟨go,yl⟩:=(y i M' D T R'.ext R'.dom).1 r[i] (FM Y);refine .inr ⟨go,λx H2 hy=>?_⟩;let⟨G,hx⟩:=yl x H2 hy;have b0:=R'.step G.ext (R'.feed.grow G);refine g2 _ M' H2 n' zY zZ r[i] x _ _ b0 hx w' λzN zV R3 w3=>?_;refine c2 _ M' H2 n' zN zV _ _ R3 w3 λc H4 n4 e4 f4 w4=>?_;have R4:=R3.step e4 f4;have p4:Pres M' D M' H4:=G.pres.trans (R3.pres e4);have l4:H4 l=P3 (.lst E):=e4.keep (G.all _ _ a6) a3;cases c with
   |false=>exact⟨r.length - (i+1),by omega,rfl,Y,n4,zN,k,E,R4,l4,W.pres p4,by omega,T.trans p4,w4⟩
   | true=>
    refine x2 _ M' H4 n4 zN zV _ _ R4 w4 λyv H5 d5 n5 e5 f5 r5 w5=>?_;have A:=R4.step e5 f5;have p5:Pres M' H4 M' H5:=R4.pres e5;have l5:H5 l=P3 (.lst E):=e5.keep l4 a3;have b1:=r5.shOf R4.dom hk;have a5:=(W.pres p4).pres p5;have pu:Pres M' H5 M' (A2 H5 l (.lst (E++[yv]))):=Dd a4 l5;have b5:E.length=k.length:=W.length;refine⟨E,l5,by rw[iK];omega,r.length - (i+1),by omega,rfl,Y,n5,zN,k++[d5],E++[yv],?_,AX,(a5.append (Ats.one b1)).pres pu,by rw[eq,gl];omega,(T.trans p4).trans (p5.trans pu),w5⟩;refine⟨A.len,A.sub,λa z=>?_,λb o e=>?_,A.fU,A.uV,A.vM,?_,λj s hs=>?_,λp hp=>absurd hp (by simp),A.br0,A.new,A.two,λp hp=>absurd hp (by simp)⟩
    ·by_cases ha:a=l
     ·subst ha;exact⟨_,AX⟩
     ·rw[AT ha];exact A.dom a z
    ·let⟨o',q1,q2⟩:=A.ext b o e
     by_cases hb:b=l
     ·subst hb
      have e':O b=P3 o:=e;rw[hl]at e';cases e'
     ·exact⟨o',by rw[AT hb];exact q1,q2⟩
    ·refine f5.pres pu λf o hf e=>?_
     rw[AT (λz=>a3 (by rw[←z];exact R1.fU f hf))];exact e
    ·have B:=A.sl j s hs
     cases s with
     |no=>trivial
     |sh d=>let⟨v,u,Z⟩:=B;exact⟨v,u,Z.pres pu⟩
     |ex a nm ks r=>let⟨u,Z⟩:=B;exact⟨u,Z.pres pu⟩
     | br d=>
      let⟨v,u,Z⟩:=B;refine⟨v,u,Z.same pu (λa o z e=>?_) λ_ _ z=>z⟩;subst z;let⟨o3,w⟩:=A.br0 j d a hs u
      have a7:a≠l:=λz=>by
       have w':O a=P3 o3:=w;rw[z,hl]at w';cases w'
      rw[AT a7];exact e
     |ow d=>
      let⟨a,u,Z,_⟩:=B;exact absurd Z (A.new j _ a hs rfl u).1
     |lt a d=>
      let⟨u,Z,_⟩:=B;exact absurd Z (A.new j _ a hs rfl u).1
     |fd=>exact B
  ·have e:i=r.length:=by omega
   subst e;rw[jr]at w';refine .inl ⟨(y _ M' D T R'.ext R'.dom).2 (On _),?_⟩;have eb:Ext C.U O D:=R'.ext;have a8:Pres M' D M D:=Pres.less M'of;refine q _ D (.lst k) n' (u.trans eb) (R'.feed.pres a8 λ_ _ _ z=>z) (VR.back u ?_) w';exact⟨l,rfl,hl,E,a6,by rw[S];exact W⟩
end
theorem MY{K:Frag}{F:t_ (Ch×Ch)}{U k M:Ch->Prop}{H:Hp}{n:Nat}{c:s_ Slot}{f:s_ V}{N:s_ Str}(h:bQ K F U k M H n c f)(I:f.length<=N.length):
  Rel K ⟨M,F,U,k,H,[],[]⟩ M H n (c++Uf (N.length - c.length) .no) (L2.start N f):=by
 let⟨u,A,B,C,fd,q⟩:=h;have D:f.length=c.length:=Paired.length q
 have E:∀{f:s_ V}{c:s_ Slot}{i:Nat}{s:Slot},Paired (NG K F k M H) f c->c[i]?=P3 s->∃v,f[i]?=P3 v/\NG K F k M H v s:=by
  intro f c i s q
  induction q generalizing i with
  |nil=>intro e;simp at e
  | cons r t G=>
   intro e;cases i with
   |zero=>simp at e;subst e;exact⟨_,rfl,r⟩
   |succ i=>
    let⟨v,l,m⟩:=G (i:=i) (by simpa using e);exact⟨v,by simpa using l,m⟩
 have g:∀(i:Nat) (s:Slot),(c++Uf (N.length - c.length) Slot.no)[i]?=P3 s->s=.no\/∃v,((L2.start N f)[i]?).getD p_=P3 v/\NG K F k M H v s:=by
  intro i s b
  by_cases x:i<c.length
  ·rw[iR x]at b
   let⟨v,l,m⟩:=E q b;refine .inr ⟨v,?_,m⟩;unfold L2.start;rw[iR (by rw[No,D];exact x),gR,l];rfl
  ·rw[iC (by omega),kz]at b
   split at b
   ·exact .inl (gW b).symm
   ·cases b
 refine⟨?_,λa z=>z,u,Ext.refl _ _,A,B,C,fd,λi s b=>?_,λp w=>absurd w (by simp),λi d a b y=>?_,λi s a b o _=>?_,λi j s t a b o _ _ _ _=>?_,λp w=>absurd w (by simp)⟩
 ·unfold L2.start
  simp only[eq,No,nF];omega
 ·rcases g i s b with rfl|⟨v,e,h⟩
  ·trivial
  ·rw[e];exact h.1
 ·rcases g i _ b with z|⟨v,e,h⟩
  ·cases z
  ·rw[e]at y
   cases y;let⟨v,l,m⟩:=h.1;cases l;exact m.lies
 ·rcases g i s b with rfl|⟨v,e,h⟩
  ·cases o
  ·rw[h.2]at o;cases o
 ·rcases g i s b with rfl|⟨v,e,h⟩
  ·cases o
  ·rw[h.2]at o;cases o
theorem fL{P:gi}{w:gn}{K:Frag}{y:Str->t_ Db}{e:gf}{x b:Str}{j:gm}{f:Ch}{fd:hU}{N g:s_ Str}{k:Nat}{m:Kd}{W:W2}{B:AY}(F:Fun K x b j f fd)(S:Ac N g (AM j))(G:g.length<=N.length)
  (I:∀(c:Db) (A:gw) (a:s_ Env) (s:Go) (H:Hp) (E:XK),Room k (A.deeper (envOfC b (AM j) s.heap.objs.size f c))->QU (HN CA P w K y e N b (AM j) f c A a s H E).nox m (Bl j) B)
  (hW:∀l n i,l.length=g.length->W l n i->B {nx:=λn _=>m=.sh/\i .non n,rt:=i} n (l++Uf (N.length - g.length) .no)):
  A3 P w K y e CA (k+1) f fd g (DC K m W g.length):=by
 refine F.ok S (λC H Q E h=>h.1) (λc A a s H C Q E J h=>?_);let⟨hl,L,U,O,M,n,l,i,D,hw,q⟩:=h;let⟨t,T,V⟩:=I c A a s H E J;exists t,T;have el:C.length=l.length:=Paired.length D.2.2.2.2.2;have R:=MY (N:=N) D (by omega);refine V ⟨M,L,U,O,H,[],[]⟩ M H n _ _ {nx:=λn _=>m=.sh/\i .non n,rt:=i} _ R ⟨λM1 o r zR zK u p=>?_,λv o d r X Y Z p=>q v o d r X Y Z p,λ_ _ _ _ _ _ z=>z.elim,λ_ _ _ _ _ _ z=>z.elim⟩ ?_
 ·let⟨hk,p⟩:=p
  subst hk;exact q .non o .non r u.ext (u.feed.pres (Pres.less u.sub) λ_ _ _ z=>z) rfl p
 grind
end Dp
namespace L2
section
variable {X:Cx}
theorem Inv.rdl{c:s_ (Ch×Obj)}{d:L2.St}{H:Hp}{s:Go}{l:Ch}{b:s_ V}(I:Inv X c d H s)(h:Rd H l (.lst b)):b.length<=sizeLine/\∃(a:s_ Db) (n:Nat),Vals b a/\b.length=a.length/\s.heap.get? l=P3 {cls:=.type "list",data:=.seq a.toArray n}:=by
 let⟨z,a,n,r,e⟩:=h.ok I.hok;exact⟨z,_,n,r,r.length,e⟩
theorem Nn:OpR X (binaryOp .Add) (λx y H Q=>∃l b d f,x=.ref l/\y=.ref b/\Rd H l (.lst d)/\Rd H b (.lst f)/\d.length+f.length<=sizeLine/\∀p,H p=p_->Q (.ref p) (A2 H p (.lst (d++f)))):=by
 intro A s B H x y v u Q I g i h;let⟨l,b,d,f,rfl,rfl,j,k,C,q⟩:=h;cases g;cases i;let⟨z,c,n,r,D,e⟩:=I.rdl j;let⟨E,a,F,m,o,t⟩:=I.rdl k;refine PySem.P.add_list e t ?_ (by grind);have w:c.toArray++a.toArray=(c++a).toArray:=by simp
 rw[w];exact⟨.ref _,_,I.lnew (r.append m) (by grind),rfl,q _ I.fresh⟩
end
end L2
namespace Dp
open L2
section
variable {K:Frag}
theorem AtT.int{U M:Ch->Prop}{H:Hp}{i:Int}{v:V}(h:AtT K U M H (.int i) v):v=.int i:=h
theorem AtT.bl{U M:Ch->Prop}{H:Hp}{i:Bool}{v:V}(h:AtT K U M H (.bl i) v):v=.bl i:=h
theorem AtT.str{U M:Ch->Prop}{H:Hp}{x:Str}{v:V}(h:AtT K U M H (.str x) v):v=.str x/\x.length<=sizeLine:=h
theorem AtT.tup{U M:Ch->Prop}{H:Hp}{b:s_ D}{v:V}(h:AtT K U M H (.tup b) v):∃a c,v=.ref a/\NdT M H a c/\Ats K M H b c:=h
def eK(g:Int->Int->(D->Prop)->Prop)(d e:D)(P:D->Prop):Prop:=match d,e with
 |.int i,.int j=>g i j P
 |_,_=>False
theorem OD{g:Int->Int->(D->Prop)->Prop}{d e:D}{P:D->Prop}(w:eK g d e P):∃i j,d=.int i/\e=.int j/\g i j P:=by
 unfold eK at w
 split at w
 ·grind
 grind
def f2(g:Int->Int->D):D->D->(D->Prop)->Prop:=eK λi j P=>P (g i j)
def QS(C:Int->Int->Prop)(g:Int->Int->D):D->D->(D->Prop)->Prop:=eK λi j P=>C i j/\P (g i j)
theorem W5{g:Int->Int->Int}:GW K .sh (JX λi j=>.int (g i j)) (f2 λi j=>.int (g i j)):=by
 intro U M H d e x y P Q a f b c w q;let⟨i,j,rfl,rfl,w⟩:=OD w;exact⟨i,j,b,c,q _ H (.int _) .refl rfl w⟩
theorem OW{g:Int->Int->Bool}:GW K .sh (JX λi j=>.bl (g i j)) (f2 λi j=>.bl (g i j)):=by
 intro U M H d e x y P Q a f b c w q;let⟨i,j,rfl,rfl,w⟩:=OD w;exact⟨i,j,b,c,q _ H (.bl _) .refl rfl w⟩
theorem DL{C:Int->Int->Prop}{g:Int->Int->Int}:GW K .sh (rI C λi j=>.int (g i j)) (QS C λi j=>.int (g i j)):=by
 intro U M H d e x y P Q a f b c w q;let⟨i,j,rfl,rfl,w⟩:=OD w;exact⟨i,j,b,c,w.1,q _ H (.int _) .refl rfl w.2⟩
def eI(g:Str->Str->(D->Prop)->Prop)(d e:D)(P:D->Prop):Prop:=match d,e with
 |.str i,.str j=>g i j P
 |_,_=>False
theorem SY{g:Str->Str->(D->Prop)->Prop}{d e:D}{P:D->Prop}(w:eI g d e P):∃i j,d=.str i/\e=.str j/\g i j P:=by
 unfold eI at w
 split at w
 ·grind
 grind
theorem Wz{g:Str->Str->Bool}:GW K .sh (λx y H Q=>∃i j,x=.str i/\y=.str j/\Q (.bl (g i j)) H) (eI λi j P=>P (.bl (g i j))):=by
 intro U M H d e x y P Q a f b c w q;let⟨i,j,rfl,rfl,w⟩:=SY w;exact⟨i,j,b.1,c.1,q _ H (.bl _) .refl rfl w⟩
theorem Ul:GW K .sh (λx y H Q=>∃i j,x=.str i/\y=.str j/\i.length+j.length<=sizeLine/\Q (.str (i++j)) H) (eI λi j P=>i.length+j.length<=sizeLine/\P (.str (i++j))):=by
 intro U M H d e x y P Q a f b c w q;let⟨i,j,rfl,rfl,w⟩:=SY w;exact⟨i,j,b.1,c.1,w.1,q _ H (.str _) .refl ⟨rfl,by rw[mJ i j];exact w.1⟩ w.2⟩
def fM(g:s_ D->s_ D->(D->Prop)->Prop)(d e:D)(P:D->Prop):Prop:=match d,e with
 |.tup i,.tup j=>g i j P
 |_,_=>False
def eJ(g:s_ D->s_ D->(D->Prop)->Prop)(d e:D)(P:D->Prop):Prop:=match d,e with
 |.lst i,.lst j=>g i j P
 |_,_=>False
theorem YN{g:s_ D->s_ D->(D->Prop)->Prop}{d e:D}{P:D->Prop}(w:fM g d e P):∃i j,d=.tup i/\e=.tup j/\g i j P:=by
 unfold fM at w
 split at w
 ·grind
 grind
theorem YR{g:s_ D->s_ D->(D->Prop)->Prop}{d e:D}{P:D->Prop}(w:eJ g d e P):∃i j,d=.lst i/\e=.lst j/\g i j P:=by
 unfold eJ at w
 split at w
 ·grind
 grind
theorem C7{M:Ch->Prop}{H:Hp}{p:Ch}{b:s_ V}{c:s_ D}(d:∀a,M a->∃o,H a=P3 o)(e:H p=p_)(h:Ats K M H c b):At K M (A2 H p (.tup b)) (.tup c) (.ref p):=⟨p,b,rfl,AX,h.pres (Ar e).pres⟩
theorem C8{U M:Ch->Prop}{H:Hp}{p:Ch}{a:s_ V}{b:s_ D}(c:H p=p_)(h:Ats K M H b a):VR K U M H (A2 H p (.lst a)) .fr (.ref p) (.lst b):=
 ⟨p,rfl,c,a,AX,h.pres (Dv c)⟩
theorem Uk:GW K .sh (VZ K) (fM λi j P=>i≠[]/\i.length+j.length<=sizeLine/\P (.tup (i++j))):=by
 intro U M H d e x y P Q c u o r w q;let⟨i,j,rfl,rfl,w⟩:=YN w;let⟨a,g,rfl,h,f⟩:=o.tup;let⟨b,s,rfl,t,k⟩:=r.tup;have l:=f.length;have m:=k.length;refine⟨a,b,g,s,rfl,rfl,h.sq,t.sq,λz=>w.1 ?_,by simp_all,λz=>?_,λz p n=>?_⟩
 ·rw[z]at l;exact k6.mp l.symm
 ·rw[z]at m
  have:j=[]:=k6.mp m.symm
  subst this;exact q _ H (.tup i) .refl ⟨a,g,rfl,h,f⟩ (by grind)
 ·exact q _ _ (.tup (i++j)) (Ar n) (C7 c n (f.append k)) w.2.2
theorem JQ:GW K .fr (λx y H Q=>∃l b c f,x=.ref l/\y=.ref b/\Rd H l (.lst c)/\Rd H b (.lst f)/\c.length+f.length<=sizeLine/\∀p,H p=p_->Q (.ref p) (A2 H p (.lst (c++f)))) (eJ λi j P=>i.length+j.length<=sizeLine/\P (.lst (i++j))):=by
 intro U M H d e x y P Q m v n o w q;let⟨i,j,rfl,rfl,w⟩:=YR w;let⟨a,r,rfl,_,s,g⟩:=n;let⟨b,t,rfl,_,u,h⟩:=o;exact⟨a,b,r,t,rfl,rfl,s,u,by rw[g.length,h.length];exact w.1,λp k=>q _ _ _ (Ar k) (C8 k (g.append h)) w.2⟩
def HL(a:Bool)(d e:D)(P:D->Prop):Prop:=match d,e with
 |.bl i,.bl j=>P (.bl (if a then !(i==j)else i==j))
 |.int i,.int j=>P (.bl (if a then !(i==j)else i==j))
 |.str i,.str j=>P (.bl (if a then !(i==j)else i==j))
 |_,_=>False
theorem Sa{a:Bool}{d e:D}{P:D->Prop}(w:HL a d e P):(∃i j,d=.bl i/\e=.bl j/\P (.bl (if a then !(i==j)else i==j)))\/(∃i j,d=.int i/\e=.int j/\P (.bl (if a then !(i==j)else i==j)))\/∃i j,d=.str i/\e=.str j/\P (.bl (if a then !(i==j)else i==j)):=by
 unfold HL at w
 split at w
 ·simp_all
 ·simp_all
 ·simp_all
 grind
theorem EX:GW K .sh fh (HL r_):=by
 intro U M H d e x y P Q c f a b w q
 rcases Sa w with⟨i,j,rfl,rfl,w⟩|⟨i,j,rfl,rfl,w⟩|⟨i,j,rfl,rfl,w⟩
 ·rw[a.bl,b.bl];exact⟨rfl,q _ H _ .refl (by rw[OI];rfl) w⟩
 ·rw[a.int,b.int];exact⟨rfl,q _ H _ .refl (by rw[KR];rfl) w⟩
 ·rw[a.str.1,b.str.1];exact⟨rfl,q _ H _ .refl (by rw[KQ];rfl) w⟩
theorem W3:GW K .sh fc (HL q_):=by
 intro U M H d e x y P Q c f a b w q
 rcases Sa w with⟨i,j,rfl,rfl,w⟩|⟨i,j,rfl,rfl,w⟩|⟨i,j,rfl,rfl,w⟩
 ·rw[a.bl,b.bl];exact⟨rfl,q _ H _ .refl (by rw[OI];rfl) w⟩
 ·rw[a.int,b.int];exact⟨rfl,q _ H _ .refl (by rw[KR];rfl) w⟩
 ·rw[a.str.1,b.str.1];exact⟨rfl,q _ H _ .refl (by rw[KQ];rfl) w⟩
def Gm:D->Bool
 |.non=>q_
 |_=>r_
theorem Pt{U M:Ch->Prop}{H:Hp}{d:D}{x:V}(h:AtT K U M H d x):decide (x=.non)=Gm d:=by
 cases d with
 |non=>rw[h];rfl
 |bl b=>rw[h.bl];rfl
 |int i=>rw[h.int];rfl
 |str z=>rw[h.str.1];rfl
 |tup c=>let⟨a,e,rfl,_⟩:=h.tup;rfl
 |lst c=>let⟨a,e,rfl,_⟩:=h;rfl
 |dic f c=>let⟨a,e,rfl,_⟩:=h;rfl
 |fdi f c=>let⟨a,e,rfl,_⟩:=h;rfl
 |dit f c=>let⟨a,e,rfl,_⟩:=h;rfl
def BC(d e:D)(P:D->Prop):Prop:=match d,e with
 |.lst a,.int i=>∃z,atI a i=P3 z/\P z
 |.tup a,.int i=>∃z,atI a i=P3 z/\P z
 |.str x,.int i=>∃c,atI x.cps.toList i=P3 c/\P (.str ⟨#[c]⟩)
 |_,_=>False
theorem YS{d e:D}{P:D->Prop}(w:BC d e P):(∃a i z,d=.lst a/\e=.int i/\atI a i=P3 z/\P z)\/(∃a i z,d=.tup a/\e=.int i/\atI a i=P3 z/\P z)\/∃x i c,d=.str x/\e=.int i/\atI x.cps.toList i=P3 c/\P (.str ⟨#[c]⟩):=by
 unfold BC at w
 split at w
 ·simp_all
 ·simp_all
 ·simp_all
 grind
theorem Ats.atI{M:Ch->Prop}{H:Hp}{a:s_ D}{b:s_ V}{i:Int}{z:D}(h:Ats K M H a b)(e:atI a i=P3 z):∃v,L2.atI b i=P3 v/\At K M H z v:=by
 unfold L2.atI at e ⊢;rw[h.length];cases q:WG _ i with
 |none=>grind
 |some j=>
  rw[q]at e;exact h.get e
theorem Am:GW K .sh (fe K) BC:=by
 intro U M H d e x y P Q n r f g w q
 rcases YS w with⟨o,i,z,rfl,rfl,h,w⟩|⟨o,i,z,rfl,rfl,h,w⟩|⟨x,i,c,rfl,rfl,p,w⟩
 ·let⟨a,j,rfl,_,k,l⟩:=f
  let⟨v,m,b⟩:=l.atI h;exact .inl ⟨a,j,i,v,rfl,g,.inl k,m,q v H z .refl b w⟩
 ·let⟨a,j,rfl,k,l⟩:=f.tup
  let⟨v,m,b⟩:=l.atI h;exact .inr (.inl ⟨a,j,i,v,rfl,g,k.sq,m,q v H z .refl b w⟩)
 ·exact .inr (.inr ⟨x,i,c,f.str.1,g,f.str.2,p,q _ H (.str _) .refl ⟨rfl,by show 1<=16777216;decide⟩ w⟩)
def cutD{b:Type}(a:s_ b)(c d:t_ Int):s_ b:=(a.drop (HT.sIx a.length 0 c)).take (HT.sIx a.length a.length d - HT.sIx a.length 0 c)
theorem C4{R:V->D->Prop}{a:s_ V}{d:D}(h:Paired R a [d]):∃v,a=[v]/\R v d:=by
 cases h with
 |cons r t=>cases t;grind
def fC:D->t_ Nat
 |.str x=>P3 x.length
 |.tup a=>P3 a.length
 |.lst a=>P3 a.length
 |_=>p_
def Gb(a:s_ D)(P:D->Prop):Prop:=∃d n,a=[d]/\fC d=P3 n/\P (.int (n:Int))
theorem DY:D7 K .sh (λe H Q=>∃x n,e=[x]/\bW K x H n/\Q (.int n) H) Gb:=by
 intro U M H k l P Q i m j w q;let⟨d,n,rfl,b,w⟩:=w;let⟨v,rfl,c⟩:=C4 j;refine⟨v,n,rfl,?_,q _ H (.int _) .refl rfl w⟩;cases d with
 |str z=>cases b;rw[c.str.1];exact⟨c.str.2,rfl⟩
 |tup e=>
  cases b;let⟨a,f,rfl,g,h⟩:=c.tup;exact .inr ⟨f,g.sq,h.length.symm⟩
 |lst e=>
  cases b;let⟨a,f,rfl,_,g,h⟩:=c;exact .inl ⟨f,.inl g,h.length.symm⟩
 |_=>cases b
def allB:s_ D->t_ (s_ Bool)
 |[]=>P3 []
 |.bl b::r=>(allB r).map (b::·)
 |_::_=>p_
theorem Sv{M:Ch->Prop}{H:Hp}:∀{d:s_ D}{a:s_ V}{c:s_ Bool},allB d=P3 c->Ats K M H d a->a=c.map V.bl
 |[],a,c,e,h=>by cases e;exact h
 |.bl b::r,a,c,e,h=>by
  let⟨v,l,f,g,i⟩:=h;let⟨j,k,rfl⟩:=g0.mp e;rw[f,Sv k i,g];rfl
 |.non::r,a,c,e,h=>by cases e
 |.int _::r,a,c,e,h=>by cases e
 |.str _::r,a,c,e,h=>by cases e
 |.tup _::r,a,c,e,h=>by cases e
 |.lst _::r,a,c,e,h=>by cases e
 |.dic _ _::r,a,c,e,h=>by cases e
 |.fdi _ _::r,a,c,e,h=>by cases e
 |.dit _ _::r,a,c,e,h=>by cases e
def OE(c:s_ D)(P:D->Prop):Prop:=∃a b,c=[.lst a]/\allB a=P3 b/\P (.bl (b.all id))
theorem M_:D7 K .sh (λc H Q=>∃(p:Ch) (b:s_ Bool),c=[.ref p]/\SqL K H p (b.map V.bl)/\Q (.bl (b.all id)) H) OE:=by
 intro U M H j k P Q d l f w q;let⟨c,b,rfl,e,w⟩:=w;let⟨v,rfl,g⟩:=C4 f;let⟨a,m,rfl,_,h,i⟩:=g
 have:=Sv e i
 subst this;exact⟨a,b,rfl,.inl h,q _ H (.bl _) .refl rfl w⟩
def QO:s_ D->t_ (s_ Str)
 |[]=>P3 []
 |.str b::r=>(QO r).map (b::·)
 |_::_=>p_
theorem OT{M:Ch->Prop}{H:Hp}:∀{d:s_ D}{a:s_ V}{c:s_ Str},QO d=P3 c->Ats K M H d a->a=c.map V.str
 |[],a,c,e,h=>by cases e;exact h
 |.str b::r,a,c,e,h=>by
  let⟨v,l,f,g,i⟩:=h;let⟨j,k,rfl⟩:=g0.mp e;rw[f,OT k i,g.1];rfl
 |.non::r,a,c,e,h=>by cases e
 |.int _::r,a,c,e,h=>by cases e
 |.bl _::r,a,c,e,h=>by cases e
 |.tup _::r,a,c,e,h=>by cases e
 |.lst _::r,a,c,e,h=>by cases e
 |.dic _ _::r,a,c,e,h=>by cases e
 |.fdi _ _::r,a,c,e,h=>by cases e
 |.dit _ _::r,a,c,e,h=>by cases e
def WW(d:D)(c:s_ D)(P:D->Prop):Prop:=∃(z:Str) (b:s_ D) (a:s_ Str),d=.str z/\c=[.lst b]/\QO b=P3 a/\(a.map (·.length)).sum+a.length*z.length<=16777216/\(Txt.join z a).length<=16777216/\P (.str (Txt.join z a))
theorem bK:eN K .sh "str" (λx c H Q=>∃(z:Str) (p:Ch) (b:s_ Str),x=.str z/\c=[.ref p]/\SqL K H p (b.map V.str)/\(b.map (·.length)).sum+b.length*z.length<=16777216/\Q (.str (Txt.join z b)) H) WW:=by
 intro U M H d m x n P Q f o g h w q;let⟨z,c,b,rfl,rfl,e,i,r,w⟩:=w;let⟨v,rfl,j⟩:=C4 h;let⟨a,s,rfl,_,k,l⟩:=j
 have:=OT e l
 subst this;exact⟨z,a,b,g.str.1,rfl,.inl k,i,q _ H (.str _) .refl ⟨rfl,by assumption⟩ w⟩
def Pz(a:s_ D)(P:D->Prop):Prop:=match a with
 |[.int i]=>P (.int i)
 |[.bl k]=>P (.int (if k then 1 else 0))
 |_=>False
theorem W6:D7 K .sh (λb H Q=>(∃i,b=[.int i]/\Q (.int i) H)\/∃k,b=[.bl k]/\Q (.int (if k then 1 else 0)) H) Pz:=by
 intro U M H e f P Q d g c w q;unfold Pz at w
 split at w
 ·rename_i i
  let⟨v,rfl,a⟩:=C4 c;rw[a.int];exact .inl ⟨i,rfl,q _ H (.int i) .refl rfl w⟩
 ·rename_i k
  let⟨v,rfl,a⟩:=C4 c;rw[a.bl];exact .inr ⟨k,rfl,q _ H (.int _) .refl rfl w⟩
 grind
def RL(b:s_ D)(P:D->Prop):Prop:=match b with
 |[.lst a]=>P (.lst a)
 |[.tup a]=>P (.lst a)
 |_=>False
theorem Yl:D7 K .fr (λi H Q=>∃p c,i=[.ref p]/\(SqL K H p c\/SqT K H p c)/\∀l,H l=p_->Q (.ref l) (A2 H l (.lst c))) RL:=by
 intro U M H k m P Q j n h w q;unfold RL at w
 split at w
 ·let⟨v,rfl,d⟩:=C4 h
  let⟨a,e,rfl,_,f,g⟩:=d;exact⟨a,e,rfl,.inl (.inl f),λl b=>q _ _ _ (Ar b) (C8 b g) w⟩
 ·let⟨v,rfl,d⟩:=C4 h
  let⟨a,e,rfl,f,g⟩:=d.tup;exact⟨a,e,rfl,.inr f.sq,λl b=>q _ _ _ (Ar b) (C8 b g) w⟩
 grind
end
def Xb:D->String
 |.non=>"NoneType"
 |.bl _=>"bool"
 |.int _=>"int"
 |.str _=>"str"
 |.tup _=>"tuple"
 |.lst _=>"list"
 |.dic _ _=>"dict"
 |.fdi _ _=>"dict"
 |.dit _ _=>"dict"
def Ps(t T:String):Bool:=t==T||(t=="bool"&&T=="int")
def NI(T:String)(a:DW):DW:=λn b P=>a n b λd c=>P (.bl (Ps (Xb d) T)) c
structure MK (K:Frag) (T:String):Prop where
 ans:∀t∈["NoneType","bool","int","str","tuple","list","dict"],PySem.W.kitOne K (.type t) (.type T)=P3 (Ps t T)
theorem Rk{K:Frag}{M U:Ch->Prop}{H:Hp}{d:D}{x:V}(h:AtT K U M H d x):Gd K H x (.type (Xb d)):=by
 cases d with
 |non=>cases(h);exact .non
 |bl b=>cases h.bl;exact .bl b
 |int i=>cases h.int;exact .int i
 |str z=>cases h.str.1;exact .str z
 |tup e=>
  let⟨a,f,rfl,c,j⟩:=h.tup;exact .tup c
 |lst e=>
  let⟨a,f,rfl,_,c,j⟩:=h
  rcases c with c|⟨o,c⟩
  ·exact .lst c
  ·exact .frz c
 |dic g e=>
  let⟨a,f,rfl,_,c,_⟩:=h;exact .dK c
 |fdi g e=>
  let⟨a,f,rfl,⟨o,_,c⟩,_⟩:=h;exact .dF c
 |dit g e=>
  let⟨a,f,rfl,_,c,_⟩:=h;exact .dT c
theorem Rl(d:D):Xb d∈["NoneType","bool","int","str","tuple","list","dict"]:=by cases d <;>simp[Xb]
theorem E8{X:Cx}{a:gj}{o:Kd}{l:DW}{T:String}{b:Str}{p c pos:Pos}(r:MK X.K T)(s:DE X a o l)(u:Gl X "isinstance")(x:X.mg "isinstance"=p_)(e:Gl X b)(f:X.mg b=p_)(g:bootBuiltins b=P3 (.type T))
  (h:b ≠ "__name__":=by decide) (i:(b==("__debug__":Str))=r_:=by decide)
  (m:starEach [a,.Name b c] X.env=(r_,eval a X.env)::starEach [.Name b c] X.env:=by rfl) (j:starEach [.Name b c] X.env=[(r_,eval (.Name b c) X.env)]:=by rfl)
  (k:(backTo pos (starEach [.Name b c] X.env)).any (·.1)=r_:=by rfl):DE X (.Call (.Name "isinstance" p) [a,.Name b c] [] pos) .sh (NI T l):=by
 let⟨t,y,z⟩:=s;have A:PE X (.Name b c) (tC (.ty T)):=Nm e f g rfl h i;exact⟨_,Fc QH u x (by decide +kernel) (BF y (BF A B6 j) m) (by decide) (by decide) m k,λC M H n B D P Q R w q=>z C M H n B D _ _ R w λv E d F G I J p=>⟨v,T,_,_,rfl,Rk (J.tpOf R.dom R.vM),r.ans _ (Rl d),q _ E (.bl _) F G I rfl p⟩⟩
section
variable {K:Frag}{X:Cx}
def ZL(d e:D)(P:D->Prop):Prop:=match d,e with
 |.int i,.int j=>P (.int (i+j))
 |.str i,.str j=>i.length+j.length<=sizeLine/\P (.str (i++j))
 |.tup i,.tup j=>i≠[]/\i.length+j.length<=sizeLine/\P (.tup (i++j))
 |.lst i,.lst j=>i.length+j.length<=sizeLine/\P (.lst (i++j))
 |_,_=>False
def cq:R2:=λx y H Q=>∃l b a c,x=.ref l/\y=.ref b/\Rd H l (.lst a)/\Rd H b (.lst c)/\a.length+c.length<=sizeLine/\∀p,H p=p_->Q (.ref p) (A2 H p (.lst (a++c)))
def cn:R2:=λx y H Q=>∃i j,x=.str i/\y=.str j/\i.length+j.length<=sizeLine/\Q (.str (i++j)) H
def Y1(g:Str->Str->Bool):R2:=λx y H Q=>∃i j,x=.str i/\y=.str j/\Q (.bl (g i j)) H
def Va(K:Frag):R2:=λx y H Q=>(JX λi j=>.int (i+j)) x y H Q\/cn x y H Q\/VZ K x y H Q\/cq x y H Q
theorem op_addU:OpR X (binaryOp .Add) (Va X.K):=op_add.or ((Q1).or (op_catT.or (Nn)))
theorem OX:GW X.K .sh (Va X.K) ZL:=λU M H d e x y P Q a b c f w q=>by
 unfold ZL at w
 split at w
 ·exact .inl (W5 U M H _ _ x y P Q a b c f w q)
 ·exact .inr (.inl (Ul U M H _ _ x y P Q a b c f w q))
 ·exact .inr (.inr (.inl (Uk U M H _ _ x y P Q a b c f w q)))
 ·exact .inr (.inr (.inr (JQ U M H _ _ x y P Q a b c f w λv h z g r p=>q v h z g (r.shOf a (by grind)) p)))
 grind
def dJ(d e:D)(P:D->Prop):Prop:=match d,e with
 |.int i,.int j=>P (.bl (decide (i<j)))
 |.str i,.str j=>P (.bl (decide (i.cps.toList<j.cps.toList)))
 |_,_=>False
def Z0:R2:=λx y H Q=>(JX λi j=>.bl (decide (i<j))) x y H Q\/Y1 (λi j=>decide (i.cps.toList<j.cps.toList)) x y H Q
theorem op_ltU:OpR X (compareOp .Lt) Z0:=op_lt.or Tv
theorem ZR:GW X.K .sh Z0 dJ:=λU M H d e x y P Q a b c f w q=>by
 unfold dJ at w
 split at w
 ·exact .inl (OW U M H _ _ x y P Q a b c f w q)
 ·exact .inr (Wz U M H _ _ x y P Q a b c f w q)
 grind
def WV(d e:D)(P:D->Prop):Prop:=match d,e with
 |.int i,.int j=>P (.bl (decide (i<=j)))
 |.str i,.str j=>P (.bl (!(decide (j.cps.toList<i.cps.toList))))
 |_,_=>False
def cX:R2:=λx y H Q=>(JX λi j=>.bl (decide (i<=j))) x y H Q\/Y1 (λi j=>!(decide (j.cps.toList<i.cps.toList))) x y H Q
theorem Qz:OpR X (compareOp .LtE) cX:=op_le.or Tw
theorem W4:GW X.K .sh cX WV:=λU M H d e x y P Q a b c f w q=>by
 unfold WV at w
 split at w
 ·exact .inl (OW U M H _ _ x y P Q a b c f w q)
 ·exact .inr (Wz U M H _ _ x y P Q a b c f w q)
 grind
def ce:R2:=JX λi j=>.bl (decide (j<i))
theorem Q0:OpR X (compareOp .Gt) ce:=ZC
theorem W7:GW X.K .sh ce (f2 λi j=>.bl (decide (j<i))):=OW
def cf:R2:=JX λi j=>.bl (decide (j<=i))
theorem aH:OpR X (compareOp .GtE) cf:=ZD
theorem dU:GW X.K .sh cf (f2 λi j=>.bl (decide (j<=i))):=OW
def cP:V->t_ Int->t_ Int->Hp->VK->Prop:=λx a b H Q=>∃z,x=.str z/\z.length<=sizeLine/\Q (.str (Txt.slice z a b)) H
theorem sl_U:SlR X cP:=Zt
def XZ(w:DW):DW:=λn a P=>w n a λd b=>∃i,d=.int i/\P (.int (-i)) b
theorem RP{a:gj}{c:Kd}{b:DW}{pos:Pos}(h:DE X a c b):DE X (.UnaryOp .USub a pos) .sh (XZ b):=by
 let⟨t,e,f⟩:=h;refine⟨_,cw Zg e,λC M H n g j P Q R w q=>?_⟩;refine f C M H n g j _ _ R w λv k d l m o r p=>?_;let⟨i,rfl,p⟩:=p;exact⟨i,LO r,q _ k (.int _) l m o rfl p⟩
def Got(P:gi)(w:gn)(K:Frag)(c:Str->t_ Db)(a:gf)(x:Str)(k:Nat)(b:s_ Str)(e:Kd)(W:W2):Prop:=
 ∃f fd,A3 P w K c a CA k f fd b (DC K e W b.length)/\c x=P3 (.ref f)/\keepIn K (.ref f)=q_/\Binds K fd b []/\∀d n P,W d n P->d.length=b.length
theorem BI{e:gj}{a:s_ gj}{k:Nat}{h:s_ Str}{g:Kd}{W:W2}{x:Str}{p pos:Pos}{b:XN}(G:Got X.prog X.w X.K X.mg X.base x k h g W)
  (i:Room k X.A) (j:Gl X x) (l:bd X (e::a) b)
  (c:(x==("__debug__":Str))=r_:=by decide) (m:starEach (e::a) X.env=(r_,eval e X.env)::starEach a X.env:=by rfl) (d:(backTo pos (starEach a X.env)).any (·.1)=r_:=by rfl):
  DE X (.Call (.Name x p) (e::a) [] pos) g (AQ W b):=by
 let⟨f,fd,G,n,o,q,r⟩:=G;exact Yh G r i j n o q l c m d
def ZA(b:Nat)(g:s_ D->D):W2:=λc n P=>∃a:s_ D,a.length=b/\c=a.map .sh/\P (g a) n
theorem Tf{a:Nat}{g:s_ D->D}{b:s_ Slot}{n:Nat}{P:D->Nat->Prop}(h:ZA a g b n P):b.length=a:=by
 let⟨c,e,rfl,_⟩:=h
 grind
theorem SR:MK K "int":=⟨λt a=>by
 simp at a
 rcases a with rfl|rfl|rfl|rfl|rfl|rfl|rfl <;>kernel_rfl⟩
theorem WD:MK K "bool":=⟨λt a=>by
 simp at a
 rcases a with rfl|rfl|rfl|rfl|rfl|rfl|rfl <;>kernel_rfl⟩
theorem YE:MK K "str":=⟨λt a=>by
 simp at a
 rcases a with rfl|rfl|rfl|rfl|rfl|rfl|rfl <;>kernel_rfl⟩
theorem kit_tuple:MK K "tuple":=⟨λt a=>by
 simp at a
 rcases a with rfl|rfl|rfl|rfl|rfl|rfl|rfl <;>kernel_rfl⟩
theorem Fl:MK K "list":=⟨λt a=>by
 simp at a
 rcases a with rfl|rfl|rfl|rfl|rfl|rfl|rfl <;>kernel_rfl⟩
end
theorem HF{i:Nat}{f:DW}{P:s_ D->Nat->Prop}{g:D->D}(I:s_ Slot->Prop)(j:∀d a,I a->I (a.set i (.sh d))):
  ∀(c b:s_ D) (n:Nat) (a:s_ Slot),(∀d∈c,∀a n k,I a->k (g d) n->f n (a.set i (.sh d)) k)->I a->P (b++c.map g) n->C5 (Ae i) DB f P c b n a
 |[],b,n,a,_,_,h=>by
  rw[mZ,gq]at h;exact h
 |d::c,b,n,a,l,e,h=>by
  refine l d Op a n _ e ?_;refine HF I j c _ n _ (λd m=>l d (Rs _ m)) (j d a e) ?_
  simp_all
theorem F2{b:Type}(p:b->Bool):∀l:s_ b,allB (l.map λc=>.bl (p c))=P3 (l.map p)
 |[]=>rfl
 |a::l=>by
  rw[g7];unfold allB;rw[F2 p l];rfl
theorem Wu{a b:Bool}{P:D->Nat->Prop}{n:Nat}{k:(D->Nat->Prop)->Prop}(c:a=q_->P (.bl b) n->k P)(h:P (.bl (a&&b)) n):(match (.bl a:D)with|.bl q_=>k P|.bl r_=>P (.bl r_) n|_=>False):=by
 cases a with
 |false=>exact h
 |true=>grind
theorem RJ{P:gi}{w:gn}{K:Frag}{d:Str->t_ Db}{a:gf}{x:Str}{h:gm}{f:Ch}{fd:hU}{k:Nat}{c:s_ Str}{e:Kd}{W:W2}(F:Fun K x x h f fd)(m:d x=P3 (.ref f))(b:Binds K fd c [])
  (i:∀g n P,W g n P->g.length=c.length) (ok:A3 P w K d a CA k f fd c (DC K e W c.length)):Got P w K d a x k c e W:=⟨f,fd,ok,m,F.kp,b,i⟩
def O0(K:Frag):Sp:=λc H Q _=>∃a b,c=[V.ref a]/\(kY (α:=Int) b<=63/\SqL K H a (b.map V.int))/\∀d,Q (.bl q_) d
def NO(K:Frag):Sp:=λe H Q _=>∃a b,e=[V.ref a]/\(kY (α:=Int) b<=63/\SqL K H a (b.map V.int)) /\
 ∀(c f:Ch) (d:Hp),c≠f->d c=P3 (.lst (b.map V.int))->d f=P3 (.lst [.ref c,.int 0,.int 0])->Q (.ref f) d
theorem dP{a:s_ Int}(h:a.length<=63):P_ (a.map V.int) p_ (P3 63)=a.map V.int:=by
 have e:HT.sIx (a.map V.int).length (a.map V.int).length (P3 63)=a.length:=by
  rw[show(63:Int)=(63:Nat)from rfl,HT.sIx_nat,No,Nat.min_eq_right h]
 unfold P_;rw[HT.sIx_none]
 grind
theorem JE{b:BW}{e:AY}{g:E2}(I:Nat->Nat->s_ Slot->Prop)(f:∀n a,I 0 n a->g.nx n a)
  (c:∀(k:Nat) (d:D) (n:Nat) (a:s_ Slot) (nx:Nat->s_ Slot->Prop),I (k+1) n a->(∀i l,I k i l->nx i l)->b d a λm=>e {g with nx:=nx,ct:=nx,bk:=g.nx} n m):
  ∀(j:s_ D) (n:Nat) (a:s_ Slot),I j.length n a->BP b e g j n a
 |[],n,a,h=>f n a h
 |d::j,n,a,h=>c _ d n a _ h λi l o=>JE I f c j i _ o
theorem dE{P:gi}{w:gn}{K:Frag}{J:Str->t_ Db}{u:gf}{C O:gm}{B:s_ gm}{f:Ch}{fd:hU}{D:s_ Str}{k n0:Nat}{T:AY}(F:Fun K "law" "law" C f fd)
  (S:Ac ("_law_script"::"_law_feed_here"::D) ["_law_script"] (AM C)) (L:Bl C=O::B) (Y:n0<=2 ^ 60)
  (Z:∀(n:Db) (A:gw) (l:s_ Env) (s:Go) (H:Hp) (E:XK),Room k (A.deeper (envOfC "law" (AM C) s.heap.objs.size f n))->
   PS (HN CA P w K J u ("_law_script"::"_law_feed_here"::D) "law" (AM C) f n A l s H E).nox O (Ow (VC (NO K) [] E0 (Ro (B3 0) Xi)) (Je 1)))
  (h2:∀(n:Db) (A:gw) (l:s_ Env) (s:Go) (H:Hp) (E:XK),Room k (A.deeper (envOfC "law" (AM C) s.heap.objs.size f n))->
   QU (HN CA P w K J u ("_law_script"::"_law_feed_here"::D) "law" (AM C) f n A l s H E).nox .sh B T)
  (hW:T {nx:=λ_ _=>False,rt:=λd _=>d=.bl q_} n0 (.no::.fd::Uf D.length .no)):A3 P w K J u CA (k+1) f fd ["_law_script"] (O0 K):=by
 refine F.ok S (λvs H Q E h=>?_) (λn A l s H vs Q E U h=>?_)
 ·let⟨a,M,rfl,_⟩:=h
  rfl
 ·let⟨a,M,rfl,⟨W,hS⟩,q⟩:=h
  let⟨t,t1,t2⟩:=h2 n A l s H E U;refine⟨TL (Ow (VC (NO K) [] E0 (Ro (B3 0) Xi)) (Je 1)) t,by rw[L];exact BD (Z n A l s H E U) t1,?_⟩;refine⟨_,rfl,a,M,rfl,⟨W,hS⟩,λc g I G hc X=>?_⟩
  have y:∀(i:Nat) (x:Slot),(Slot.no::Slot.fd::Uf D.length Slot.no)[i]?=P3 x->Slot.no=x\/(Slot.fd=x/\i=1):=by
   intro i x m
   match i,m with
   |0,m=>exact .inl (gW m)
   |1,m=>exact .inr ⟨gW m,rfl⟩
   |i+2,m=>
    rw[mr,mr,kz]at m
    split at m
    ·exact .inl (gW m)
    ·cases m
  have R:Rel K ⟨λb=>b=g,P3 (g,c),λb=>b=g,λb=>b=g,I,[],[]⟩ (λb=>b=g) I n0 (.no::.fd::Uf D.length .no) ((start ("_law_script"::"_law_feed_here"::D) [V.ref a]).set 1 (P3 (.ref g))):=by
   refine⟨by simp[L2.start],λ_ z=>z,λb z=>⟨_,(congrArg I z).trans X⟩,Ext.refl _ _,λb z=>by rw[←gW z],λ_ z=>z,λ_ z=>z,λb z=>?_,λi x m=>?_,λp N=>absurd N (by simp),λi d b m _=>?_,λi x b m o _=>?_,λi j x t b m o _ _ _ _=>?_,λp N=>absurd N (by simp)⟩
   ·have e:(g,c)=b:=gW z
    subst e;exact⟨0,0,M,X,G,⟨G,hc⟩,W,by decide,by omega⟩
   ·rcases y i x m with e|⟨e,rfl⟩
    ·rw[←e];trivial
    ·rw[←e]
     exact⟨(g,c),by simp[L2.start],rfl⟩
   ·rcases y i _ m with e|⟨e,_⟩ <;>cases e
   ·rcases y i x m with e|⟨e,_⟩ <;>(rw[←e]at o;cases o)
   ·rcases y i x m with e|⟨e,_⟩ <;>(rw[←e]at o;cases o)
  refine t2 _ _ I n0 _ _ {nx:=λ_ _=>False,rt:=λd _=>d=.bl q_} _ R ⟨λ_ _ _ _ _ _ z=>z.elim,λv H2 d n' _ _ r p=>?_,λ_ _ _ _ _ _ z=>z.elim,λ_ _ _ _ _ _ z=>z.elim⟩ hW;have e:d=.bl q_:=p;subst e;have e2:v=.bl q_:=r;subst e2;exact q H2
end Dp
namespace L2
section
variable {X:Cx}
theorem Hc:∀{a:s_ Db}{b:s_ Str},StrsAre a b->Vals (b.map V.str) a
 |_,_,.nil=>.nil
 |_,_,.cons x t r=>.cons ⟨t,rfl⟩ (Hc r)
def VX(K:Frag):s_ V->Hp->VK->Prop:=λc H Q=>∃(p:Ch) (b:s_ Str),c=[.ref p]/\SqL K H p (b.map V.str)/\b.length<64/\∀(a:s_ Str) (l:Ch),a.Perm b->sortedS a=q_->H l=p_->Q (.ref l) (A2 H l (.lst (a.map V.str)))
theorem Ll:Co X (.builtin "sorted") (VX X.K):=by
 intro y s A H B C Q I r h;let⟨p,D,rfl,f,g,q⟩:=h;let⟨u,rfl,i⟩:=vals1 r;cases i;let⟨j,c,k,E⟩:=I.list f;have a:=c.length;rw[No]at a;refine sorted_strs k.isList (Ko c) (by omega) λl m n d t=>?_;let⟨e,v⟩:=sortedAll_at _ _ _;have w:=d.length_eq;have x:=I.hok.fresh (iE _);refine⟨.ref _,_,I.laid (λb o z=>sortedAll_old z) (iE _) (show ObjOk _ _ _ _ _ (.lst _)from⟨?_,_,e,Hc n,?_⟩),rfl,q _ _ d t x⟩
 ·grind
 ·exact v
def Y6:R2:=λx y H Q=>∃z k,x=.str z/\y=.int k/\MulOk z k/\Q (.str (Txt.mul z k)) H
theorem X2:OpR X (binaryOp .Mult) Y6:=by
 intro e s f H x y v u Q I a b h;let⟨z,k,rfl,rfl,c,q⟩:=h;let⟨t,rfl⟩:=a;let⟨d,rfl⟩:=b;exact SB.mul c λd k=>⟨.str _,H,I.tok _,⟨_,rfl⟩,q⟩
end
end L2
namespace Dp
open L2
section
variable {K:Frag}
def BY(b:s_ D)(P:D->Prop):Prop:=match b with
 |[.lst a]=>P (.tup a)
 |[.tup a]=>P (.tup a)
 |_=>False
theorem B_:D7 K .sh (λj H Q=>∃p d,j=[.ref p]/\((SqL K H p d/\∀l,H l=p_->Q (.ref l) (A2 H l (.tup d)))\/(SqT K H p d/\Q (.ref p) H))) BY:=by
 intro U M H k m P Q e n h w q;unfold BY at w
 split at w
 ·let⟨v,rfl,f⟩:=C4 h
  let⟨a,b,rfl,_,c,g⟩:=f;exact⟨a,b,rfl,.inl ⟨.inl c,λl i=>q _ _ (.tup _) (Ar i) (C7 e i g) w⟩⟩
 ·let⟨v,rfl,f⟩:=C4 h
  let⟨a,b,rfl,c,g⟩:=f.tup;exact⟨a,b,rfl,.inr ⟨c.sq,q _ H (.tup _) .refl ⟨a,b,rfl,c,g⟩ w⟩⟩
 grind
theorem Ats.strs{M:Ch->Prop}{H:Hp}:∀{a:s_ Str},(∀x∈a,x.length<=sizeLine)->Ats K M H (a.map D.str) (a.map V.str)
 |[],_=>rfl
 |x::r,h=>⟨_,_,rfl,⟨rfl,h x Op⟩,Ats.strs λy b=>h y (Rs _ b)⟩
theorem Ats.strs_le{M:Ch->Prop}{H:Hp}:∀{b:s_ Str}{c:s_ V},Ats K M H (b.map D.str) c->∀x∈b,x.length<=sizeLine
 |[],_,_=>λx a=>by cases a
 |y::r,c,h=>λx a=>by
  let⟨v,t,e,d,f⟩:=h
  rcases TW.mp a with rfl|a
  ·exact d.2
  ·exact Ats.strs_le f x a
def LV(d:s_ D)(P:D->Prop):Prop:=∃(c:s_ D) (b:s_ Str),d=[.lst c]/\QO c=P3 b/\b.length<64/\∀a:s_ Str,a.Perm b->sortedS a=q_->P (.lst (a.map .str))
theorem Su:∀{c:s_ D}{a:s_ Str},QO c=P3 a->c=a.map .str
 |[],a,h=>by cases h;rfl
 |.str b::r,a,h=>by
  let⟨t,e,rfl⟩:=g0.mp h;rw[g7,←Su e]
 |.non::r,a,h=>by cases h
 |.int _::r,a,h=>by cases h
 |.bl _::r,a,h=>by cases h
 |.tup _::r,a,h=>by cases h
 |.lst _::r,a,h=>by cases h
 |.dic _ _::r,a,h=>by cases h
 |.fdi _ _::r,a,h=>by cases h
 |.dit _ _::r,a,h=>by cases h
theorem Sx:D7 K .fr (VX K) LV:=by
 intro U M H p r P Q h s i w q;let⟨t,j,rfl,e,b,w⟩:=w;let⟨v,rfl,c⟩:=C4 i;let⟨a,u,rfl,_,k,d⟩:=c
 have:=OT e d
 subst this;have m:=Su e;subst m;exact⟨a,j,rfl,.inl k,b,λn l f o g=>q _ _ _ (Ar g) (C8 g (Ats.strs λx c=>d.strs_le x (f.mem_iff.mp c))) (w _ f o)⟩
def Cf(d e:D)(P:D->Prop):Prop:=match d,e with
 |.int i,.int j=>CMul i j/\P (.int (i*j))
 |.str z,.int k=>MulOk z k/\(Txt.mul z k).length<=sizeLine/\P (.str (Txt.mul z k))
 |_,_=>False
def Y7:R2:=λx y H Q=>(rI CMul λi j=>.int (i*j)) x y H Q\/Y6 x y H Q
theorem C1{X:Cx}:OpR X (binaryOp .Mult) Y7:=op_mul.or X2
theorem EW:GW K .sh Y7 Cf:=λU M H d e x y P Q a f b c w q=>by
 unfold Cf at w
 split at w
 ·exact .inl (DL U M H _ _ x y P Q a f b c w q)
 ·rename_i z k
  exact .inr ⟨z,k,b.1,c,w.1,q _ H (.str _) .refl ⟨rfl,w.2.1⟩ w.2.2⟩
 grind
end
section
variable {X:Cx}{tg e e2:Expr}{es:s_ Expr}{ws:D8}{p pos:Pos}
def Ys(ws:D8):D8:=λn a P=>ws n a λb c=>∃i j:Int,b=[.int i,.int j]/\(-(2 ^ 62)<=i/\i<2 ^ 62/\-(2 ^ 62)<=j/\j<2 ^ 62)/\P (Dq i (j - i).toNat) c
theorem UY(d:Gl X "range")(f:X.mg "range"=p_)(g:XQ X [e,e2] ws)(h:starEach [e,e2] X.env=[(r_,eval e X.env),(r_,eval e2 X.env)]:=by rfl)(a:starEach [e2] X.env=[(r_,eval e2 X.env)]:=by rfl):DI X tg (.Call (.Name "range" p) [e,e2] [] pos) (Ys ws):=by
 let⟨t,k,l⟩:=g;refine⟨_,Ti d f k h a,λC M H n m o P D R w q=>?_⟩;refine l C M H n m o _ _ R w λE s F u v x y p=>?_;let⟨i,j,rfl,z,p⟩:=p;cases y with
 | cons r b=>
  cases b with
  |cons A b=>
   cases b;have B:=r;have c:=A;exact⟨i,j,by rw[B,c],z,q _ s _ u v x HY p⟩
def eP(X:Cx)(i:s_ gj)(b:s_ D->s_ Slot->(s_ Slot->Prop)->Prop):Prop:=∃g,de X i g/\∀(C:Fm) (M:Ch->Prop) (H:Hp) (n:Nat) (a:s_ Slot) (c:L2.St) (d:s_ D) (e:s_ V) (P:s_ Slot->Prop) (Q:L2.St->Hp->Prop),Rel X.K C M H n a c->Ats X.K M H d e->b d a P->
 (∀f h,Rel X.K C M H n f h->P f->Q h H)->g e c H Q
def Ck:s_ D->s_ Slot->(s_ Slot->Prop)->Prop:=λa b P=>a=[]/\P b
def As(b:BW)(bs:s_ D->s_ Slot->(s_ Slot->Prop)->Prop):s_ D->s_ Slot->(s_ Slot->Prop)->Prop:=λa c P=>match a with
 |d::r=>b d c λe=>bs r e P
 |[]=>False
theorem C2:eP X [] Ck:=⟨_,R9,λC M H n a b c d P Q R h w q=>by
 let⟨rfl,w⟩:=w;exact⟨h,q a b R w⟩⟩
theorem A6{b:BW}{bs:s_ D->s_ Slot->(s_ Slot->Prop)->Prop}(c:DG X e b)(f:eP X es bs)(i:(assignEach (e::es) X.env).map (·.2)=assign e X.env::(assignEach es X.env).map (·.2):=by rfl):eP X (e::es) (As b bs):=by
 let⟨g,j,k⟩:=c;let⟨A,l,m⟩:=f;refine⟨_,Hm j l i,λC M H n o s t B P Q R h w q=>?_⟩;cases t with
 |nil=>exact w.elim
 |cons d r=>
  let⟨v,a,e,u,x⟩:=h;exact⟨v,a,e,k C M H n o s d v _ _ R u w λE F y z=>m C M H n _ _ r a _ _ y x z q⟩
def E_(k:Nat)(bs:s_ D->s_ Slot->(s_ Slot->Prop)->Prop):BW:=λd b P=>match d with
 |.tup a=>a.length=k/\bs a b P
 |_=>False
theorem ET{bs:s_ D->s_ Slot->(s_ Slot->Prop)->Prop}{k:Nat}{j:Nat}(f:X.calm=q_)(h:eP X es bs)(i:(assignEach es X.env).length=k:=by rfl)(b:(assignEach es X.env).findIdx? (·.1)=p_:=by rfl):DG X (.Tuple es j pos) (E_ k bs):=by
 let⟨g,l,m⟩:=h;refine⟨_,Vn f l i b,λC M H n o r d v P Q R h w q=>?_⟩;cases d with
 |tup s=>
  let⟨a,c,rfl,t,e⟩:=h;exact⟨a,c,rfl,t.sq,by rw[e.length];exact w.1,m C M H n o r s c P Q R e w.2 q⟩
 |_=>exact w.elim
def bz(c:DW)(b:BW):AY:=λe n a=>c n a λd f=>b d a λg=>e.nx f g
theorem aq{k a:Kd}{c:DW}{b:BW}(l:DE X e a c)(m:DG X tg b)(o:a≠.tp:=by intro z;cases z)(q:swapsWithSole [tg] e pos.line X.env=pure r_:=by rfl)(r:swappedStores [tg] e X.env=pure p_:=by rfl)
  (s:(assignEach [tg] X.env).map (·.2)=[assign tg X.env]:=by rfl):DS X k (.Assign [tg] e pos) (bz c b):=by
 let⟨t,u,x⟩:=l;let⟨g,y,A⟩:=m;exact⟨_,Nh u y q r s,λC M H n f h J E R L w=>x C M H n f h _ _ R w λv i d j B D F p=>A C M i j f h d v _ _ (R.step B D) (F.shOf R.dom o) p λK N G I=>L.nx M i j _ _ G I⟩
end
end Dp
namespace L2
mutual
def RV(H:Hp):ja->V->Prop
 |.none,v=>v=.non
 |.bool b,v=>v=.bl b
 |.int i,v=>v=.int i
 |.str x,v=>v=.str x
 |.tuple xs,v=>∃a vs,v=.ref a/\H a=P3 (.tup vs)/\RVs H xs vs
 |.list xs,v=>∃a vs,v=.ref a/\Rd H a (.lst vs)/\RVs H xs vs
 |.dict _,_=>False
def RVs(H:Hp):s_ ja->s_ V->Prop
 |[],vs=>vs=[]
 |x::xs,vs=>∃v r,vs=v::r/\RV H x v/\RVs H xs r
end
section
variable {X:Cx}{zH:s_ (Addr×Obj)}{σ:L2.St}{H:Hp}{s:Shared}
mutual
theorem RV.reads(I:Inv X zH σ H s):∀{d:ja}{v:V}{u:Db},RV H d v->RelV v u->∃as,Reads s.heap u d as
 |.none,v,u,h,r=>by
  cases(show v=.non from h);cases(show u=g8 from r);exact⟨_,.none⟩
 |.bool b,v,u,h,r=>by
  cases(show v=.bl b from h);cases(show u=kn b from r);exact⟨_,.bool b⟩
 |.int i,v,u,h,r=>by
  cases(show v=.int i from h);let⟨t,rfl⟩:=r;exact⟨_,.int i t⟩
 |.str x,v,u,h,r=>by
  cases(show v=.str x from h);let⟨t,rfl⟩:=r;exact⟨_,.str x t⟩
 |.tuple xs,v,u,h,r=>by
  let⟨a,vs,rfl,hq,hs⟩:=h;cases r;let⟨its,rv,⟨o,e,c,n,d⟩,_⟩:=I.tuple (X:=X) (xs:=vs) (.inl (.inl hq));let⟨as,ra⟩:=RVs.reads I hs rv;exact⟨_,.tuple e c d ra⟩
 |.list xs,v,u,h,r=>by
  let⟨a,vs,rfl,hq,hs⟩:=h;cases r;let⟨its,rv,pl,_⟩:=I.list (X:=X) (xs:=vs) (.inl hq);let⟨o,e,c,n,d⟩:=pl.isList;let⟨as,ra⟩:=RVs.reads I hs rv;exact⟨_,.list e c d ra⟩
 |.dict _,v,u,h,r=>h.elim
theorem RVs.reads(I:Inv X zH σ H s):∀{ds:s_ ja}{vs:s_ V}{us:s_ Db},RVs H ds vs->Vals vs us->∃as,ReadsAll s.heap us ds as
 |[],vs,us,h,r=>by
  cases(show vs=[]from h);cases r;exact⟨_,.nil⟩
 | d::ds,vs,us,h,r=>by
  let⟨v,w,rfl,h1,h2⟩:=h;cases r with
  |cons r1 r2=>
   let⟨as,a1⟩:=RV.reads I h1 r1;let⟨bs,a2⟩:=RVs.reads I h2 r2;exact⟨_,.cons a1 a2⟩
end
end
theorem RV.noDict{H:Hp}:∀(d:ja) (v:V),RV H d v->d.hasDict=r_
 | d,v,h=>by
  have k:∀(n:Nat),(∀(d:ja) (v:V),sizeOf d<=n->RV H d v->d.hasDict=r_)/\∀(c:s_ ja) (e:s_ V),sizeOf c<=n->RVs H c e->mL c=r_:=by
   intro n
   induction n with
   |zero=>
    refine⟨λd v h _=>?_,λc e h _=>?_⟩
    ·cases d <;>simp at h
    ·cases c <;>simp at h
   | succ n j=>
    refine⟨λd v h f=>?_,λc e h f=>?_⟩
    ·cases d with
     |tuple g=>
      let⟨a,e,_,_,l⟩:=f;simp only[kJ]
      grind
     |list g=>
      let⟨a,e,_,_,l⟩:=f;simp only[kJ]
      grind
     |dict m=>exact(show False from f).elim
     |none=>simp only[kJ]
     |bool b=>simp only[kJ]
     |int i=>simp only[kJ]
     |str x=>simp only[kJ]
    ·cases c with
     |nil=>simp only[mL]
     |cons x g=>
      let⟨v,w,_,o,p⟩:=f;simp only[mL,j.1 x v (by simp at h;omega) o,j.2 g w (by simp at h;omega) p,Bool.or_false]
  exact(k (sizeOf d)).1 d v (On _) h
section
variable {X:Cx}
def Y5:s_ V->Hp->VK->Prop:=λa H Q=>∃x d,a=[x]/\RV H d x/\d.showable=q_/\d.depth<=100/\d.shown.length<=sizeLine/\Q (.str d.shown) H
theorem Mt{k:Nat}(g:Room k X.A):Co X (.builtin "repr") Y5:=by
 intro B s C H D E Q I r h;let⟨x,d,rfl,c,j,F,l,q⟩:=h;let⟨u,rfl,f⟩:=vals1 r;have G:=g.un;cases d with
 |none=>
  cases(show x=.non from c);cases(show u=g8 from f);exact PySem.P.repr_of_none ⟨.str _,H,I.tok _,⟨_,rfl⟩,q⟩
 |bool b=>
  cases(show x=.bl b from c);cases(show u=kn b from f);refine PySem.P.repr_of_bool ⟨.str _,H,I.tok _,⟨_,rfl⟩,?_⟩
  assumption
 |int i=>
  cases(show x=.int i from c);let⟨t,rfl⟩:=f;refine PySem.P.repr_of_int (by simpa [PyData.showable]using j) ⟨.str _,H,I.tok _,⟨_,rfl⟩,q⟩
 |str z=>
  cases(show x=.str z from c);let⟨t,rfl⟩:=f;exact PySem.P.repr_of_str ⟨.str _,H,I.tok _,⟨_,rfl⟩,q⟩ l
 |tuple p=>
  let⟨v,m⟩:=RV.reads I c f;let⟨a,w,rfl,_⟩:=id c;cases f;refine repr_of_reads' m j (PyData.noDict_hsm (RV.noDict _ _ c)) g.gd (by omega) (λ_ _ e=>e) (λy u n o=>⟨.str _,H,I.kept (t':=n) o,⟨_,rfl⟩,q⟩) l
 |list p=>
  let⟨v,m⟩:=RV.reads I c f;let⟨a,w,rfl,_⟩:=id c;cases f;refine repr_of_reads' m j (PyData.noDict_hsm (RV.noDict _ _ c)) g.gd (by omega) (λ_ _ e=>e) (λy u n o=>⟨.str _,H,I.kept (t':=n) o,⟨_,rfl⟩,q⟩) l
 |dict _=>exact(show False from c).elim
def ci:R2:=λx y H Q=>∃d e,RV H d x/\RV H e y/\d.canLay0=q_/\e.canLay0=q_/\d.depth<=100/\Q (.bl (iF d e)) H
theorem V0{k:Nat}(a:Room k X.A):OpR X (compareOp .Eq) ci:=by
 intro n s o H x y v u Q I b c h;let⟨d,e,f,g,i,j,p,q⟩:=h;let⟨r,l⟩:=RV.reads I f b;let⟨t,m⟩:=RV.reads I g c;have w:=a.un;have z:min _ e.depth<=d.depth:=Nat.min_le_left _ _;exact PySem.SeqAt.compareEq_reads l m i j (by omega) ⟨.bl _,H,I,rfl,q⟩
def Z2(b:Bool):R2:=λx y H Q=>∃d a,RV H d x/\(RV H (.list a) y\/RV H (.tuple a) y)/\d.canLay0=q_/\jE a=q_/\d.depth<=100/\Q (.bl (if b then !(a.any λy=>iF y d)else a.any λy=>iF y d)) H
theorem I_{k:Nat}(i:Room k X.A):OpR X (compareOp .In) (Z2 r_):=by
 intro o s p H x y v u Q I j c h;let⟨d,l,m,a,e,f,r,q⟩:=h;let⟨t,g⟩:=RV.reads I m j;have w:=i.un;have z:min (im l) _<=d.depth:=kN _ _
 rcases a with a|a
 ·let⟨n,b⟩:=RV.reads I a c
  exact PySem.SeqAt.in_list_reads b g f e (by omega) ⟨.bl _,H,I,rfl,q⟩
 ·let⟨n,b⟩:=RV.reads I a c
  exact PySem.SeqAt.in_tuple_reads b g f e (by omega) ⟨.bl _,H,I,rfl,q⟩
theorem Tt{k:Nat}(i:Room k X.A):OpR X (compareOp .NotIn) (Z2 q_):=by
 intro o s p H x y v u Q I j c h;let⟨d,l,m,a,e,f,r,q⟩:=h;let⟨t,g⟩:=RV.reads I m j;have w:=i.un;have z:min (im l) _<=d.depth:=kN _ _
 rcases a with a|a
 ·let⟨n,b⟩:=RV.reads I a c
  exact PySem.SeqAt.notIn_list_reads b g f e (by omega) ⟨.bl _,H,I,rfl,q⟩
 ·let⟨n,b⟩:=RV.reads I a c
  exact PySem.SeqAt.notIn_tuple_reads b g f e (by omega) ⟨.bl _,H,I,rfl,q⟩
end
end L2
namespace Dp
open L2
mutual
def toPy:D->ja
 |.non=>.none
 |.bl b=>.bool b
 |.int i=>.int i
 |.str x=>.str x
 |.tup ds=>.tuple (Be ds)
 |.lst ds=>.list (Be ds)
 |.dic _ _=>.dict []
 |.fdi _ _=>.dict []
 |.dit _ _=>.dict []
def Be:s_ D->s_ ja
 |[]=>[]
 |d::ds=>toPy d::Be ds
end
mutual
def FF:D->Bool
 |.tup ds=>Cd ds
 |.lst ds=>Cd ds
 |.dic _ _=>r_
 |.fdi _ _=>r_
 |.dit _ _=>r_
 |_=>q_
def Cd:s_ D->Bool
 |[]=>q_
 |d::ds=>FF d&&Cd ds
end
theorem CU(a:s_ D):Be a=a.map toPy:=by
 induction a with
 |nil=>rfl
 |cons d r b=>rw[Be,b,g7]
section
variable {K:Frag}{M:Addr->Prop}{H:Hp}
mutual
theorem At.rv:∀{d:D}{v:V},At K M H d v->FF d=q_->RV H (toPy d) v
 |.non,v,h,_=>h
 |.bl b,v,h,_=>h
 |.int i,v,h,_=>h
 |.str x,v,h,_=>h.1
 |.tup ds,v,h,n=>by
  let⟨a,vs,e,hn,hs⟩:=h;exact⟨a,vs,e,hn,Ats.rv hs n⟩
 |.lst ds,v,h,n=>by
  let⟨a,vs,e,hn,hs⟩:=h;exact⟨a,vs,e,.inl hn.2,Ats.rv hs n⟩
 |.dic ks ds,v,h,n=>by cases n
 |.fdi ks ds,v,h,n=>by cases n
 |.dit ks ds,v,h,n=>by cases n
theorem Ats.rv:∀{ds:s_ D}{vs:s_ V},Ats K M H ds vs->Cd ds=q_->RVs H (Be ds) vs
 |[],vs,h,_=>h
 |d::ds,vs,h,n=>by
  let⟨v,r,e,h1,h2⟩:=h;have n':(FF d&&Cd ds)=q_:=n;rw[gX]at n';exact⟨v,r,e,At.rv h1 n'.1,Ats.rv h2 n'.2⟩
end
theorem AtT.rv{U:Ch->Prop}{d:D}{v:V}(h:AtT K U M H d v)(n:FF d=q_):RV H (toPy d) v:=by
 cases d with
 |lst c=>
  let⟨a,g,e,_,j,k⟩:=h;exact⟨a,g,e,j,Ats.rv k n⟩
 |dic f c=>cases n
 |fdi f c=>cases n
 |dit f c=>cases n
 |non=>exact h
 |bl b=>exact h
 |int i=>exact h
 |str x=>exact h.1
 |tup c=>exact At.rv h n
def Rq(d:D):Prop:=FF d=q_/\(toPy d).showable=q_/\(toPy d).depth<=100/\(toPy d).shown.length<=sizeLine
def VI(d:D):Str:=(toPy d).shown
def WT(a:s_ D)(P:D->Prop):Prop:=∃d,a=[d]/\Rq d/\P (.str (VI d))
theorem W0:D7 K .sh Y5 WT:=by
 intro U M H f g P Q b h c w q;let⟨d,rfl,a,w⟩:=w;let⟨v,rfl,e⟩:=C4 c;exact⟨v,_,rfl,e.rv a.1,a.2.1,a.2.2.1,a.2.2.2,q _ H (.str _) .refl ⟨rfl,a.2.2.2⟩ w⟩
def Ce(d:D):Prop:=FF d=q_/\(toPy d).canLay0=q_/\(toPy d).depth<=100
def FN(d e:D):Bool:=iF (toPy d) (toPy e)
def ah(d e:D)(P:D->Prop):Prop:=Ce d/\Ce e/\P (.bl (FN d e))
theorem ZT:GW K .sh ci ah:=λU M H d e x y P Q a f b c w q=>
 ⟨_,_,b.rv w.1.1,c.rv w.2.1.1,w.1.2.1,w.2.1.2.1,w.1.2.2,q _ H (.bl _) .refl rfl w.2.2⟩
def Ip:D->t_ (s_ D)
 |.lst a=>P3 a
 |.tup a=>P3 a
 |_=>p_
def LW(a:Bool)(d e:D)(P:D->Prop):Prop:=Ce d/\Ce e/\∃b,Ip e=P3 b/\P (.bl (if a then !(b.any λy=>FN y d)else b.any λy=>FN y d))
theorem Lu{c:Bool}:GW K .sh (Z2 c) (LW c):=λU M H d e x y P Q k m i j w q=>by
 let⟨b,f,g,h,w⟩:=w;have a:∀g:s_ D,(g.map _).any (λy=>iF y _)=g.any λy=>FN y d:=λg=>by rw[List.any_map];rfl
 cases e with
 |lst l=>
  cases h;exists _,_,i.rv b.1,.inl (j.rv f.1),b.2.1,by simpa [toPy,PyData.canLay0]using f.2.1,b.2.2;rw[CU,a];exact q _ H (.bl _) .refl rfl w
 |tup l=>
  cases h;exists _,_,i.rv b.1,.inr (j.rv f.1),b.2.1,by simpa [toPy,PyData.canLay0]using f.2.1,b.2.2;rw[CU,a];exact q _ H (.bl _) .refl rfl w
 |_=>cases h
def YO(d e:D)(P:D->Prop):Prop:=Ce d/\Ce e/\P (.bl (!FN d e))
end
end Dp
namespace L2
def cT:R2:=λx y H Q=>∃d e,RV H d x/\RV H e y/\d.canLay0=q_/\e.canLay0=q_/\d.depth<=100/\Q (.bl (!PyData.eqv d e)) H
theorem Qy{X:Cx}{k:Nat}(a:Room k X.A):OpR X (compareOp .NotEq) cT:=by
 intro n s o H x y v u Q I b c h;let⟨d,e,f,g,i,j,p,q⟩:=h;let⟨r,l⟩:=RV.reads I f b;let⟨t,m⟩:=RV.reads I g c;have w:=a.un;have z:min _ e.depth<=d.depth:=Nat.min_le_left _ _;exact PySem.SeqAt.compareNe_reads l m i j (by omega) ⟨.bl _,H,I,rfl,q⟩
end L2
namespace Dp
open L2
theorem W1{K:Frag}:GW K .sh cT YO:=λU M H d e x y P Q a f b c w q=>
 ⟨_,_,b.rv w.1.1,c.rv w.2.1.1,w.1.2.1,w.2.1.2.1,w.1.2.2,q _ H (.bl _) .refl rfl w.2.2⟩
end Dp
namespace L2
def kOf:Key->V
 |.inl i=>.int i
 |.inr x=>.str x
def eE:Key->Key->Bool
 |.inl i,.inl j=>decide (i<j)
 |.inr x,.inr y=>decide (x.cps.toList<y.cps.toList)
 |_,_=>r_
def MV:Key->Key->Bool
 |.inl _,.inl _=>q_
 |.inr _,.inr _=>q_
 |_,_=>r_
def GY:s_ Key->s_ Key->Bool
 |[],[]=>r_
 |[],_::_=>q_
 |_::_,[]=>r_
 |x::a,y::b=>if x=y then GY a b else eE x y
def CO:s_ Key->s_ Key->Bool
 |x::a,y::b=>MV x y&&CO a b
 |_,_=>q_
theorem Wc{A:gw}{s:Go}{x y:Key}{u v:Db}(a:RelV (kOf x) u)(b:RelV (kOf y) v):∃e,SeqAt.EqAt A s u v e/\(e=q_↔x=y):=by
 cases x with
 |inl i=>
  cases y with
  |inl j=>exact⟨_,OF a b rfl rfl,by simp[kOf,dM]⟩
  |inr z=>exact⟨_,OF a b rfl rfl,by simp[kOf,dM]⟩
 |inr z=>
  cases y with
  |inl j=>exact⟨_,OF a b rfl rfl,by simp[kOf,dM]⟩
  |inr c=>exact⟨_,OF a b rfl rfl,by simp[kOf,dM]⟩
theorem VU(A:gw)(s:Go){x y:Key}{u v:Db}(b:RelV (kOf x) u)(c:RelV (kOf y) v)(d:MV x y=q_)(a:gi)(w:gn)(E:Db->Go->Prop)(Q:Db->Go->Prop)(h:Q (.bool (eE x y)) s):
  wpAny (model a w) A (richCompare .Lt u v) Q E s:=by
 cases x with
 | inl i=>
  cases y with
  |inl j=>
   let⟨t,rfl⟩:=b;let⟨e,rfl⟩:=c;exact m9 h
  |inr z=>cases d
 | inr z=>
  cases y with
  |inl j=>cases d
  |inr f=>
   let⟨t,rfl⟩:=b;let⟨e,rfl⟩:=c;exact PySem.P.lt_str h
section
open PySem.SeqAt
open PySem.AutoSeq1 (wpAny_loadPart')
open PySem.MeetsSeq PySem.MeetsSeq2 PySem.MeetsSeq3
theorem Gh(l b:Ch)(items items2:Array Db)(n n2:Nat)(dd dd2:t_ Ch)(sl sl2:Array (t_ Db))(ns ms:s_ Key)(hi:Vals (ns.map kOf) items.toList)(hj:Vals (ms.map kOf) items2.toList)(hsame:CO ns ms=q_):
  Meets (kI.«tuple.__lt__» ⟨[.ref l,.ref b],[]⟩)
   (λ_ R s=>s.heap.get? l=P3 {cls:=.type "tuple",dict:=dd,data:=.seq items n,slots:=sl}/\s.heap.get? b=P3 {cls:=.type "tuple",dict:=dd2,data:=.seq items2 n2,slots:=sl2} /\
    R (.ok (.ret (.bool (GY ns ms)))) s):=
 .of_wp λprog w A R s h=>by
  let⟨hp,g,d,tk,os⟩:=s;let⟨hl,hb,h⟩:=h
  have f2:=AutoSeq1.sub_tuple_tuple;have z1:items.size=ns.length:=by have:=hi.length;rw[No]at this;rw[this];simp
  have z2:items2.size=ms.length:=by have:=hj.length;rw[No]at this;rw[this];simp
  wp_walk using iU hl,iU hb,wpAny_forIn_list _ (λrest b s'=>b.1=p_/\s'=⟨hp,g,d,tk,os⟩/\∃(vs ws:s_ Db) (ns' ms':s_ Key),rest=vs.zip ws /\
   Vals (ns'.map kOf) vs/\Vals (ms'.map kOf) ws/\CO ns' ms'=q_/\ns'.length+items2.size=ms'.length+items.size/\R (.ok (.ret (.bool (GY ns' ms')))) ⟨hp,g,d,tk,os⟩) _
  case turn=>
   rintro⟨y,x⟩ rest b s' ⟨hb',rfl,vs,ws,ns',ms',hz,hvi,hwi,hsm,hlen,hR⟩;cases ns' with
   |nil=>cases hvi;rw[List.zip_nil_left]at hz;cases hz
   | cons a ns'=>
    cases ms' with
    |nil=>cases hwi;rw[List.zip_nil_right]at hz;cases hz
    | cons c ms'=>
     rw[g7]at hvi hwi;cases hvi with
     | cons ra hvi'=>
      cases hwi with
      | cons rc hwi'=>
       rw[lz]at hz;injection hz with hyx hrest
       injection hyx with hy hx
       subst hy hx;have hR':R (.ok (.ret (.bool (if a=c then GY ns' ms' else eE a c)))) ⟨hp,g,d,tk,os⟩:=hR;have hsm':(MV a c&&CO ns' ms')=q_:=hsm;rw[gX]at hsm';simp only[gS]at hlen;let⟨e,he,hiff⟩:=Wc (A:=A.in1) (s:=⟨hp,g,d,tk,os⟩) ra rc;refine Cn (he prog w _ _ ?_);cases e with
       |true=>
        rw[if_pos (hiff.mp rfl)]at hR'
        wp_walk
        exact⟨rfl,rfl,_,_,_,_,hrest,hvi',hwi',hsm'.2,by omega,hR'⟩
       |false=>
        rw[if_neg (λq=>absurd (hiff.mpr q) gh)]at hR';have hri:=VU A.in1 ⟨hp,g,d,tk,os⟩ ra rc hsm'.1 prog w
        wp_walk using hri
        exact⟨_,rfl,by simpa using hR'⟩
  case fin=>
   rintro⟨b1,b2⟩ s' ⟨hb',rfl,vs,ws,ns',ms',hz,hvi,hwi,hsm,hlen,hR⟩;simp only at hb';subst hb'
   have hv:GY ns' ms'=decide (items.size<items2.size):=by
    cases ns' with
    | nil=>
     cases ms' with
     |nil=>
      simp only[ik]at hlen;exact(decide_eq_false (by omega)).symm
     |cons c u=>
      simp only[ik,gS]at hlen;exact(decide_eq_true (by omega)).symm
    | cons a t=>
     cases ms' with
     |nil=>
      simp only[ik,gS]at hlen;exact(decide_eq_false (by omega)).symm
     |cons c u=>
      rw[g7]at hvi hwi;cases hvi;cases hwi;rw[lz]at hz;cases hz
   rw[hv]at hR
   wp_walk
   exact⟨_,rfl,by simpa [Builtin.Tuple.tupleCompareSizes]using hR⟩
  case h=>
   exact⟨rfl,rfl,items.toList,items2.toList,ns,ms,rfl,hi,hj,hsame,by omega,h⟩
end
section
variable {X:Cx}
def cU(K:Frag):R2:=λx y H Q=>∃a b c d,x=.ref a/\y=.ref b/\SqT K H a (c.map kOf)/\SqT K H b (d.map kOf)/\CO c d=q_/\Q (.bl (GY c d)) H
theorem aG(m:X.A.units<cLine):OpR X (compareOp .Lt) (cU X.K):=by
 intro T s U H x y v u Q I o p h;let⟨a,b,r,t,rfl,rfl,w,z,d,q⟩:=h;cases o;cases p;let⟨B,C,D,_⟩:=I.tuple w;let⟨i,E,G,_⟩:=I.tuple z;let⟨⟨J,L,j,M⟩,k,N,n,O⟩:=id D;let⟨⟨l,P,e,R⟩,c,f,S,g⟩:=id G;subst N O f g
 exact richCompare_meets_room (op:=.Lt) ⟨_,k,rfl⟩ ⟨_,c,rfl⟩ PySem.F.slot_tuple_lt PySem.F.entry_tuple_lt (PySem.F.args_tuple_lt_2 _ _) (Gh a b _ _ n S L _ M _ r t C E d)
  ⟨k,c,⟨(λx=>nomatch x),⟨.bl _,H,I,rfl,q⟩⟩⟩ m
end
def ItAt(b:Bool)(h:gf)(a l:Ch)(k:Nat):Prop:=match b with
 |true=>h.IsListIter a l k
 |false=>h.IsTupleIter a l k
def SqAt(b:Bool)(h:gf)(l:Ch)(a:Array Db):Prop:=match b with
 |true=>h.IsList l a
 |false=>h.IsTuple l a
section
variable {κ:Bool}{h h':Heap}{it l b:Addr}{k:Nat}{items:Array Value}
theorem ItAt.mv(x:ItAt κ h it l k)(e:∀o,h.get? it=P3 o->h'.get? it=P3 o):ItAt κ h' it l k:=by
 cases κ with
 |true=>let⟨o,a,r⟩:=x;exact⟨o,e o a,r⟩
 |false=>let⟨o,a,r⟩:=x;exact⟨o,e o a,r⟩
theorem SqAt.mv(x:SqAt κ h l items)(e:∀o,h.get? l=P3 o->h'.get? l=P3 o):SqAt κ h' l items:=by
 cases κ with
 |true=>let⟨o,a,r⟩:=x;exact⟨o,e o a,r⟩
 |false=>let⟨o,a,r⟩:=x;exact⟨o,e o a,r⟩
theorem ItAt.eb(x:ItAt κ h it l k)(a:Heap.ExtBut b h h')(n:it≠b):ItAt κ h' it l k:=x.mv λo e=>a it o n e
theorem SqAt.eb(x:SqAt κ h l items)(a:Heap.ExtBut b h h')(n:l≠b):SqAt κ h' l items:=x.mv λo e=>a l o n e
theorem ItAt.lies(x:ItAt κ h it l k):∃o,h.get? it=P3 o/\∀v,o.data≠.cell v:=by
 cases κ with
 |true=>let⟨o,a,_,d⟩:=x;simp_all
 |false=>let⟨o,a,_,d⟩:=x;simp_all
theorem SqAt.lies(x:SqAt κ h l items):∃o,h.get? l=P3 o:=by
 cases κ with
 |true=>let⟨o,a,_⟩:=x;grind
 |false=>let⟨o,a,_⟩:=x;grind
end
section
variable {prog:Program}{w:World}{A:Around}{E:Value->Shared->Prop}{s:Shared}
theorem GN{f:Bool}{c l:Ch}{i:Nat}{a:Array Db}{x:Db}{Q:Db->Go->Prop}(d:ItAt f s.heap c l i)(n:SqAt f s.heap l a)(p:a[i]?=P3 x)
  (q:∀h,ItAt f h c l (i+1)->kF c s.heap h->Q x {s with heap:=h}):wpAny (model prog w) A (ie (.ref c)) Q E s:=by
 cases f with
 |true=>exact wpAny_nextOf_list_item d n p q
 |false=>
  have b:s.heap.IsTupleIter c l i:=d;have j:s.heap.IsTuple l a:=n;let⟨o,g,t,e⟩:=id b;let⟨u,k,_,v,m⟩:=j
  unfold ie;refine Cn (io (name:=iG "__next__") b.typeIs jg (jV jg b.typeIs l7 ?_ (ln _)));show wpAny (model prog w) _ (field (.ref c) 0 >>=_) _ _ s;refine Cn (iD g e (x:=.ref l) rfl ?_)
  show wpAny (model prog w) _ (if(gY l==g8)=q_ then _ else _) _ _ s;rw[if_neg (show ¬((gY l==g8)=q_)from gh)]
  show wpAny (model prog w) _ (field (.ref c) 1 >>=_) _ _ s;refine Cn (iD g e (x:=.int i 0) rfl ?_)
  show wpAny (model prog w) _ (seqItems? (.ref l) >>=_) _ _ s;refine Cn (ir k m ?_);simp only[j8,p]
  refine Cn (kq g e (by simp) (Sc ⟨x,rfl,Sc (q _ (show Heap.IsTupleIter _ c l (i+1)from ?_) (nW ..))⟩));exact⟨_,ii _ g (Obj.isFreed_of_fields (kg e _)),(Obj.cls_mapFields ..).trans t,by(rw[kg e];simp[rawInt])⟩
theorem IC{g:Bool}{f l:Ch}{i:Nat}{b:Array Db}{Q:Db->Go->Prop}(r:A.handled=p_)(d:ItAt g s.heap f l i)(t:SqAt g s.heap l b)(u:b[i]?=p_)
  (v:∀h e,Heap.ExtBut f s.heap h->(∃o,h.get? e=P3 o/\o.cls=.type "StopIteration")->E (.ref e) {s with heap:=h}):wpAny (model prog w) A (ie (.ref f)) Q E s:=by
 cases g with
 |true=>exact wpAny_nextOf_list_end r d t u v
 |false=>
  have c:=d;have j:s.heap.IsTuple l b:=t;let⟨o,k,z,n⟩:=id c;let⟨B,p,_,C,q⟩:=j
  refine Cn (io c.typeIs jg (jV jg c.typeIs l7 ?_ (ln _)));show wpAny (model prog w) _ (field (.ref f) 0 >>=_) _ _ s;refine Cn (iD k n (x:=.ref l) rfl ?_)
  refine Cn (iD k n (x:=.int i 0) rfl ?_);refine Cn (ir p q ?_);simp only[j8,u]
  refine Cn (mO (Cn (kq k n (by simp) ?_)));refine Cn ?_;refine Cn (m:=firstArgMember _ _) (m_ (a:=g8) (by first|rfl|omega) ?_);refine iu ?_ (by size_fits)
  simp only[raiseNew];refine Cn (wpAny_handled ?_);first|grind|rw[r]
  refine Cn (Sc (wpAny_throw ?_));exact v _ _ (((nW ..).extBut.push _).push _) ⟨_,XV _ rfl,rfl⟩
structure bj (z TI TO i1 i2 l1 l2:Ch):Prop where
 TIz:TI≠z
 TOz:TO≠z
 i1z:i1≠z
 i2z:i2≠z
 TOi1:TO≠i1
 TOi2:TO≠i2
 i12:i1≠i2
 l1z:l1≠z
 l1TO:l1≠TO
 l1i1:l1≠i1
 l1i2:l1≠i2
 l2z:l2≠z
 l2TO:l2≠TO
 l2i1:l2≠i1
 l2i2:l2≠i2
theorem Us{S T:Bool}{z TI TO p q J K:Ch}{k:Nat}{xs ys:Array Db}{x y a b:Db}{Q:Db->Go->Prop}(D:bj z TI TO p q J K)
  (L:j_ s.heap z TI TO .none) (W:jC s.heap TI (.ref p) (.ref q)) (X:jC s.heap TO a b) (h1:ItAt S s.heap p J k) (h2:ItAt T s.heap q K k) (Y:SqAt S s.heap J xs) (Z:SqAt T s.heap K ys) (hx:xs[k]?=P3 x) (hy:ys[k]?=P3 y)
  (hQ:∀r,j_ r z TI TO (rawInt s.heap.objs.size)->jC r TO x y->ItAt S r p J (k+1)->ItAt T r q K (k+1)->jC r s.heap.objs.size x y->r.objs.size=s.heap.objs.size+1->(∀c o,c≠z->c≠TO->c≠p->c≠q->s.heap.get? c=P3 o->r.get? c=P3 o)->Q (.ref s.heap.objs.size) {s with heap:=r}):
  wpAny (model prog w) A (kI.«zip.__next__» ⟨[.ref z],[]⟩) (λa0 s'=>∃v,a0=.done (.ret v)/\Q v s') E s:=by
 show wpAny (model prog w) A (field (.ref z) 2 >>=_) _ _ _;refine Cn (iD L rfl (x:=.bool r_) rfl ?_)
 show wpAny (model prog w) A (field (.ref z) 3 >>=_) _ _ _;refine Cn (iD L rfl (x:=.ref TI) rfl ?_);refine Cn (ir W rfl ?_)
 show wpAny (model prog w) A (jD (.ref z) >>=_) _ _ _;refine Cn ?_;unfold jD
 refine Cn (iD L rfl (x:=.none) rfl (Sc ?_));simp only[if_true];refine Cn (mO ?_);refine Cn (iD L rfl (x:=.ref TO) rfl ?_)
 refine Cn (jb L (by simp) λha C d=>?_);replace C:j_ ha z TI TO .ellipsis:=C;refine Cn ?_;simp only[List.zipIdx_cons,List.zipIdx_nil,kc,List.forIn_nil]
 refine Cn (Cn (lH ?_));show wpAny (model prog w) _ (ie (.ref p) >>=_) _ _ _
 refine Cn (GN (h1.eb d.extBut D.i1z) (Y.eb d.extBut D.l1z) hx λhb a1 h=>Sc ?_);have t:jC hb TO a b:=h.extBut _ _ D.TOi1 (d.extBut _ _ D.TOz X);refine Cn (ir t rfl ?_);refine Cn (lX t λhc j i=>?_)
 replace j:jC hc TO x b:=j;refine Cn (j1 (Sc ?_));refine Cn (Cn (lH ?_));show wpAny (model prog w) _ (ie (.ref q) >>=_) _ _ _
 refine Cn (GN (((h2.eb d.extBut D.i2z).eb h.extBut D.i12.symm).eb i.extBut D.TOi2.symm) (((Z.eb d.extBut D.l2z).eb h.extBut D.l2i1).eb i.extBut D.l2TO) hy λhd a2 l=>Sc ?_);have u:jC hd TO x b:=l.extBut _ _ D.TOi2 j;refine Cn (ir u rfl ?_);refine Cn (lX u λf g m=>?_)
 replace g:jC f TO x y:=g;refine Cn (j1 (Sc (Sc ?_)));refine Cn (ir g rfl ?_);refine Cn (wpAny_newTuple ?_)
 have M:f.objs.size=s.heap.objs.size:=by rw[m.1,l.1,i.1,h.1,d.1]
 have N:j_ f z TI TO .ellipsis:=m.extBut _ _ D.TOz.symm (l.extBut _ _ D.i2z.symm (i.extBut _ _ D.TOz.symm (h.extBut _ _ D.i1z.symm C)));have a3:∀c o,c≠z->c≠TO->c≠p->c≠q->s.heap.get? c=P3 o->f.get? c=P3 o:=λc o F U c3 c4 e=>m.extBut _ _ U (l.extBut _ _ c4 (i.extBut _ _ U (h.extBut _ _ c3 (d.extBut _ _ F e))));have a4:ItAt S f p J (k+1):=((a1.eb i.extBut D.TOi1.symm).eb l.extBut D.i12).eb m.extBut D.TOi1.symm;have a5:ItAt T f q K (k+1):=a2.eb m.extBut D.TOi2.symm;have B:z<f.objs.size:=UF N;show wpAny (model prog w) _ (kh (.ref z) (.ref f.objs.size) >>=_) _ _ _;refine Cn ?_;unfold kh
 have a6:j_ (f.push {cls:=.type "tuple",data:=.seq #[x,y]}) z TI TO .ellipsis:=Ev _ N;refine Cn (jb a6 (by simp) λhg G H=>?_);replace G:j_ hg z TI TO (rawInt f.objs.size):=G;refine jb G (by simp) λO n I=>?_;replace n:j_ O z TI TO (rawInt f.objs.size):=n;have V:∀c o,c≠z->f.get? c=P3 o->O.get? c=P3 o:=λc o F e=>I.extBut _ _ F (H.extBut _ _ F (Ev _ e));have P:jC O f.objs.size x y:=I.extBut _ _ (jY B) (H.extBut _ _ (jY B) (XV _ rfl));have R:O.objs.size=f.objs.size+1:=by rw[I.1,H.1,iq]
 rw[M]at n P R;refine Sc ⟨_,rfl,?_⟩;show Q (.ref f.objs.size) _;rw[M]
 exact hQ O n (V _ _ D.TOz g) (a4.mv λo e=>V _ o D.i1z e) (a5.mv λo e=>V _ o D.i2z e) P R λc o F U c3 c4 e=>V c o F (a3 c o F U c3 c4 e)
theorem XW{U V:Bool}{z TI TO p q G H:Ch}{k:Nat}{I J:Array Db}{a b:Db}{Q:Fin->Go->Prop}(W:A.handled=p_)(D:bj z TI TO p q G H)
  (r:j_ s.heap z TI TO .none) (K:jC s.heap TI (.ref p) (.ref q)) (L:jC s.heap TO a b) (X:ItAt U s.heap p G k) (h2:ItAt V s.heap q H k) (t:SqAt U s.heap G I) (M:SqAt V s.heap H J) (u:I[k]?=p_\/J[k]?=p_)
  (Y:∀N e,(∀c o,c≠z->c≠TO->c≠p->c≠q->s.heap.get? c=P3 o->N.get? c=P3 o)->(∃o,N.get? e=P3 o/\o.cls=.type "StopIteration")->E (.ref e) {s with heap:=N}):
  wpAny (model prog w) A (kI.«zip.__next__» ⟨[.ref z],[]⟩) Q E s:=by
 show wpAny (model prog w) A (field (.ref z) 2 >>=_) _ _ _;refine Cn (iD r rfl (x:=.bool r_) rfl ?_)
 show wpAny (model prog w) A (field (.ref z) 3 >>=_) _ _ _;refine Cn (iD r rfl (x:=.ref TI) rfl ?_);refine Cn (ir K rfl ?_)
 show wpAny (model prog w) A (jD (.ref z) >>=_) _ _ _;refine Cn ?_;unfold jD
 refine Cn (iD r rfl (x:=.none) rfl (Sc ?_));simp only[if_true];refine Cn (mO ?_);refine Cn (iD r rfl (x:=.ref TO) rfl ?_)
 refine Cn (jb r (by simp) λha l d=>?_);replace l:j_ ha z TI TO .ellipsis:=l;refine Cn ?_;simp only[List.zipIdx_cons,List.zipIdx_nil,kc,List.forIn_nil]
 refine Cn (Cn (lH ?_));show wpAny (model prog w) _ (ie (.ref p) >>=_) _ _ _
 cases O:I[k]? with
 |none=>
  refine Cn (IC W (X.eb d.extBut D.i1z) (t.eb d.extBut D.l1z) O λP e f R=>?_);let⟨S,g,j⟩:=R;have v:j_ P z TI TO .ellipsis:=f _ _ D.i1z.symm l;have n:e≠z:=λx=>by subst x;rw[v]at g;cases g;simp at j
  exact jb v (by simp) λZ _ i=>Y Z e (λc o y _ T _ x=>i.extBut _ _ y (f _ _ T (d.extBut _ _ y x))) ⟨S,i.extBut _ _ n g,j⟩
 | some x=>
  have hy:J[k]?=p_:=by
   rcases u with h|h
   ·rw[O]at h;cases h
   ·exact h
  refine Cn (GN (X.eb d.extBut D.i1z) (t.eb d.extBut D.l1z) O λP a1 f=>Sc ?_);have m:jC P TO a b:=f.extBut _ _ D.TOi1 (d.extBut _ _ D.TOz L);refine Cn (ir m rfl ?_);refine Cn (lX m λZ a0 i=>?_)
  refine Cn (j1 (Sc ?_));refine Cn (Cn (lH ?_));show wpAny (model prog w) _ (ie (.ref q) >>=_) _ _ _
  refine Cn (IC W (((h2.eb d.extBut D.i2z).eb f.extBut D.i12.symm).eb i.extBut D.TOi2.symm) (((M.eb d.extBut D.l2z).eb f.extBut D.l2i1).eb i.extBut D.l2TO) hy λhd e B R=>?_);let⟨S,g,j⟩:=R;have C:j_ hd z TI TO .ellipsis:=B _ _ D.i2z.symm (i.extBut _ _ D.TOz.symm (f.extBut _ _ D.i1z.symm l));have n:e≠z:=λx=>by subst x;rw[C]at g;cases g;simp at j
  exact jb C (by simp) λhf _ F=>Y hf e (λc o y c2 T c4 x=>F.extBut _ _ y (B _ _ c4 (i.extBut _ _ c2 (f.extBut _ _ T (d.extBut _ _ y x))))) ⟨S,F.extBut _ _ n g,j⟩
end
def aU(a:Bool):String:=match a with
 |true=>"list_iterator"
 |false=>"tuple_iterator"
def Jd(a:Bool)(l:Ch):Obj:={cls:=.type (aU a),data:=.fields #[.ref l,.int 0 0]}
abbrev zA(a:Bool)(h:gf)(b:Ch):gf:=h.push (Jd a b)
abbrev zB(a b:Bool)(h:gf)(c d:Ch):gf:=(zA a h c).push (Jd b d)
abbrev zC(a c:Bool)(h:gf)(b d:Ch):gf:=(zB a c h b d).push {cls:=.type "tuple",data:=.seq #[.ref h.objs.size,.ref (zA a h b).objs.size]}
abbrev zD(a b:Bool)(h:gf)(c d:Ch):gf:=(zC a b h c d).push {cls:=.type "tuple",data:=.seq #[.none,.none]}
abbrev zE(a b:Bool)(h:gf)(c d:Ch):gf:=(zD a b h c d).push {cls:=.type "zip",data:=.fields #[.none,.bool r_,.bool r_,.ref (zB a b h c d).objs.size,.ref (zC a b h c d).objs.size]}
theorem X7(zX zW:Bool)(l1 l2:Ch)(xs ys:Array Db):Meets (kI.«zip.__new__» ⟨[.type "zip",.ref l1,.ref l2],[]⟩)
  (λ_ R s=>SqAt zX s.heap l1 xs/\SqAt zW s.heap l2 ys/\R (.ok (.ret (.ref (zD zX zW s.heap l1 l2).objs.size))) {s with heap:=zE zX zW s.heap l1 l2}):=
 .of_wp λprog w A R s h=>by
  let⟨hp,g,d,tk,os⟩:=s;let⟨hl1,hl2,h⟩:=h
  have hsub:=sub_zip;have hL2:SqAt zW (zA zX hp l1) l2 ys:=hl2.mv λo e=>Ev _ e;cases zX with
  | true=>
   have g1:nB (j6 ⟨hp,g,d,tk,os⟩) l1 xs:=hl1;cases zW with
   |true=>
    have g2:nB (j6 ⟨hp.push {cls:=.type "list_iterator",data:=.fields #[.ref l1,.int 0 0]},g,d,tk,os⟩) l2 ys:=hL2
    wp_walk using iy g1,iy g2
    exact⟨_,rfl,h⟩
   |false=>
    have g2:md (j6 ⟨hp.push {cls:=.type "list_iterator",data:=.fields #[.ref l1,.int 0 0]},g,d,tk,os⟩) l2 ys:=hL2
    wp_walk using iy g1,i_ g2
    exact⟨_,rfl,h⟩
  | false=>
   have g1:md (j6 ⟨hp,g,d,tk,os⟩) l1 xs:=hl1;cases zW with
   |true=>
    have g2:nB (j6 ⟨hp.push {cls:=.type "tuple_iterator",data:=.fields #[.ref l1,.int 0 0]},g,d,tk,os⟩) l2 ys:=hL2
    wp_walk using i_ g1,iy g2
    exact⟨_,rfl,h⟩
   |false=>
    have g2:md (j6 ⟨hp.push {cls:=.type "tuple_iterator",data:=.fields #[.ref l1,.int 0 0]},g,d,tk,os⟩) l2 ys:=hL2
    wp_walk using i_ g1,i_ g2
    exact⟨_,rfl,h⟩
theorem LK(a:Bool)(h:gf)(l:Ch):ItAt a (h.push (Jd a l)) h.objs.size l 0:=by
 cases a with
 |true=>exact⟨_,XV _ rfl,rfl,rfl⟩
 |false=>exact⟨_,XV _ rfl,rfl,rfl⟩
section
variable {prog:Program}{w:World}{A:Around}{E:Value->Shared->Prop}{s:Shared}
theorem ON{b f:Bool}{a d:Ch}{t u:Array Db}{Q:Db->Go->Prop}(i:SqAt b s.heap a t)(j:SqAt f s.heap d u)
  (h:∀g,j_ g (s.heap.objs.size+4) (s.heap.objs.size+2) (s.heap.objs.size+3) .none->jC g (s.heap.objs.size+2) (.ref s.heap.objs.size) (.ref (s.heap.objs.size+1))->jC g (s.heap.objs.size+3) .none .none->
   ItAt b g s.heap.objs.size a 0->ItAt f g (s.heap.objs.size+1) d 0->(∀c o,s.heap.get? c=P3 o->g.get? c=P3 o)->Q (.ref (s.heap.objs.size+4)) {s with heap:=g}):
  wpAny (model prog w) A (call (.type "zip") [.ref a,.ref d]) Q E s:=by
 refine callType_new F.called_zip (by decide) (F.typeCall_zip_2 _ _) (F.newCall_zip_2 _ _) (λk=>F.args_object_init_3 k _ _) F.entry_zip_new (X7 b f a d t u) ⟨i,j,?_⟩;have l:(zA b s.heap a).objs.size=s.heap.objs.size+1:=iq ..;have m:(zB b f s.heap a d).objs.size=s.heap.objs.size+2:=by rw[iq,l]
 have n:(zC b f s.heap a d).objs.size=s.heap.objs.size+3:=by rw[iq,m]
 have p:(zD b f s.heap a d).objs.size=s.heap.objs.size+4:=by rw[iq,n]
 have q:(zE b f s.heap a d).get? (zD b f s.heap a d).objs.size=P3 _:=XV _ rfl;have v:(zE b f s.heap a d).get? (zC b f s.heap a d).objs.size=P3 _:=Ev _ (XV _ rfl);have x:(zE b f s.heap a d).get? (zB b f s.heap a d).objs.size=P3 _:=Ev _ (Ev _ (XV _ rfl));have y:ItAt f (zE b f s.heap a d) (zA b s.heap a).objs.size d 0:=(LK f (zA b s.heap a) d).mv λo e=>Ev _ (Ev _ (Ev _ e));have z:ItAt b (zE b f s.heap a d) s.heap.objs.size a 0:=(LK b s.heap a).mv λo e=>Ev _ (Ev _ (Ev _ (Ev _ e)));rw[p]at q;rw[n]at v;rw[m]at x;rw[l]at y;have r:=h (zE b f s.heap a d) (by rw[j_,q,m,n]) (by rw[jC,x,l]) v z y (λc o e=>Ev _ (Ev _ (Ev _ (Ev _ (Ev _ e)))));exists⟨_,by rw[p];exact q,rfl⟩;rw[p];exact r
theorem MF{i j:Bool}{z TI TO e f g h:Ch}{k:Nat}{q r:Array Db}{x y a b:Db}{Q:t_ Db->Go->Prop}(D:bj z TI TO e f g h)
  (t:j_ s.heap z TI TO .none) (l:jC s.heap TI (.ref e) (.ref f)) (m:jC s.heap TO a b) (v:ItAt i s.heap e g k) (B:ItAt j s.heap f h k) (n:SqAt i s.heap g q) (p:SqAt j s.heap h r) (C:q[k]?=P3 x) (G:r[k]?=P3 y)
  (H:∀d,j_ d z TI TO (rawInt s.heap.objs.size)->jC d TO x y->ItAt i d e g (k+1)->ItAt j d f h (k+1)->jC d s.heap.objs.size x y->d.objs.size=s.heap.objs.size+1->(∀c o,c≠z->c≠TO->c≠e->c≠f->s.heap.get? c=P3 o->d.get? c=P3 o)->Q (P3 (.ref s.heap.objs.size)) {s with heap:=d}):
  wpAny (model prog w) A (pyNext (.ref z)) Q E s:=by
 have u:s.TypeIs (.ref z) "zip":=⟨_,t,rfl⟩;unfold pyNext
 exact Cn (wpAny_attempt (io (name:=iG "__next__") u lY (jV lY u F.entry_zip_next
  (Us D t l m v B n p C G λd I J K L M N O=>Sc (H d I J K L M N O)) (F.args_zip_next_1 _))))
theorem N4{r t:Bool}{z TI TO g h i j:Ch}{k:Nat}{u v:Array Db}{a b:Db}{Q:t_ Db->Go->Prop}(B:A.handled=p_)(D:bj z TI TO g h i j)
  (x:j_ s.heap z TI TO .none) (l:jC s.heap TI (.ref g) (.ref h)) (m:jC s.heap TO a b) (C:ItAt r s.heap g i k) (G:ItAt t s.heap h j k) (n:SqAt r s.heap i u) (p:SqAt t s.heap j v) (f:u[k]?=p_\/v[k]?=p_)
  (H:∀q,(∀c o,c≠z->c≠TO->c≠g->c≠h->s.heap.get? c=P3 o->q.get? c=P3 o)->Q p_ {s with heap:=q}):wpAny (model prog w) A (pyNext (.ref z)) Q E s:=by
 have y:s.TypeIs (.ref z) "zip":=⟨_,x,rfl⟩;unfold pyNext;refine Cn (wpAny_attempt (io (name:=iG "__next__") y lY (jV lY y F.entry_zip_next (XW B D x l m C G n p f λq e I J=>?_) (F.args_zip_next_1 _))));let⟨o,K,L⟩:=J;exact Cn (wpAny_isInstance (T:="StopIteration") (b:=q_) ⟨o,K,L⟩ isSubtype_stop (Sc (H _ I)))
end
section
variable {X:Cx}{zH:s_ (Addr×Obj)}{σ:L2.St}{H:Hp}{s:Shared}{h':Heap}
theorem Inv.turnedL{t':Nat}{ch:s_ Ch}(I:Inv X zH σ H s)(d:∀b∈ch,Ge X zH H b)(k:∀b o,b∉ch->s.heap.get? b=P3 o->h'.get? b=P3 o):Inv X zH σ H {s with heap:=h',toks:=t'}:=by
 have f:∀b u,H b=P3 u->b∉ch:=λb u e z=>by rw[(d b z).1]at e;cases e
 refine I.step (λb g=>?_) (λb o _ _ a e _=>k b o a e) (λb o _ _ a e _=>⟨_,k b o a e⟩) (λ_ _ _ _ n=>n) (λb o a e=>⟨o,k b o a e⟩) (λ_ _ e=>e) (λ_ _ _ e=>e) (λb y e=>⟨#[],by rw[e];simp⟩) (λm h=>?_) (λb u e=>(I.hok b u e).stay (λc v a q=>k c v (a.elim (λz=>by grind) λz=>f c _ z) q) (λ_ q=>q) λ_ _ q=>q) I.bare
 ·let⟨A,i,B,j,l,p⟩:=d b g
  exact⟨j,i,l,p⟩
 ·let⟨o,t,w,x,r⟩:=h
  exact⟨o,t,w,k _ o (λz=>(d _ z).2.1 rfl) x,r⟩
theorem Inv.turnLaid{t':Nat}{ch:s_ Ch}{a:Ch}{o:HO}(I:Inv X zH σ H s)(h:∀b∈ch,Ge X zH H b)(k:∀b o,b∉ch->s.heap.get? b=P3 o->h'.get? b=P3 o)(j:s.heap.objs.size<=a)(new:ObjOk X.prog X.w (A2 H a o) h' a o):
  Inv X zH σ (A2 H a o) {s with heap:=h',toks:=t'}:=by
 have i:∀b u,H b=P3 u->b∉ch:=λb u e z=>by rw[(h b z).1]at e;cases e
 have l:H a=p_:=I.hok.fresh j;have f:∀b u,H b=P3 u->A2 H a o b=P3 u:=λb u e=>by rw[AT (Ax e l)];exact e
 refine I.step (g':=s.gens) (d':=s.drawn) (ch:=ch) (λb g=>?_) (λb o _ _ d e _=>k b o d e) (λb o _ _ d e _=>⟨o.slots,k b o d e⟩) (λb u _ e n=>?_) (λb o d e=>⟨o,k b o d e⟩) (λb p e=>f _ _ e) (λb o u e=>f _ _ e) (λb F e=>⟨#[],by rw[f _ _ e];simp⟩) (λm t=>?_) (λb u e=>?_) I.bare
 ·let⟨G,x,J,y,A,B⟩:=h b g
  exact⟨y,x,A,B⟩
 ·rw[AT (gg (gv (UF e) j))];exact n
 ·let⟨o,C,D,E,r⟩:=t
  exact⟨o,C,D,k _ o (λz=>(h _ z).2.1 rfl) E,r⟩
 ·by_cases g:b=a
  ·subst g;rw[AX]at e;cases e;exact new
  ·rw[AT g]at e
   exact(I.hok b u e).stay (λc v d q=>k c v (d.elim (λz=>by grind) λz=>i c _ z) q) (λc q=>f _ _ q) λc p q=>f _ _ q
end
def SqK(c:Bool)(K:Frag)(H:Hp)(a:Ch)(b:s_ V):Prop:=match c with
 |true=>SqL K H a b
 |false=>SqT K H a b
theorem SqK.at{c:Bool}{X:Cx}{e:s_ (Ch×Obj)}{f:L2.St}{H:Hp}{s:Go}{a:Ch}{d:s_ V}(I:Inv X e f H s)(h:SqK c X.K H a d):∃b:s_ Db,Vals d b/\SqAt c s.heap a b.toArray:=by
 cases c with
 |true=>let⟨b,r,g,_⟩:=I.list h;exact⟨_,r,g.isList⟩
 |false=>let⟨b,r,p,_⟩:=I.tuple h;exact⟨_,r,p⟩
def bn (K:Frag) (e f:Bool) (a b:Ch) (c d:s_ V):It:=
  ⟨λi H=>SqK e K H a c ∧ SqK f K H b d ∧ i < c.length ∧ i < d.length,λi H x g=>∃ T p q,x=.ref T ∧ H T=p_ ∧ g=A2 H T (.tup [p,q]) ∧ c[i]?=P3 p ∧ d[i]?=P3 q,
   λi H=>SqK e K H a c ∧ SqK f K H b d ∧ (c.length ≤ i ∨ d.length ≤ i)⟩
structure dX (zX zW:Bool) (z TI TO i1 i2 a b:Ch) (k:Nat) (h:gf):Prop where
 z:j_ h z TI TO .none
 ti:jC h TI (.ref i1) (.ref i2)
 to:∃a b,jC h TO a b
 i1:ItAt zX h i1 a k
 i2:ItAt zW h i2 b k
theorem U9{P:gi}{w:gn}{K:Frag}{es:s_ gj}{j:Nat}{pos:Pos}(Z zW:Bool)(z TI TO g l a b:Ch)(xs ys:s_ V)(D:bj z TI TO g l a b)(B:TI∉[z,TO,g,l]):
  Turn P w K (.Tuple es j pos) (bn K Z zW a b xs ys) [z,TI,TO,g,l] z (dX Z zW z TI TO g l a b) where
 mem:=by simp
 obj:=λi h d c f=>by
  simp only[TW,gU,or_false]at f
  rcases f with rfl|rfl|rfl|rfl|rfl
  ·exact⟨_,d.z,λv q=>by cases q⟩
  ·exact⟨_,d.ti,λv q=>by cases q⟩
  ·let⟨a,b,e⟩:=d.to
   exact⟨_,e,λv q=>by cases q⟩
  ·exact d.i1.lies
  ·exact d.i2.lies
 keep:=λi h h' d k=>by
  let⟨p,q,e⟩:=d.to;exact⟨k z (by simp) _ d.z,k TI (by simp) _ d.ti,⟨p,q,k TO (by simp) _ e⟩,d.i1.mv λo e=>k g (by simp) o e,d.i2.mv λo e=>k l (by simp) o e⟩
 item:=by
  intro X C F G f i zH s σ H E I r d J;subst C F G;let⟨L,M,m,hj⟩:=J;let⟨us,N,O⟩:=L.at I;let⟨ws,R,S⟩:=M.at I;let⟨u,hu,ru⟩:=N.get (FM m);let⟨v,hv,rv⟩:=R.get (FM hj);let⟨p,q,e⟩:=d.to;refine MF D d.z d.ti e d.i1 d.i2 O S (x:=u) (y:=v) (by simpa using hu) (by simpa using hv) λh' a1 a2 a3 a4 a5 a6 a7=>⟨_,rfl,?_⟩;refine wpAny_letOwnedTupleGo_zip a1 λT b1 n=>?_;have hT:H s.heap.objs.size=p_:=I.hok.fresh (On _)
  have t:∀c o,c∉[z,TO,g,l]->s.heap.get? c=P3 o->T.get? c=P3 o:=λc o f e=>by
   simp only[TW,gU,or_false,not_or]at f;exact n.extBut _ _ f.1 (a7 c o f.1 f.2.1 f.2.2.1 f.2.2.2 e)
  have I2:Inv X zH σ (A2 H s.heap.objs.size (.tup [xs[i],ys[i]])) {s with heap:=T}:=by
   refine I.turnLaid (t':=s.toks) (ch:=[z,TO,g,l]) (λc f=>r c ?_) t (On _) ?_
   ·simp only[TW,gU,or_false]at f ⊢
    rcases f with rfl|rfl|rfl|rfl <;>simp
   ·have nT:s.heap.objs.size≠z:=jY (UF d.z)
    exact⟨by show 2<=sizeLine;decide,[u,v],.cons ru (.cons rv .nil),⟨_,n.extBut _ _ nT a5,rfl,_,rfl,rfl,rfl⟩⟩
  have U:jC T TI (.ref g) (.ref l):=t _ _ B d.ti;refine⟨.ref s.heap.objs.size,_,I2,rfl,⟨_,_,_,rfl,hT,rfl,FM m,FM hj⟩,⟨b1,U,⟨_,_,n.extBut _ _ D.TOz a2⟩,a3.eb n.extBut D.i1z,a4.eb n.extBut D.i2z⟩,λc f=>?_⟩;have W:H c=p_:=(r c f).1
  have Y:c≠s.heap.objs.size:=λz=>by
   obtain⟨o,ho,_⟩:∃o,s.heap.get? c=P3 o/\True:=by
    simp only[TW,gU,or_false]at f
    rcases f with rfl|rfl|rfl|rfl|rfl
    ·exact⟨_,d.z,trivial⟩
    ·exact⟨_,d.ti,trivial⟩
    ·exact⟨_,e,trivial⟩
    ·let⟨o,q,_⟩:=d.i1.lies;exact⟨o,q,trivial⟩
    ·let⟨o,q,_⟩:=d.i2.lies;exact⟨o,q,trivial⟩
   rw[z]at ho;exact iY _ (UF ho)
  rw[AT Y];exact W
 done:=by
  intro X C F G f i zH s σ H E I r d J;subst C F G;let⟨L,M,m⟩:=J;let⟨us,N,O⟩:=L.at I;let⟨ws,R,S⟩:=M.at I;let⟨p,q,e⟩:=d.to;have l1:=N.length;have l2:=R.length;refine N4 (I.ok.hd f) D d.z d.ti e d.i1 d.i2 O S (m.imp (λm=>by simp;omega) λm=>by simp;omega) λh' t=>⟨rfl,?_⟩;refine I.turnedL (t':=s.toks) (ch:=[z,TO,g,l]) (λc f=>r c ?_) λc o f e=>?_
  ·simp only[TW,gU,or_false]at f ⊢
   rcases f with rfl|rfl|rfl|rfl <;>simp
  ·simp only[TW,gU,or_false,not_or]at f
   exact t c o f.1 f.2.1 f.2.2.1 f.2.2.2 e
 self:=λA i s Q E d h=>wpAny_pyIter_zip d.z h
section
variable {X:Cx}
theorem Zb(n a b:Nat)(c:a<n)(d:b<n):bj (n+4) (n+2) (n+3) n (n+1) a b:=by
 constructor <;>(grind)
theorem Za(n:Nat):(n+2)∉[n+4,n+3,n,n+1]:=by
 grind
theorem Zc(n c:Nat)(h:c∈[n+4,n+2,n+3,n,n+1]):n<=c:=by
 grind
def fG(K:Frag)(h:TA):TI:=λi H R=>h i H λj c=>∃d e a b f g,j=[.ref a,.ref b]/\SqK d K c a f/\SqK e K c b g/\R (bn K d e a b f g) c
theorem Vj{m f:gj}{G:s_ gj}{j:Nat}{g:Pos}{y:TA}{p pos:Pos}(J:Gl X "zip")(L:X.mg "zip"=p_)(M:PA X [m,f] y)(N:starEach [m,f] X.env=[(r_,eval m X.env),(r_,eval f X.env)]:=by rfl)(i:starEach [f] X.env=[(r_,eval f X.env)]:=by rfl):
  PI X (.Tuple G j g) (.Call (.Name "zip" p) [m,f] [] pos) (fG X.K y):=by
 intro O s P H R I h;refine Call_ (EQ I J L boot_zip (iW (thn (M pos O s P H _ I h) λQ d ⟨vs,S,k,T,n⟩=>?_) (by rw[N,i]) (by rw[i];rfl)));let⟨z,A,a,b,B,C,e,U,V,q⟩:=n;subst e;let⟨u,v,rfl,W,Y⟩:=vals2 T;cases W;cases Y;let⟨Q,Z,n⟩:=U.at k;let⟨ws,a0,E⟩:=V.at k;have la:a<d.heap.objs.size:=by let⟨o,e⟩:=n.lies;exact UF e
 have lb:b<d.heap.objs.size:=by let⟨o,e⟩:=E.lies;exact UF e
 refine ON n E λh' F r t w x hk=>?_;refine wpAny_pyIter_zip F ?_;have D:=Zb d.heap.objs.size a b la lb;refine⟨d.heap.objs.size+4,[d.heap.objs.size+4,d.heap.objs.size+2,d.heap.objs.size+3,d.heap.objs.size,d.heap.objs.size+1],_,bn X.K z A a b B C,S,rfl,k.kept (t':=d.toks) hk,U9 z A _ _ _ _ _ a b B C D (Za d.heap.objs.size),⟨F,r,⟨_,_,t⟩,w,x⟩,λc hc=>?_,q⟩;have l:d.heap.objs.size<=c:=Zc d.heap.objs.size c hc;exact k.fpOk l (k.hok.fresh l)
end
end L2
namespace Dp
open L2
def Ea(a b:s_ D):s_ D:=ki (λd e=>.tup [d,e]) a b
section
variable {K:Frag}
theorem NQ{U g M:Ch->Prop}{H:Hp}{d:D}{v:V}{l:s_ D}(h:AtT K g M H d v)(e:Ip d=P3 l)(m:∀a,U a->g a)(s:∀a,g a->M a):∃p a c,v=.ref a/\Ats K M H l c/\∀i f,Pres M H i f->Ext U H f->SqK p K f a c:=by
 cases d with
 |lst q=>
  cases e;let⟨a,c,j,n,b,k⟩:=h;refine⟨q_,a,c,j,k,λi f _ ex=>?_⟩
  rcases b with b|⟨o,b⟩
  ·exact .inl (.inl (ex.keep b λz=>n (m a z)))
  ·exact .inl (.inr ⟨o,ex.keep b λz=>n (m a z)⟩)
 |tup q=>
  cases e;let⟨a,c,j,b,k⟩:=h;exact⟨r_,a,c,j,k,λi f r _=>(b.pres r).sq⟩
 |_=>cases e
theorem Qf{M:Ch->Prop}{H:Hp}{d:D}{v:V}{l:s_ D}(h:At K M H d v)(e:Ip d=P3 l):∃m a b,v=.ref a/\Ats K M H l b/\∀f c,Pres M H f c->SqK m K c a b:=by
 cases d with
 |lst n=>
  cases e;let⟨a,b,g,i,j⟩:=h;exact⟨q_,a,b,g,j,λf c k=>(i.pres k).sq⟩
 |tup n=>
  cases e;let⟨a,b,g,i,j⟩:=h;exact⟨r_,a,b,g,j,λf c k=>(i.pres k).sq⟩
 |_=>cases e
theorem Ka{M:Ch->Prop}{H:Hp}{l m:Bool}{a b:Ch}{f g:s_ V}{h j:s_ D}(u:Ats K M H h f)(v:Ats K M H j g){i:Nat}{r:Ch->Prop}{c:Hp}(w:Pres M H r c)(z:SqK l K c a f)(A:SqK m K c b g)(s:∀a,r a->∃o,c a=P3 o):
  (∀d,(Ea h j)[i]?=P3 d->(bn K l m a b f g).go i c/\∀x H2,(bn K l m a b f g).yld i c x H2->Grow c H2/\At K r H2 d x)/\((Ea h j).length<=i->(bn K l m a b f g).stop i c):=by
 have P:=u.length;have Q:=v.length;refine⟨λd e=>?_,λF=>⟨z,A,?_⟩⟩
 ·unfold Ea at e
  rw[lM]at e;cases k:h[i]? with
  |none=>rw[k]at e;simp at e
  | some G=>
   cases n:j[i]? with
   |none=>rw[k,n]at e;simp at e
   |some I=>
    rw[k,n]at e;have t:D.tup [G,I]=d:=gW e;have R:i<h.length:=(ZB.mp k).1;have S:i<j.length:=(ZB.mp n).1;refine⟨⟨z,A,by omega,by omega⟩,λx H2 y=>?_⟩;let⟨T,p,q,rfl,B,rfl,J,L⟩:=y;let⟨U,C,N⟩:=(u.pres w).get k;let⟨W,E,O⟩:=(v.pres w).get n;rw[J]at C;rw[L]at E;cases C;cases E;subst t;exact⟨Ar B,C7 s B ⟨p,[q],rfl,N,q,[],rfl,O,rfl⟩⟩
 ·unfold Ea at F
  grind
end
section
variable {X:Cx}{e1 e2:Expr}{es:s_ Expr}{j:Nat}{tpos p pos:Pos}{ws:D8}
def XY(ws:D8):D8:=λn c P=>ws n c λf g=>∃d e a b,f=[d,e]/\Ip d=P3 a/\Ip e=P3 b/\P (Ea a b) g
theorem Yc(z:Gl X "zip")(A:X.mg "zip"=p_)(B:XQ X [e1,e2] ws)(D:starEach [e1,e2] X.env=[(r_,eval e1 X.env),(r_,eval e2 X.env)]:=by rfl)(c:starEach [e2] X.env=[(r_,eval e2 X.env)]:=by rfl):
  ZX X (.Tuple es j tpos) (.Call (.Name "zip" p) [e1,e2] [] pos) (XY ws):=by
 let⟨t,E,F⟩:=B;refine⟨_,Vj z A E D c,λC M H n G I P Y R w q=>?_⟩;refine F C M H n G I _ _ R w λZ f ds J m o K p=>?_;let⟨d,e,xs,ys,rfl,L,N,p⟩:=p;cases K with
 | cons r g=>
  cases g with
  |cons O g=>
   cases g;have s:=R.step m o;let⟨Q,a,S,rfl,T,u⟩:=NQ (U:=C.U) r L R.uV s.vM;let⟨V,b,h,rfl,W,v⟩:=NQ (U:=C.U) O N R.uV s.vM;refine⟨Q,V,a,b,S,h,rfl,u M f (Pres.refl _ _) (Ext.refl _ _),v M f (Pres.refl _ _) (Ext.refl _ _),q _ f _ J m o (λi x y k ex l=>Ka T W k (u x y k ex) (v x y k ex) l) p⟩
theorem au(x:Gl X "zip")(y:X.mg "zip"=p_)(z:XD X [e1,e2] ws)(A:starEach [e1,e2] X.env=[(r_,eval e1 X.env),(r_,eval e2 X.env)]:=by rfl)(c:starEach [e2] X.env=[(r_,eval e2 X.env)]:=by rfl):
  DI X (.Tuple es j tpos) (.Call (.Name "zip" p) [e1,e2] [] pos) (XY ws):=by
 let⟨t,B,D⟩:=z;refine⟨_,Vj x y B A c,λC M H n E F P Y R w q=>?_⟩;refine D C M H n E F _ _ R w λZ f ds G I J g p=>?_;let⟨d,e,xs,ys,rfl,K,L,p⟩:=p;let⟨v,r,rfl,g,v',N,rfl,O,Q⟩:=g;cases(show N=[]from Q);let⟨S,a,T,rfl,U,m⟩:=Qf g K;let⟨V,b,h,rfl,W,o⟩:=Qf O L;exact⟨S,V,a,b,T,h,rfl,m M f (Pres.refl _ _),o M f (Pres.refl _ _),q _ f _ G I J (λi s u k l=>Ka U W k (m s u k) (o s u k) l) p⟩
def fE:D->t_ Key
 |.int i=>P3 (.inl i)
 |.str x=>P3 (.inr x)
 |_=>p_
def Jb:s_ D->t_ (s_ Key)
 |[]=>P3 []
 |d::a=>match fE d,Jb a with
  |some k,P3 b=>P3 (k::b)
  |_,_=>p_
theorem Hy{K:Frag}{M:Ch->Prop}{H:Hp}:∀{c:s_ D}{a:s_ V}{b:s_ Key},Jb c=P3 b->Ats K M H c a->a=b.map kOf
 |[],a,b,e,h=>by cases e;exact h
 | d::c,a,b,e,h=>by
  let⟨v,r,e1,l,m⟩:=h;unfold Jb at e
  split at e
  ·rename_i k n f g
   cases e;rw[e1,Hy g m]
   congr 1
   cases d with
   |int i=>cases f;exact l
   |str x=>cases f;exact l.1
   |_=>cases f
  ·cases e
def Fn(d e:D)(P:D->Prop):Prop:=match d,e with
 |.int i,.int j=>P (.bl (decide (i<j)))
 |.str i,.str j=>P (.bl (decide (i.cps.toList<j.cps.toList)))
 |.tup c,.tup f=>∃a b,Jb c=P3 a/\Jb f=P3 b/\CO a b=q_/\P (.bl (GY a b))
 |_,_=>False
def cV(K:Frag):R2:=λx y H Q=>Z0 x y H Q\/cU K x y H Q
theorem Fh{k:Nat}(a:Room k X.A):OpR X (compareOp .Lt) (cV X.K):=op_ltU.or (aG a.units0)
theorem Jp:GW X.K .sh (cV X.K) Fn:=λU M H d e x y P Q c h f g w q=>by
 unfold Fn at w
 split at w
 ·exact .inl (ZR U M H _ _ x y P Q c h f g w q)
 ·exact .inl (ZR U M H _ _ x y P Q c h f g w q)
 ·let⟨i,k,l,m,n,w⟩:=w
  let⟨a,u,rfl,o,r⟩:=f.tup;let⟨b,v,rfl,s,t⟩:=g.tup;have e1:=Hy l r;have e2:=Hy m t;subst e1 e2;exact .inr ⟨a,b,i,k,rfl,rfl,o.sq,s.sq,n,q _ H (.bl _) .refl rfl w⟩
 grind
end
end Dp
namespace L2
section
variable {prog:Program}{w:World}{A:Around}{E:Value->Shared->Prop}{s:Shared}
theorem Oo{t f:Ch}{a:Array Db}{k l:Db}{b e:t_ Int}{Q:Db->Go->Prop}(c:IsTup s.heap t a)(n:s.heap.IsSliceOf f k l .none)(p:lS k b)(q:lS l e)
  (o:HT.sIx a.size 0 b=0/\HT.sIx a.size a.size e=a.size) (h:Q (.ref t) s):wpAny (model prog w) A (getItem (.ref t) (.ref f)) Q E s:=by
 let⟨r,g,i,u⟩:=id n;have j:s.TypeIs (.ref f) "slice":=⟨r,g,i⟩;unfold getItem
 (try with_reducible refine iP ?_);(first|refine Cn (Sc ?_)|skip)
 refine Cn (mG c.typeIs (by decide) (Cn (io (name:=iG "__getitem__") c.typeIs gz (jV gz c.typeIs lh ?_ (lw _ _)))));show wpAny (model prog w) _ (kR (.ref t) >>=_) _ _ s;refine Cn (tupleItemsOf_ c (Cn (kH j ?_)));rw[if_pos (by decide)]
 refine Cn (HT.sliceApplied_gen n p q ?_);have d:(((HT.sIx a.size 0 b:Nat):Int)==0&&(1:Int)==1&&(HT.sIx a.size a.size e - HT.sIx a.size 0 b)==a.size)=q_:=by rw[o.1,o.2];simp
 show wpAny (model prog w) _ (if(((HT.sIx a.size 0 b:Nat):Int)==0&&(1:Int)==1&&(HT.sIx a.size a.size e - HT.sIx a.size 0 b)==a.size)=q_ then _ else _) _ _ s;rw[if_pos d];refine Cn (m:=mC _) ?_;unfold mC;refine Cn (kH c.typeIs (Sc ?_));show wpAny (model prog w) _ (if((jW "tuple"==jW "tuple")=q_)then _ else _) _ _ s;rw[if_pos (by decide)]
 first
  |grind
  |exact Cn (mO (Sc ⟨_,rfl,Sc h⟩))
  |grind
theorem LR{b c:Type}{f g:b->t_ c}:∀{l:s_ b},(∀a∈l,f a=g a)->l.filterMap f=l.filterMap g
 |[],_=>rfl
 |a::l,h=>by
  rw[jt,jt,h a Op,LR λx d=>h x (Rs _ d)]
theorem VQ(l:s_ Db):∀(n:Nat),n<=l.length->((gs n).filterMap fun(k:Nat)=>l[n - 1 - k]?)=(l.take n).reverse:=by
 intro n
 induction n with
 |zero=>intro _;simp
 | succ n b=>
  intro h;have a:n<l.length:=h;rw[nA,jt];have c:l[n+1 - 1 - 0]?=P3 l[n]:=by rw[show n+1 - 1 - 0=n by omega,FM a]
  simp only[c];rw[lv]
  have d:((fun(k:Nat)=>l[n+1 - 1 - k]?)∘Nat.succ)=fun(k:Nat)=>l[n - 1 - k]?:=by
   grind
  rw[d,b (by omega),List.take_add_one,FM a,List.reverse_append];rfl
theorem Hj(a:Array Db):((gs a.size).filterMap fun(k:Nat)=>a[(((a.size:Int) - 1)+(k:Int)*(-1)).toNat]?).toArray=a.toList.reverse.toArray:=by
 have h:=VQ a.toList _ (On _);rw[lJ]at h
 have e:(gs a.size).filterMap (fun(k:Nat)=>a[((a.size - 1)+(k:Int)*(-1)).toNat]?)=(gs a.toList.length).filterMap λk=>a.toList[a.toList.length - 1 - k]?:=by
  refine LR λk b=>?_;rw[show((a.size - 1)+(k:Int)*(-1)).toNat=a.size - 1 - k by omega];simp
 rw[e,h]
theorem QN{c:Ch}{t:Tok}{n:Nat}{Q:Int×Int×Nat->Go->Prop}(e:s.heap.IsSliceOf c .none .none (.int (-1) t))(h:Q ((n:Int) - 1,-1,n) s):wpAny (model prog w) A (mB (.ref c) (pure (n:Int))) Q E s:=by
 let⟨k,a,f,b⟩:=id e;refine Cn (Cn (iD a b (x:=.none) rfl (Cn (iD a b (x:=.none) rfl (Cn (iD a b (x:=.int (-1) t) rfl (Sc ?_)))))));refine Cn (HT.slicePart_ (IsPart.int (-1) t) ?_);rw[if_neg (by decide)];show wpAny (model prog w) _ (match jk p_ p_ (-1) (n:Int)with|(d,g)=>pure (d,(-1:Int),i6 d g (-1))) _ _ s;have i:jk p_ p_ (-1) (n:Int)=((n:Int) - 1,-1):=rfl;rw[i]
 have j:i6 ((n:Int) - 1) (-1) (-1)=n:=by
  unfold i6
  grind
 show wpAny (model prog w) _ (pure _) _ _ s;rw[j];exact Sc h
theorem TF{t e:Ch}{a:Array Db}{n:Tok}{Q:Db->Go->Prop}(d:IsTup s.heap t a)(l:s.heap.IsSliceOf e .none .none (.int (-1) n))(f:a.size<=sizeLine)
  (h:Q (.ref s.heap.objs.size) {s with heap:=s.heap.push {cls:=.type "tuple",data:=.seq a.toList.reverse.toArray}}):wpAny (model prog w) A (getItem (.ref t) (.ref e)) Q E s:=by
 let⟨o,g,i,p⟩:=id l;have j:s.TypeIs (.ref e) "slice":=⟨o,g,i⟩
 have c:sizeOk (.seq a.toList.reverse.toArray):=by
  show a.toList.reverse.toArray.size<=sizeLine
  simpa using f
 unfold getItem
 (try with_reducible refine iP ?_);(first|refine Cn (Sc ?_)|skip)
 refine Cn (mG d.typeIs (by decide) (Cn (io (name:=iG "__getitem__") d.typeIs gz (jV gz d.typeIs lh ?_ (lw _ _)))));show wpAny (model prog w) _ (kR (.ref t) >>=_) _ _ s;refine Cn (tupleItemsOf_ d (Cn (kH j ?_)));rw[if_pos (by decide)]
 refine Cn (QN l ?_);have k:¬(((a.size:Int) - 1==0&&(-1:Int)==1&&a.size==a.size)=q_):=by simp
 show wpAny (model prog w) _ (if((a.size:Int) - 1==0&&(-1:Int)==1&&a.size==a.size)=q_ then _ else _) _ _ s;rw[if_neg k,Hj]
 first
  |exact Cn (m:=jp _) (iu (Sc ⟨_,rfl,Sc h⟩) c)
  |omega
  |grind
  |grind
theorem MG(a:Array Db):slicePick a p_ p_ (P3 (-1))=a.toList.reverse.toArray:=by
 unfold slicePick;have b:sliceBounds p_ p_ (P3 (-1)) _=((a.size:Int) - 1,-1,-1):=rfl;rw[b];simp only[sliceRange];rw[←Hj,lv]
 congr 1
 have c:(if -1 > 0 then if(a.size:Int) - 1 < -1 then(-1 - ((a.size:Int) - 1)+-1 - 1) / -1 else 0 else if(a.size:Int) - 1 > -1 then((a.size:Int) - 1 - -1 - -1 - 1) / - -1 else 0).toNat=a.size:=by
  grind
 rw[c];refine LR λk _=>?_
 grind
end
section
variable {X:Cx}{e st:Expr}{te tst:TE}{pos p2:Pos}
def e9(K:Frag):V->Hp->VK->Prop:=λx H Q=>(∃a b,x=.ref a/\SqL K H a b/\∀p,H p=p_->Q (.ref p) (A2 H p (.lst b.reverse)))\/∃a b,x=.ref a/\SqT K H a b/\∀p,H p=p_->Q (.ref p) (A2 H p (.tup b.reverse))
def eZ(K:Frag)(te tst:TE):TE:=λa H Q=>te a H λx b=>tst a b λi H2=>i=.int (-1)/\e9 K x H2 Q
theorem aC(D:PE X e te)(l:PE X st tst):PE X (.Subscript e (.Slice p_ p_ (P3 st) p2) pos) (eZ X.K te tst):=by
 intro j s k H Q I h;refine Subscript_ (thn (D j s k H _ I h) λv E ⟨x,F,G,z,J⟩=>?_);refine wpAny_Slice ?_;rw[evalPart_none,evalPart_some];refine Sc (Sc (thn (l j E k F _ G J) λO c ⟨i,L,M,N,m⟩=>?_));let⟨rfl,m⟩:=m;let⟨t,rfl⟩:=N;have d:Inv X j k L {c with heap:=c.heap.push {cls:=.type "slice",data:=.fields #[.none,.none,.int (-1) t]}}:=M.kept (t':=c.toks) λb B q=>Ev _ q;have C:({c with heap:=c.heap.push {cls:=.type "slice",data:=.fields #[.none,.none,.int (-1) t]}}:Go).heap.IsSliceOf c.heap.objs.size .none .none (.int (-1) t):=nh ..;show wpAny (model X.prog X.w) X.A (subscriptTail e (.Slice p_ p_ (P3 st) p2) v (.ref c.heap.objs.size)) (EP X j k Q) X.xe {c with heap:=c.heap.push {cls:=.type "slice",data:=.fields #[.none,.none,.int (-1) t]}}
 rcases m with⟨a,n,rfl,p,q⟩|⟨a,n,rfl,p,q⟩
 ·cases z
  let⟨u,r,f,y⟩:=d.list p;have g:=r.length;refine tail_any (ops:=[.ref a,.ref c.heap.objs.size]) f.isList.typeIs mH.lookup ?_ (by with_unfolding_all rfl);refine wpAny_getItem_list_slice f.isList C .none .none (.int (-1) t) (by decide) ?_ (by rw[gQ];omega);rw[MG];refine⟨.ref _,_,d.laid (t':=c.toks) (o:=.lst n.reverse) (λb B q=>Ev _ q) (On _) ?_,rfl,q _ (d.hok.fresh (On _))⟩;exact⟨by rw[ju];exact y,_,0,r.reverse,XV _ rfl⟩
 ·cases z
  let⟨u,r,f,y⟩:=d.tuple p;have g:=r.length;refine tail_any (ops:=[.ref a,.ref c.heap.objs.size]) f.typeIs gz.lookup ?_ (by with_unfolding_all rfl);refine TF f C (by rw[gQ];omega) ?_;refine⟨.ref _,_,d.laid (t':=c.toks) (o:=.tup n.reverse) (λb B q=>Ev _ q) (On _) ?_,rfl,q _ (d.hok.fresh (On _))⟩;exact⟨by rw[ju];exact y,_,r.reverse,IsTupN.new _ _⟩
def Y3(K:Frag):V->t_ Int->t_ Int->Hp->VK->Prop:=λx c d H Q=>∃a b,x=.ref a/\SqT K H a b/\(HT.sIx b.length 0 c=0/\HT.sIx b.length b.length d=b.length)/\Q (.ref a) H
theorem Xk:SlR X (Y3 X.K):=by
 intro k s l H x v m n o p t Q I d e f g h;let⟨a,u,rfl,i,w,q⟩:=h;cases d;let⟨j,r,b,y⟩:=I.tuple i;have c:=r.length.symm;exact⟨_,_,gz.lookup,b.typeIs,Oo b e f g (by grind) ⟨.ref a,H,I,rfl,q⟩⟩
end
section
variable {X:Cx}
def VY(K:Frag):R2:=λx y H Q=>∃a b c,x=.ref a/\y=.ref b/\SqT K H a []/\SqT K H b c/\Q (.ref b) H
theorem V2:OpR X (binaryOp .Add) (VY X.K):=by
 intro M s N H x y v u Q I l m h;let⟨a,b,O,rfl,rfl,o,p,q⟩:=h;cases l;cases m;let⟨r,t,w,_⟩:=I.tuple o;let⟨g,P,z,_⟩:=I.tuple p;cases t;let⟨⟨A,B,i,C⟩,j,D,n,E⟩:=id w;let⟨⟨k,G,d,J⟩,c,e,L,f⟩:=id z;subst D E e f;exact concat_meets ⟨_,j,rfl⟩ ⟨_,c,rfl⟩ mU seq_tuple_add PySem.F.slot_tuple_add PySem.F.entry_tuple_add (PySem.F.args_tuple_add_2 _ _) (tuple_addW0 a b _ _ n L B _ C _ (by simp)) ⟨j,c,⟨.ref b,H,I,rfl,q⟩⟩
def bI(b:Bool):Int:=if b=q_ then 1 else 0
def eA(g:Int->Int->Int):R2:=λx y H Q=>∃k j,x=.bl k/\y=.int j/\Q (.int (g (bI k) j)) H
def fg(g:Int->Int->Int):R2:=λx y H Q=>∃i k,x=.int i/\y=.bl k/\Q (.int (g i (bI k))) H
theorem op_add_bi:OpR X (binaryOp .Add) (eA λi j=>i+j):=by
 intro c s d H x y v u Q I a b h;let⟨k,j,rfl,rfl,q⟩:=h;cases a;let⟨t,rfl⟩:=b;exact PySem.IntBool.add_bool_int ⟨.int _,H,I.tok _,⟨_,rfl⟩,q⟩
theorem op_sub_bi:OpR X (binaryOp .Sub) (eA λi j=>i - j):=by
 intro c s d H x y v u Q I a b h;let⟨k,j,rfl,rfl,q⟩:=h;cases a;let⟨t,rfl⟩:=b;exact PySem.IntBool.sub_bool_int ⟨.int _,H,I.tok _,⟨_,rfl⟩,q⟩
theorem Tr:OpR X (binaryOp .Sub) (fg λi j=>i - j):=by
 intro c s d H x y v u Q I a b h;let⟨i,k,rfl,rfl,q⟩:=h;let⟨t,rfl⟩:=a;cases b;exact PySem.IntBool.sub_int_bool ⟨.int _,H,I.tok _,⟨_,rfl⟩,q⟩
def cb(c:Bool):R2:=λx y H Q=>∃a b,x=.bl a/\y=.bl b/\Q (.bl (if c then !(a==b)else a==b)) H
theorem Vz:OpR X (compareOp .Is) (cb r_):=by
 intro e s f H x y v u Q I c d h;let⟨a,b,rfl,rfl,q⟩:=h;cases c;cases d;exact is_bool ⟨.bl _,H,I,rfl,q⟩
def Y2:s_ V->Hp->VK->Prop:=λa H Q=>(∃i,a=[.int i]/\i.natAbs.log2<1920/\Q (.str (toString i)) H)\/∃b,a=[.bl b]/\Q (.str (if b then "True" else "False")) H
theorem Ud:Co X (.type "str") Y2:=by
 intro f s a H c d Q I r h
 rcases h with h|⟨b,rfl,q⟩
 ·exact OO _ s a H c d Q I r h
 ·let⟨u,rfl,e⟩:=vals1 r
  cases e;exact PySem.P.str_of_bool ⟨.str _,H,I.tok _,⟨_,rfl⟩,q⟩
theorem U8:∀{c:s_ String}{a:s_ Db},Vals (c.map V.ty) a->a=c.map jW
 |[],a,b=>by cases b;rfl
 | T::r,a,b=>by
  cases b with
  |cons e d=>
   rw[g7,←U8 d]
   congr 1
theorem OP:Co X (.builtin "isinstance") (λd H Q=>∃(x:V) (t:String) (p:Ch) (k:s_ String) (b:Bool),d=[x,.ref p]/\Gd X.K H x (.type t)/\t∈["NoneType","bool","int","str","tuple","list"]/\H p=P3 (.tup (k.map V.ty))/\PySem.W.kitAny X.K (.type t) (k.map jW)=P3 b/\Q (.bl b) H):=by
 intro E s F H d R Q I r h;let⟨x,t,p,k,b,rfl,ty,m,G,e,q⟩:=h;let⟨u,S,rfl,g,J⟩:=vals2 r;cases J;let⟨_,v,L,⟨⟨M,T,A,U⟩,j,B,n,C,_⟩⟩:=(show ObjOk X.prog X.w H s.heap p (.tup (k.map V.ty))from I.hok p _ G);simp only at B C;subst B C;have N:v=k.map jW:=U8 L;subst N;have c:∀D,EP X E F Q (.bool b) {s with toks:=D}:=λD=>⟨.bl b,H,I.tok _,rfl,q⟩;cases ty with
 |non=>cases(show u=g8 from g);exact PySem.W.kia_tup PySem.W.kitx_none I.kIn ip j e (λz=>nomatch z) c
 |bl y=>cases(show u=kn y from g);exact PySem.W.kia_tup PySem.W.kitx_bool I.kIn ip j e (λz=>nomatch z) c
 |int i=>let⟨t,q⟩:=(show ∃t,u=nY i t from g);cases q;exact PySem.W.kia_tup PySem.W.kitx_int I.kIn ip j e (λz=>nomatch z) c
 |str y=>let⟨t,q⟩:=(show ∃t,u=nZ y t from g);cases q;exact PySem.W.kia_tup PySem.W.kitx_str I.kIn ip j e (λz=>nomatch z) c
 |flt y=>simp at m
 |@lst a d f=>
  cases(show u=gY a from g);let⟨_,_,n,_,l⟩:=(show ObjOk X.prog X.w H s.heap a (.lst d)from I.hok a _ f);exact PySem.W.kia_tup PySem.W.kitx_list I.kIn ⟨_,l,rfl⟩ j e (λz=>nomatch z) c
 |@frz a O d f=>
  cases(show u=gY a from g);let⟨_,_,_,n,_,l⟩:=(show ObjOk X.prog X.w H s.heap a (.frz O (.lst d))from I.hok a _ f);exact PySem.W.kia_tup PySem.W.kitx_list I.kIn ⟨_,l,rfl⟩ j e (λz=>nomatch z) c
 |@tup a d f=>
  cases(show u=gY a from g);let⟨_,_,_,p⟩:=(show ObjOk X.prog X.w H s.heap a (.tup d)from I.hok a _ f);let⟨o,l,P,_⟩:=p;exact PySem.W.kia_tup PySem.W.kitx_tuple I.kIn ⟨o,l,P⟩ j e (λz=>nomatch z) c
 |dK f=>simp at m
 |dF f=>simp at m
 |dT f=>simp at m
end
end L2
namespace Dp
open L2
section
variable {K:Frag}{X:Cx}
def A0(d e:D)(P:D->Prop):Prop:=match d,e with
 |.int i,.int j=>P (.int (i+j))
 |.bl k,.int j=>P (.int (bI k+j))
 |.str i,.str j=>i.length+j.length<=sizeLine/\P (.str (i++j))
 |.tup i,.tup j=>i.length+j.length<=sizeLine/\P (.tup (i++j))
 |.lst i,.lst j=>i.length+j.length<=sizeLine/\P (.lst (i++j))
 |_,_=>False
def Y_(K:Frag):R2:=λx y H Q=>Va K x y H Q\/(eA λi j=>i+j) x y H Q\/VY K x y H Q
theorem Ap:OpR X (binaryOp .Add) (Y_ X.K):=op_addU.or (op_add_bi.or V2)
theorem A4:GW X.K .sh (Y_ X.K) A0:=λU M H d e x y P Q c h f g w q=>by
 unfold A0 at w
 split at w
 ·exact .inl (OX U M H (.int _) (.int _) x y P Q c h f g w q)
 ·rename_i k j
  exact .inr (.inl ⟨k,j,f,g,q _ H (.int _) .refl rfl w⟩)
 ·exact .inl (OX U M H _ (.str _) x y P Q c h f g w q)
 ·rename_i i j
  cases i with
  |nil=>
   let⟨a,r,rfl,n,o⟩:=f.tup;let⟨b,l,rfl,m,p⟩:=g.tup;cases(o);exact .inr (.inr ⟨a,b,l,rfl,rfl,n.sq,m.sq,q _ H (.tup j) .refl ⟨b,l,rfl,m,p⟩ (by grind)⟩)
  |cons s i=>exact .inl (OX U M H _ (.tup j) x y P Q c h f g ⟨(by grind),w⟩ q)
 ·exact .inl (OX U M H (.lst _) (.lst _) x y P Q c h f g w q)
 grind
def LU(d e:D)(P:D->Prop):Prop:=match d,e with
 |.int i,.int j=>P (.int (i - j))
 |.bl k,.int j=>P (.int (bI k - j))
 |.int i,.bl k=>P (.int (i - bI k))
 |_,_=>False
def Y0:R2:=λx y H Q=>(JX λi j=>.int (i - j)) x y H Q\/(eA λi j=>i - j) x y H Q\/(fg λi j=>i - j) x y H Q
theorem GI:OpR X (binaryOp .Sub) Y0:=op_sub.or (op_sub_bi.or Tr)
theorem JP:GW K .sh Y0 LU:=λU M H d e x y P Q a f b c w q=>by
 unfold LU at w
 split at w
 ·exact .inl (W5 U M H _ _ x y P Q a f b c w q)
 ·rename_i k j
  exact .inr (.inl ⟨k,j,b,c,q _ H (.int _) .refl rfl w⟩)
 ·rename_i i k
  exact .inr (.inr ⟨i,k,b,c,q _ H (.int _) .refl rfl w⟩)
 grind
def YT(c:Bool)(d e:D)(P:D->Prop):Prop:=match d,e with
 |.bl a,.bl b=>P (.bl (if c then !(a==b)else a==b))
 |_,_=>False
theorem ZS{c:Bool}:GW K .sh (cb c) (YT c):=λU M H d e x y P Q f i g h w q=>by
 unfold YT at w
 split at w
 ·rename_i a b
  exact⟨a,b,g,h,q _ H (.bl _) .refl rfl w⟩
 grind
def WS(a:s_ D)(P:D->Prop):Prop:=match a with
 |[.int i]=>i.natAbs.log2<1920/\(iG (toString i)).length<=sizeLine/\P (.str (toString i))
 |[.bl b]=>P (.str (if b then "True" else "False"))
 |_=>False
theorem bG:D7 K .sh Y2 WS:=by
 intro U M H e f P Q d g c w q;unfold WS at w
 split at w
 ·rename_i i
  let⟨v,rfl,a⟩:=C4 c;rw[a.int];exact .inl ⟨i,rfl,w.1,q _ H (.str _) .refl ⟨rfl,w.2.1⟩ w.2.2⟩
 ·rename_i b
  let⟨v,rfl,a⟩:=C4 c;rw[a.bl];refine .inr ⟨b,rfl,q _ H (.str _) .refl ⟨rfl,?_⟩ w⟩;cases b <;>(decide)
 grind
def ER(d:D)(a b:t_ Int)(P:D->Prop):Prop:=match d with
 |.str z=>P (.str (Txt.slice z a b))
 |.lst c=>P (.lst (cutD c a b))
 |.tup c=>P (.tup (cutD c a b))
 |_=>False
def cS(K:Frag):V->t_ Int->t_ Int->Hp->VK->Prop:=λx a b H Q=>cP x a b H Q\/cR K x a b H Q\/cQ K x a b H Q\/Y3 K x a b H Q
theorem GX:SlR X (cS X.K):=sl_U.or (sl_list.or (sl_tup.or Xk))
theorem Sn{M:Ch->Prop}{H:Hp}{a:s_ D}{b:s_ V}(c d:t_ Int)(h:Ats K M H a b):Ats K M H (cutD a c d) (P_ b c d):=by
 unfold cutD P_;rw[h.length];exact(h.drop _).take _
theorem DX:ft K .sh (cS K) ER:=by
 intro U M H d x c f P Q h n i w q;unfold ER at w
 split at w
 ·rename_i z
  exact .inl ⟨z,i.str.1,i.str.2,q _ H (.str (Txt.slice z c f)) .refl ⟨rfl,gc (Txt.slice_le z c f) i.str.2⟩ w⟩
 ·rename_i l
  let⟨a,b,rfl,_,j,g⟩:=i;exact .inr (.inl ⟨a,b,rfl,.inl j,λp k=>q _ _ (.lst _) (Ar k) ((C8 (U:=U) k (Sn c f g)).shOf h (by grind)) w⟩)
 ·rename_i l
  let⟨a,b,rfl,j,g⟩:=i.tup
  by_cases m:HT.sIx b.length 0 c=0/\HT.sIx b.length b.length f=b.length
  ·refine .inr (.inr (.inr ⟨a,b,rfl,j.sq,m,?_⟩))
   have e:cutD l c f=l:=by
    unfold cutD;rw[←g.length,m.1,m.2,nG,Nat.sub_zero,g.length,lJ]
   rw[e]at w;exact q _ H (.tup l) .refl ⟨a,b,rfl,j,g⟩ w
  ·exact .inr (.inr (.inl ⟨a,b,rfl,j.sq,m,λp k=>q _ _ (.tup _) (Ar k) (C7 h k (Sn c f g)) w⟩))
 grind
def bv(f a:DW):DW:=λn c P=>f n c λd g=>a g c λi e=>i=.int (-1)/\match d with
 |.lst b=>P (.lst b.reverse) e
 |.tup b=>P (.tup b.reverse) e
 |_=>False
theorem ax{a B:gj}{I m:Kd}{D c:DW}{pos b:Pos}(e:DE X a I D)(o:DE X B m c):DE X (.Subscript a (.Slice p_ p_ (P3 B) b) pos) .sh (bv D c):=by
 let⟨t,J,L⟩:=e;let⟨u,N,O⟩:=o;refine⟨_,aC J N,λC M H n E F P Q R w q=>?_⟩;refine L C M H n E F _ _ R w λv S d T r W Y p=>?_;have s:=R.step r W;have Z:=Y.tpOf R.dom R.vM;refine O C M S T E F _ _ s p λi H2 z G f x r2 b=>?_;have h:=s.step f x;have j:=Z.pres (s.pres f) f R.uV;let⟨rfl,b⟩:=b;exists LO r2;cases d with
 |lst y=>
  let⟨a,k,rfl,_,e,A⟩:=j;refine .inl ⟨a,k,rfl,.inl e,λp l=>?_⟩;have g:Grow H2 (A2 H2 p (.lst k.reverse)):=Ar l;exact q _ _ (.lst y.reverse) G ((r.trans f).trans g.ext) (x.grow g) ((C8 (U:=C.V) l A.reverse).shOf h.dom (by intro z;cases z)) b
 |tup y=>
  let⟨a,k,rfl,e,A⟩:=j.tup;refine .inr ⟨a,k,rfl,e.sq,λp l=>?_⟩;have g:Grow H2 (A2 H2 p (.tup k.reverse)):=Ar l;exact q _ _ (.tup y.reverse) G ((r.trans f).trans g.ext) (x.grow g) (C7 h.dom l A.reverse) b
 |_=>exact b.elim
def Z9(d:D):Prop:=match d with
 |.dic _ _=>False
 |.fdi _ _=>False
 |.dit _ _=>False
 |_=>True
def Uz(a b:String)(c:DW):DW:=λn e P=>c n e λd f=>Z9 d/\P (.bl (Ps (Xb d) a||Ps (Xb d) b)) f
theorem UJ{a b t:String}(d:MK K a)(e:MK K b)(c:t∈["NoneType","bool","int","str","tuple","list","dict"]):PySem.W.kitAny K (.type t) [.type a,.type b]=P3 (Ps t a||Ps t b):=by
 unfold PySem.W.kitAny;rw[d.ans t c];cases Ps t a with
 |true=>rfl
 |false=>
  unfold PySem.W.kitAny;rw[e.ans t c];cases Ps t b <;>rfl
theorem OJ{a:gj}{T:Kd}{N:DW}{h i:String}{c b:Str}{j:Nat}{p f e k pos:Pos}(U:MK X.K h)(V:MK X.K i)(W:DE X a T N)(Y:Gl X "isinstance")(Z:X.mg "isinstance"=p_)(m:Gl X c)(o:X.mg c=p_)(r:bootBuiltins c=P3 (.type h))
  (s:Gl X b) (u:X.mg b=p_) (x:bootBuiltins b=P3 (.type i))
  (y:c ≠ "__name__":=by decide) (z:(c==("__debug__":Str))=r_:=by decide) (A:b ≠ "__name__":=by decide) (B:(b==("__debug__":Str))=r_:=by decide)
  (O:starEach [a,.Tuple [.Name c f,.Name b e] j k] X.env=(r_,eval a X.env)::starEach [.Tuple [.Name c f,.Name b e] j k] X.env:=by rfl)
  (D:starEach [.Tuple [.Name c f,.Name b e] j k] X.env=[(r_,eval (.Tuple [.Name c f,.Name b e] j k) X.env)]:=by rfl)
  (E:starEach [.Name c f,.Name b e] X.env=(r_,eval (.Name c f) X.env)::starEach [.Name b e] X.env:=by rfl) (F:starEach [.Name b e] X.env=[(r_,eval (.Name b e) X.env)]:=by rfl)
  (G:(backTo pos (starEach [.Tuple [.Name c f,.Name b e] j k] X.env)).any (·.1)=r_:=by rfl):DE X (.Call (.Name "isinstance" p) [a,.Tuple [.Name c f,.Name b e] j k] [] pos) .sh (Uz h i N):=by
 let⟨t,h1,h2⟩:=W;have I:PE X (.Name c f) (tC (.ty h)):=Nm m o r rfl y z;have J:PE X (.Name b e) (tC (.ty i)):=Nm s u x rfl A B;refine⟨_,Fc OP Y Z (by decide +kernel) (BF h1 (BF (Vq (BF I (BF J B6 F) E)) B6 D) O) (by decide) (by decide) O G,λC M H n ρ σ P Q R w q=>?_⟩;refine h2 C M H n ρ σ _ _ R w λv S d n1 e1 f1 r1 p=>?_;refine⟨(by decide:2<=sizeLine),λtp L=>?_⟩;have g:Grow S (A2 S tp (.tup [.ty h,.ty i])):=Ar L;have tv:=(r1.tpOf R.dom R.vM).pres g.pres (g.ext) R.uV;let⟨hk,p⟩:=p;have l:Xb d∈["NoneType","bool","int","str","tuple","list"]:=by cases d <;>first|exact hk.elim|simp[Xb]
 exists v,Xb d,tp,[h,i],_,rfl,Rk tv,l,AX,UJ U V (Rl d);exact q _ _ (.bl _) n1 (e1.trans g.ext) (f1.grow g) rfl p
def ZK:D->D->(D->Prop)->Prop:=eJ λi j P=>i.length+j.length<=sizeLine/\P (.lst (i++j))
end
end Dp
namespace Nt
open L2 Dp
def BG:W2:=λa n P=>∃m:Int,a=[.fd,.sh (.int m)]/\1<=m/\m<1073741824/\1<=n/\∀r:Int,0<=r->r<m->P (.int r) (n - 1)
def Yo:W2:=λa n P=>∃s:Int,a=[.fd,.sh (.int s)]/\1<=n/\∀r:Int,1<=r->r<=1000000->P (.int r) (n - 1)
def Gv:AY:=(Ad (BK (AW (AV (HL r_) (AC 1) (wC (D.int 0)))) (Au (AV A0 (wC (D.int 1)) (AQ BG (AB (Az 0) (AB (AG (wC (D.int 3))) AO))))) Aw)
 (Ad (BK (AW (AV (HL r_) (AC 1) (wC (D.int 1)))) (Au (AV A0 (wC (D.int 1)) (AQ BG (AB (Az 0) (AB (AG (wC (D.int 12))) AO))))) Aw)
 (Au (Xa (AW (AV (HL r_) (AC 1) (wC (D.int 2)))) (AV LU (AV (QS ML λi j=>D.int (i ^ j.toNat)) (wC (D.int 10)) (wC (D.int 6))) (AQ BG (AB (Az 0) (AB (AG (wC (D.int 5))) AO)))) (AV A0 (wC (D.int 1)) (AQ BG (AB (Az 0) (AB (AG (AV (QS ML λi j=>D.int (i ^ j.toNat)) (wC (D.int 10)) (wC (D.int 6)))) AO))))))))
def Gs:AY:=(Ad (Ay 2 (AQ BG (AB (Az 0) (AB (AG (wC (D.int 3))) AO))))
 (Ad (Ay 3 (DZ (AF (wC (D.str "a")) (AF (wC (D.str "aa")) (AF (wC (D.str "ab")) (AF (wC (D.str "b")) (AF (wC (D.str "far")) (AF (wC (D.str "in")) (AF (wC (D.str "near")) (AF (wC (D.str "out")) (AF (wC (D.str "place")) (AF (wC (D.str "tie")) (AF (wC (D.str "ties")) (AF (wC (D.str "way")) AU))))))))))))))
 (Ad (BK (Kf (AW (AV (HL r_) (AC 2) (wC (D.int 0)))) (AW (AV Fn (AC 1) (wC (D.int 13))))) (Ad (Ay 4 (AQ BG (AB (Az 0) (AB (AG (wC (D.int 12))) AO))))
 (Au (Cp LV (AF (Bp [P3 3,P3 4,p_] (Eb (AF (AC 1) AU)) (Ae 2) DB (AV BC (AC 0) (AV (QS (λ_ j=>0<j) λi j=>D.int (i % j)) (AV A0 (AC 1) (AC 2)) (wC (D.int 12))))) AU)))) Aw)
 (Ad (Ay 5 (wC (D.str "abcdefghijklmnopqrstuvwxyz")))
 (Ad (Ay 6 (d8 "str" WW (wC (D.str "")) (AF (Bp [P3 5,P3 0,p_] (Eb (AF (wC (D.int 8)) AU)) (Ae 2) DB (AV BC (AC 0) (AQ BG (AB (Az 1) (AB (AG (wC (D.int 26))) AO))))) AU)))
 (Ad (BK (Kf (AW (AV (HL r_) (AC 2) (wC (D.int 1)))) (AW (AV Fn (AC 1) (wC (D.int 9))))) (Au (Bp [P3 6,p_] (Eb (AF (AC 1) AU)) (Ae 1) DB (MO ER (AC 0) Bj (Bx (AV A0 (wC (D.int 1)) (AC 1)))))) Aw)
 (Ad (Ay 7 (AQ BG (AB (Az 0) (AB (AG (wC (D.int 7))) AO))))
 (Ad (Ay 4 (AQ BG (AB (Az 0) (AB (AG (wC (D.int 26))) AO))))
 (Ad (C3 8 (DZ AU))
 (Ad (D9 (Eb (AF (AC 1) AU)) (Ae 9) (Ad (Ay 10 (AV BC (AC 5) (AV (QS (λ_ j=>0<j) λi j=>D.int (i % j)) (AV A0 (AC 4) (AC 9)) (wC (D.int 26)))))
 (Od 8 "list" Fp (AF (AV A0 (AV A0 (AV A0 (MO ER (AC 6) Bj (Bx (AC 7))) (AC 10)) (MO ER (AC 6) (Bx (AV A0 (AC 7) (wC (D.int 1)))) (Bx (wC (D.int 7))))) (AV Cf (wC (D.str "z")) (AV (QS (λ_ j=>0<j) λi j=>D.int (i % j)) (AC 9) (wC (D.int 2))))) AU))))
 (Au (Cp LV (AF (Av 8) AU)))))))))))))
def cs(x:Str):s_ Nat:=x.cps.toList
theorem EU(x:Str):(cs x).length=x.length:=iz
theorem bC{x y:Str}(h:cs x=cs y):x=y:=by
 let⟨a⟩:=x;unfold cs at h
 simp_all
theorem Lf(x y:Str):cs (x++y)=cs x++cs y:=PySem.W.KT.app_list x y
theorem ZP{x:Str}{j:Int}(a:0<=j)(b:j<=(x.length:Int)):cs (Txt.slice x p_ (P3 j))=(cs x).take j.toNat:=by
 have e:x.cps.toList.length=x.length:=by rw[show x.cps.toList.length=x.length from EU x]
 rw[eq_of_beq (slice_closes_to ⟨a,by omega⟩)];show((x.cps.toList.drop _).take _)=(x.cps.toList).take _
 grind
theorem bB{x:Str}{i j:Int}(a:0<=i)(b:i<=j)(c:j<=(x.length:Int)):cs (Txt.slice x (P3 i) (P3 j))=((cs x).drop i.toNat).take (j - i).toNat:=by
 have e:x.cps.toList.length=x.length:=by rw[show x.cps.toList.length=x.length from EU x]
 rw[eq_of_beq (slice_closes ⟨a,b,by omega⟩)];rfl
def YH(x:Str):Prop:=1<=x.length/\x.length<=8/\∀c∈cs x,97<=c/\c<=122
def rising(a:s_ Str):Prop:=a.Pairwise λx y=>cs x<cs y
theorem V6(a b:s_ Nat):ltCps a b=decide (a<b):=ltCps_eq a b
theorem JY:∀(l:s_ Str) (p:Str),risingS p l=q_->(p::l).Pairwise λa b=>¬cs b<cs a
 |[],p,_=>k7 _ _
 |x::r,p,h=>by
  have c:(!ltCps _ _&&risingS x r)=q_:=h;rw[gX,Bool.not_eq_true',V6,decide_eq_false_iff_not]at c;have e:=JY r x c.2;refine iL.mpr ⟨λy d=>?_,e⟩
  rcases TW.mp d with rfl|d
  ·exact c.1
  ·exact List.le_trans c.1 ((iL.mp e).1 y d)
theorem Gi{l:s_ Str}(h:sortedS l=q_)(nd:l.Nodup):rising l:=by
 have c:l.Pairwise λa b=>¬cs b<cs a:=by
  cases l with
  |nil=>simp_all
  |cons x r=>exact JY r x h
 exact(c.and nd).imp λ{a b} ⟨d,e⟩=>kd λf=>e (bC (List.le_antisymm d f))
theorem Rn:∀(l:s_ Nat) (i j:Nat),i<j->i<l.length->l.take i<l.take j
 |[],_,_,_,h=>absurd h (Nat.not_lt_zero _)
 |c::r,0,j+1,_,_=>List.nil_lt_cons _ _
 |c::r,i+1,j+1,a,b=>List.cons_lt_cons_iff.mpr (.inr ⟨rfl,Rn r i j (by omega) (by simp_all)⟩)
theorem Mb{b:BW}{m:DW}{P:s_ D->Nat->Prop}(I:Nat->Nat->s_ D->s_ Slot->Prop)(g:∀n a c,I 0 n a c->P a n)
  (e:∀(k:Nat) (d:D) (n:Nat) (a:s_ D) (c:s_ Slot) (o:s_ D->Nat->s_ Slot->Prop),I (k+1) n a c->(∀f i l,I k i f l->o f i l)->b d c λp=>m n p λy q=>o (a++[y]) q p):
  ∀(j a:s_ D) (n:Nat) (c:s_ Slot),I j.length n a c->C5 b DB m P j a n c
 |[],a,n,c,h=>g n _ c h
 |d::j,a,n,c,h=>e _ d n _ c _ h λf i l r=>Mb I g e j _ i _ r
theorem CZ(a:Int)(n:Nat):(Dq a n).length=n:=by unfold Dq;grind
theorem O6{a:Int}{n:Nat}{d:D}(h:d∈Dq a n):∃k:Nat,k<n/\d=.int (a+k):=by
 let⟨k,b,rfl⟩:=TM.mp h;exact⟨k,iT.mp b,rfl⟩
theorem Te{d:s_ Slot}{n:Nat}{b:D->Nat->Prop}(h:Yo d n b):Gv {nx:=λn _=>Kd.sh=.sh/\b .non n,rt:=b} n (d++Uf 0 .no):=by
 let⟨s,rfl,f,p⟩:=h;unfold Gv;refine CB (λ_=>⟨3,rfl,by decide,by decide,by omega,λr c a=>p _ (by omega) (by omega)⟩) λ_=>?_;refine CB (λ_=>⟨12,rfl,by decide,by decide,by omega,λr c a=>p _ (by omega) (by omega)⟩) λ_=>?_;refine CB (λ_=>⟨⟨by decide,by decide,by decide⟩,5,rfl,by decide,by decide,by omega,λr c a=>?_⟩) λ_=>⟨⟨by decide,by decide,by decide⟩,_,rfl,by decide,by decide,by omega,λr c a=>?_⟩
 ·have e:((10:Int) ^ (6:Int).toNat)=1000000:=by decide
  exact p _ (by rw[e];omega) (by rw[e];omega)
 ·have e:((10:Int) ^ (6:Int).toNat)=1000000:=by decide
  rw[e]at a;exact p _ (by omega) (by omega)
end Nt
namespace L2
section
variable {K:Frag}{n1 n2:Str}{C U U':Addr}
theorem XC.name(c:XC K n1 C U)(d:XC K n2 C U'):n1=n2:=by
 let⟨f,g,_,_,h⟩:=c.cls;let⟨a,b,_,_,e⟩:=d.cls
 grind
theorem XC.nameU(c:XC K n1 C U)(d:XC K n2 U U'):n2="ThinError":=by
 let⟨q,N,i,j,b,k,f,l,m,n,o,p,r,s,e⟩:=c.up;let⟨g,a,_,_,h⟩:=d.cls;unfold PySem.W.clsIn at a;rw[e]at a
 grind
end
end L2
namespace Dp
open L2
def fo(M:Ch->Prop)(H:Hp)(a:t_ Ch)(b:s_ Str)(c:s_ V):Prop:=a=p_/\b=[]/\c=[]\/∃d,a=P3 d/\¬M d/\H d=P3 (.ext (XF d (b.zip c)))
abbrev PX:=Str->s_ Str->s_ D->Nat->Prop
abbrev WX:=s_ Slot->Nat->(D->Nat->Prop)->PX->Prop
def LiftX(K:Frag)(F:t_ (Ch×Ch))(U M:Ch->Prop)(H:Hp)(h:PX)(E:XK):Prop:=∀d C i b c e f a g,Ext U H a->FeedC K F M a g->XC K d C i->fo M a f b e->b.length=c.length->Ats K M a c e->h d b c g->E (.ref C) f a
def cI(K:Frag)(h:Kd)(W:WX)(i:Nat):Sp:=λb H Q E=>b.length=i/\∃(F:t_ (Ch×Ch)) (U c M:Ch->Prop) (n:Nat) (e:s_ Slot) (P:D->Nat->Prop) (f:PX),bQ K F U c M H n e b/\W e n P f /\
 (∀v a d g,Ext U H a->FeedC K F M a g->VR K c M H a h v d->P d g->Q v a)/\LiftX K F U M H f E
section
variable {K:Frag}{C:Fm}{M:Addr->Prop}{H:Hp}{n:Nat}{ρ:s_ Slot}{σ:L2.St}
theorem Rel.setS(R:Rel K C M H n ρ σ){i:Nat}{s:Slot}{o:t_ V}(x:s.owns=r_)(y:∀d,s≠.br d)(h:SlotOk K C.F C.V M H s o):Rel K C M H n (ρ.set i s) (σ.set i o):=by
 have b:∀(j:Nat) (t:Slot),(ρ.set i s)[j]?=P3 t->t.owns=q_->ρ[j]?=P3 t/\((σ.set i o)[j]?).getD p_=(σ[j]?).getD p_:=λj t q w=>by
  rcases Er q with⟨_,_,rfl⟩|⟨f,q⟩
  ·rw[x]at w;cases w
  ·exact⟨q,G3 f⟩
 refine⟨by rw[i7,i7];exact R.len,R.sub,R.dom,R.ext,R.fU,R.uV,R.vM,R.feed,λj s q=>?_,R.pin,λj e a q c=>?_,λj s a q o c=>?_,λj k s t a g m c r u v=>?_,λp z=>?_⟩
 ·rcases Er q with⟨rfl,A,rfl⟩|⟨f,q⟩
  ·rw[Qe (by rw[←R.len];exact A)]
   exact h
  ·rw[G3 f]
   exact R.sl j s q
 ·rcases Er q with⟨_,_,e⟩|⟨f,q⟩
  ·exact absurd e.symm (y _)
  ·rw[G3 f]at c
   exact R.br0 j e a q c
 ·let⟨g,e⟩:=b j s q o
  rw[e]at c;exact R.new j s a g o c
 ·let⟨B,D⟩:=b j s g m
  let⟨E,l⟩:=b k t c r;rw[D]at u;rw[l]at v;exact R.two j k s t a B m E r u v
 ·let⟨G,I,J,L⟩:=R.kept p z
  refine⟨G,I,J,λj e q=>?_⟩;let⟨g,l⟩:=b j _ q rfl;rw[l];exact L j e g
end
def bq(d:Fm->Prop)(X:Cx)(e:Kd)(f:gm)(w:AY):Prop:=∃t,PS X f t/\∀(C:Fm) (M:Ch->Prop) (H:Hp) (n:Nat) (a:s_ Slot) (b:L2.St) (c:E2) (E:Ends),d C->Rel X.K C M H n a b->GF X.K C e c E->w c n a->t E b H
def QR(d:Fm->Prop)(X:Cx)(e:Kd)(f:s_ gm)(w:AY):Prop:=∃t,PSs X f t/\∀(C:Fm) (M:Ch->Prop) (H:Hp) (n:Nat) (a:s_ Slot) (b:L2.St) (c:E2) (E:Ends),d C->Rel X.K C M H n a b->GF X.K C e c E->w c n a->t E b H
section
variable {Φ:Fm->Prop}{X:Cx}{κ:Kd}{st:Stmt}{rest:s_ Stmt}{u v:AY}{wA:Gg}{c:Expr}{pos p:Pos}
theorem OG(h:DS X κ st u):bq Φ X κ st u:=let ⟨t,a,b⟩:=h;⟨t,a,λC M H n c d e E _=>b C M H n c d e E⟩
theorem IB(h:QU X κ rest u):QR Φ X κ rest u:=let ⟨t,a,b⟩:=h;⟨t,a,λC M H n c d e E _=>b C M H n c d e E⟩
theorem Cz(e:bq Φ X κ st u)(f:QR Φ X κ rest v):QR Φ X κ (st::rest) (Ad u v):=by
 let⟨t,g,h⟩:=e;let⟨k,i,j⟩:=f;exact⟨_,BD g i,λC M H n a b c E d R L w=>h C M H n a b {c with nx:=v c} _ d R ⟨λM H n a b R w=>j C M H n a b c E d R L w,L.rt,L.bk,L.ct⟩ w⟩
theorem Cg(a:bq Φ X κ st u):QR Φ X κ [st] u:=by
 let⟨t,b,c⟩:=a;exact⟨t,CL b,c⟩
theorem La{a b:s_ gm}(l:DT X c wA)(m:QR Φ X κ a u)(o:QR Φ X κ b v):bq Φ X κ (.If c a b pos) (BK wA u v):=by
 let⟨t,q,r⟩:=l;let⟨B,s,x⟩:=m;let⟨y,z,A⟩:=o;refine⟨_,MZ q s z,λC M H n d e f E g R L w=>?_⟩;refine r C M H n d e _ _ R w λb h i j k p=>?_;cases b with
 |true=>exact x C M h i d e f E g (R.step j k) L p
 |false=>exact A C M h i d e f E g (R.step j k) L p
end
def XB(P:gi)(w:gn)(K:Frag)(b:Str->t_ Db)(a:gf)(c:Str)(d:s_ Str)(k:Nat):Prop:=∃C U,XC K c C U/\b c=P3 (.ref C) /\
 ((d=[]/\PySem.W.findIn K (.ref C) "__init__"=P3 (P3 (.builtin "ValueError.__init__")))\/∃e g f fd h i j,d=[e,g]/\PySem.W.findIn K (.ref C) "__init__"=P3 (P3 (.ref f))/\PySem.W.typeIn K (.ref f)=P3 (.type "function")/\A3 P w K b a CA k f fd [h,i,j] (Kp C e g)/\Binds K fd [h,i,j] [])
def G1(d:Str)(a:s_ Str)(b:D8):E2->PX->Nat->s_ Slot->Prop:=λ_ e n g=>b n g λc f=>(a=[]/\c.length<=100/\e d [] [] f)\/(a.length=2/\c.length=2/\e d a c f)
abbrev Yq:=E2->PX->Nat->s_ Slot->Prop
def d6(X:Cx)(e:Kd)(f:gm)(w:Yq):Prop:=∃t,bR X f t/\∀(C:Fm) (M:Ch->Prop) (H:Hp) (n:Nat) (a:s_ Slot) (b:L2.St) (c:E2) (E:Ends) (R:XK) (d:PX),Rel X.K C M H n a b->GF X.K C e c E->LiftX X.K C.F C.U M H d R->w c d n a->t E R b H
def Yr(X:Cx)(e:Kd)(f:s_ gm)(w:Yq):Prop:=∃t,XA X f t/\∀(C:Fm) (M:Ch->Prop) (H:Hp) (n:Nat) (a:s_ Slot) (b:L2.St) (c:E2) (E:Ends) (R:XK) (d:PX),Rel X.K C M H n a b->GF X.K C e c E->LiftX X.K C.F C.U M H d R->w c d n a->t E R b H
theorem LiftX.step{K:Frag}{F:t_ (Ch×Ch)}{U M:Ch->Prop}{H a:Hp}{b:PX}{E:XK}(h:LiftX K F U M H b E)(e:Ext U H a):LiftX K F U M a b E:=λc C d f g i j k l m=>h c C d f g i j k l (e.trans m)
section
variable {X:Cx}{κ:Kd}{st:Stmt}{u v:Yq}{wA:Gg}{c e:Expr}{es:s_ Expr}{pos cpos p:Pos}{nm:Str}{ks:s_ Str}{k:Nat}{was:D8}
def bx(t:Gg)(u v:Yq):Yq:=λb d n a=>t n a λc e=>if c=q_ then u b d e a else v b d e a
theorem LZ(a:d6 X κ st u):Yr X κ [st] u:=by
 let⟨t,b,c⟩:=a;exact⟨t,Vf b,c⟩
theorem am{a b:s_ gm}(m:DT X c wA)(o:Yr X κ a u)(q:Yr X κ b v):d6 X κ (.If c a b pos) (bx wA u v):=by
 let⟨t,s,x⟩:=m;let⟨F,y,z⟩:=o;let⟨A,B,D⟩:=q;refine⟨_,Z6 s y B,λC M H n e f g E R h r L l w=>?_⟩;refine x C M H n e f _ _ r w λb i j d k p=>?_;cases b with
 |true=>exact z C M i j e f g E R h (r.step d k) L (l.step d) p
 |false=>exact D C M i j e f g E R h (r.step d k) L (l.step d) p
theorem Eg(G:XB X.prog X.w X.K X.mg X.base nm ks k)(J:Room (k+1) X.A)(N:Gl X nm)(ha:XD X (e::es) was)(a:(nm==("__debug__":Str))=r_:=by decide)(O:starEach (e::es) X.env=(r_,eval e X.env)::starEach es X.env:=by rfl)(b:(backTo cpos (starEach es X.env)).any (·.1)=r_:=by rfl)
  (c:(e::es).length<=sizeLine:=by decide):d6 X κ (.Raise (P3 (.Call (.Name nm p) (e::es) [] cpos)) p_ pos) (G1 nm ks was):=by
 let⟨C,U,h,P,G⟩:=G;let⟨t,Q,S⟩:=ha
 rcases G with⟨rfl,s⟩|⟨T,V,f,fd,p0,p1,p2,rfl,s,hf,F,hb⟩
 ·refine⟨_,Qu h s J.hd N P Q a O b,λu M H n x y D2 E R Pr r L l w=>?_⟩
  refine S u M H n x y _ _ r w λW Y Z B i j m p=>?_
  rcases p with⟨_,c,p⟩|⟨z,_⟩
  ·exact⟨by rw[m.length,PySem.sizeLine_eq];omega,l nm C U [] [] [] p_ Y B i j h (.inl ⟨rfl,rfl,rfl⟩) rfl rfl p⟩
  ·cases z
 ·refine⟨_,Qt h s hf F hb J N P Q a O b,λu M H n x y D2 E R Pr r L l w=>?_⟩
  refine S u M H n x y _ _ r w λW Y Z B i j m p=>?_
  rcases p with⟨z,_⟩|⟨_,c,p⟩
  ·cases z
  ·have hv:=m.length
   rw[c]at hv
   match W,hv with
   | [D,I],_=>
    refine⟨D,I,rfl,λd hd=>?_⟩;have g:=Ar (o:=.ext (XF d [(T,D),(V,I)])) hd
    have nd:¬M d:=λz=>by
     let⟨o,q⟩:=(r.step i j).dom d z;rw[hd]at q;cases q
    exact l nm C U [T,V] Z [D,I] (P3 d) _ B (i.trans g.ext) (j.grow g) h (.inr ⟨d,rfl,nd,AX⟩) c.symm (m.pres g.pres) p
theorem Dy{R:XK}{j:Fm->Prop}{b:PX}{k:t_ (Ch×Ch)}{l m:Ch->Prop}{o:Hp}{w:Yq}(q:JV (Ra X.prog X.w) X R)(s:LiftX X.K k l m o b R)(c:∀C,j C->C.F=k/\C.U=l/\C.M0=m/\C.H0=o)(h:d6 X κ st w):bq j X κ st (λg=>w g b):=by
 let⟨t,u,x⟩:=h;refine⟨_,Tg q u,λC M H n y A g E B r L w=>?_⟩;let⟨rfl,rfl,rfl,rfl⟩:=c C B;refine x C M H n y A g E R b r L (λnm D G ks I J N i O e f P xd Q S p=>?_) w;have a:Pres M i _ i:=Pres.less r.sub;refine s nm D G ks I J N i O (r.ext.trans e) (f.pres a λ_ _ _ z=>z) P ?_ Q (S.pres a) p
 rcases xd with z|⟨d,T,V,W⟩
 ·exact .inl z
 ·exact .inr ⟨d,T,λz=>V (r.sub d z),W⟩
def eQ(X:Cx)(e:gj)(κ:Kd)(w:Nat->s_ Slot->(D->Nat->Prop)->PX->Prop):Prop:=∃t,df X e t/\∀(C:Fm) (M:Ch->Prop) (H:Hp) (n:Nat) (b:s_ Slot) (c:L2.St) (P:D->Nat->Prop) (Q:VK) (R:XK) (f:PX),Rel X.K C M H n b c->LiftX X.K C.F C.U M H f R->w n b P f->
 (∀v a d g,Ext C.U H a->FeedC X.K C.F M a g->VR X.K C.V M H a κ v d->P d g->Q v a)->t R c H Q
def Yp(P:gi)(w:gn)(K:Frag)(c:Str->t_ Db)(a:gf)(x:Str)(k:Nat)(b:s_ Str)(κ:Kd)(W:WX):Prop:=
 ∃f fd,A3 P w K c a (Ra P w) k f fd b (cI K κ W b.length)/\c x=P3 (.ref f)/\keepIn K (.ref f)=q_/\Binds K fd b []/\∀d n P e,W d n P e->d.length=b.length
def QY(W:WX)(was:XN):Nat->s_ Slot->(D->Nat->Prop)->PX->Prop:=λn a P b=>was n a λc d=>W c d P b
theorem P7{m:s_ Str}{h:Kd}{W:WX}{x:Str}{was:XN}(G:Yp X.prog X.w X.K X.mg X.base x k m h W)(o:Room k X.A)(s:Gl X x)(u:bd X (e::es) was)
  (c:(x==("__debug__":Str))=r_:=by decide) (y:starEach (e::es) X.env=(r_,eval e X.env)::starEach es X.env:=by rfl) (g:(backTo pos (starEach es X.env)).any (·.1)=r_:=by rfl):
  eQ X (.Call (.Name x p) (e::es) [] pos) h (QY W was):=by
 let⟨f,fd,G,z,B,D,E⟩:=G;let⟨t,F,I⟩:=u;refine⟨_,Vp G o s z B D F c y g,λC M H n J L P Q R N r l w q=>?_⟩;refine I C M H n J L _ _ r w λvs H1 O S a i j p=>?_;have b:=r.step a i;exact⟨(Paired.length j).trans (E _ _ _ _ p),_,_,_,M,S,O,P,N,⟨b.dom,b.fU,b.uV,b.vM,i,j⟩,p,λv H2 d T U V Y Z=>q v H2 d T (a.trans U) V (VR.back a Y) Z,l.step a⟩
abbrev bZ:=E2->Str->s_ Str->s_ D->Nat->s_ Slot->Prop
def DH(X:Cx)(κ:Kd)(h:s_ kU)(w:bZ):Prop:=∃t,PH X h t/\∀(C:Fm) (M:Ch->Prop) (H:Hp) (n:Nat) (b:s_ Slot) (c:L2.St) (d:E2) (E:Ends) (nm:Str) (e i:Ch) (ks:s_ Str) (a:s_ D) (f:s_ V) (g:t_ Ch),
 Rel X.K C M H n b c->GF X.K C κ d E->XC X.K nm e i->fo M H g ks f->ks.length=a.length->Ats X.K M H a f->w d nm ks a n b->t E e g c H
def bu(c:Yq)(d:bZ):AY:=λa n b=>c a (λnm ks e f=>d a nm ks e f b) n b
theorem ao{a:s_ gm}{b:kU}{c:s_ kU}{h:Yq}{i:bZ}(d:X.stack=X.env::X.outer)(g:X.env.frame=P3 X.env.locals)(o:∀e s,X.xe e s->False)(q:Yr X κ a h)(u:DH X κ (b::c) i):
  DS X κ (.Try a (b::c) [] [] pos) (bu h i):=by
 let⟨t,x,y⟩:=q;let⟨O,z,A⟩:=u;exact⟨_,Z7 d g o x z,λC M H n j k l E r L w=>y C M H n j k l E _ _ r L (λnm m B ks D F G I J e f K xd N c p=>⟨m,rfl,A C M I J j k l E nm m B ks D F G (r.step e f) L K xd N c p⟩) w⟩
def U1:bZ:=λ_ _ _ _ _ _=>False
theorem av:DH X κ [] U1:=⟨_,Z_,λ_ _ _ _ _ _ _ _ _ _ _ _ _ _ _ _ _ _ _ _ _ w=>w.elim⟩
end
end Dp
namespace L2
def HX(A:gw)(H:Hp):Prop:=∃a C b u,A.handled=P3 (.ref a)/\H a=P3 u/\XT C b a u
structure fq (P:gi) (w:gn) (K:Frag) (tg:gj) (J:It) (fp:List Ch) (it:Ch) (tn:Nat->gf->Prop):Prop where
 mem:it∈fp
 obj:∀i h,tn i h->∀b∈fp,∃o,h.get? b=P3 o/\∀v,o.data≠.cell v
 keep:∀i h h',tn i h->(∀b∈fp,∀o,h.get? b=P3 o->h'.get? b=P3 o)->tn i h'
 item:∀(X:Cx),X.prog=P->X.w=w->X.K=K->HX X.A X.H₀->∀(i:Nat) (zH:List (Ch×Obj)) (s:Go) (σ:St) (H:Hp) (E:Db->Go->Prop),Inv X zH σ H s->(∀b∈fp,Ge X zH H b)->tn i s.heap->J.go i H->
  wpAny (model P w) X.A (pyNext (.ref it)) (λr s1=>∃u,r=P3 u /\
   wpAny (model P w) X.A (letOwnedTupleGo tg (.ref it) u) (λ_ s2=>∃x H',Inv X zH σ H' s2/\RelV x u/\J.yld i H x H'/\tn (i+1) s2.heap/\∀b∈fp,H' b=p_) E s1) E s
 done:∀(X:Cx),X.prog=P->X.w=w->X.K=K->HX X.A X.H₀->∀(i:Nat) (zH:List (Ch×Obj)) (s:Go) (σ:St) (H:Hp) (E:Db->Go->Prop),Inv X zH σ H s->(∀b∈fp,Ge X zH H b)->tn i s.heap->J.stop i H->
  wpAny (model P w) X.A (pyNext (.ref it)) (λr s1=>r=p_/\Inv X zH σ H s1) E s
 self:∀(A:gw) (i:Nat) (s:Go) (Q:Db->Go->Prop) (E:Db->Go->Prop),tn i s.heap->Q (.ref it) s->wpAny (model P w) A (pyIter (.ref it)) Q E s
end L2
namespace Dp
open L2
end Dp
namespace L2
structure dY (k:Nat) (A:gw):Prop where
 dp:A.depth+3*k+5<recursionLimit
 un:A.units+16*k+200<cLine
 gd:A.guards=P3 []
structure f7 (P:gi) (w:gn) (K:Frag) (mg:Str->Option Db) (base:gf) (k:Nat) (f:Ch) (fd:hU) (ps:List Str) (sp:Sp):Prop where
 len:∀vs H Q E,sp vs H Q E->vs.length=ps.length
 run:∀(A:gw) (outer:List Env) (s:Go) (H:Hp) (args:Args) (us:List Db) (vs:List V) (Q:VK) (E:XK),dY k A->HX A H->Env0 P w K mg base A outer s H->lj s fd args (ps.zip us)->Vals vs us->sp vs H Q E->
  codeAny (model P w) A (.call (.ref f) args) (CR CA outer P w H s Q E) s
end L2
namespace Dp
open L2
theorem fnX{P:gi}{w:gn}{K:Frag}{I:Str->t_ Db}{e:gf}{x a:Str}{m:gm}{f:Ch}{fd:hU}{N i:s_ Str}{k:Nat}{o:Kd}{W:WX}{wb:PX->AY}(F:Fun K x a m f fd)(S:Ac N i (AM m))(L:i.length<=N.length)
  (O:∀(c:Db) (A:gw) (b:s_ Env) (s:Go) (H:Hp) (E:XK) (g:PX) (r:t_ (Ch×Ch)) (U M:Ch->Prop),LiftX K r U M H g E->Room k (A.deeper (envOfC a (AM m) s.heap.objs.size f c))->
   QR (λC=>C.F=r/\C.U=U/\C.M0=M/\C.H0=H) (HN (Ra P w) P w K I e N a (AM m) f c A b s H E) o (Bl m) (wb g))
  (hW:∀u n j g,u.length=i.length->W u n j g->wb g {nx:=λn _=>o=.sh/\j .non n,rt:=j} n (u++Uf (N.length - i.length) .no)):
  A3 P w K I e (Ra P w) (k+1) f fd i (cI K o W i.length):=by
 let⟨oc,od,kV,T,pm,an,c,ct,V,rfl,X,y⟩:=F.ex;refine ZH X y S (λY H Q E h=>h.1) λA b s H Y Q E Z h=>?_;let⟨hl,r,U,V',M,n,u,j,g,J,hw,q,l⟩:=h;let⟨t,t1,t2⟩:=O c A _ s H E g r U M l Z;exists t,t1;have el:=Paired.length J.2.2.2.2.2;have R:=MY (N:=N) J (by omega);refine t2 _ M H n _ _ {nx:=λn _=>o=.sh/\j .non n,rt:=j} _ ⟨rfl,rfl,rfl,rfl⟩ R ⟨λM1 B D zR zK G p=>?_,λv B d D e1 f1 r1 p=>q v B d D e1 f1 r1 p,λ_ _ _ _ _ _ z=>z.elim,λ_ _ _ _ _ _ z=>z.elim⟩ ?_
 ·let⟨hk,p⟩:=p
  subst hk;exact q .non B .non D G.ext (G.feed.pres (Pres.less G.sub) λ_ _ _ z=>z) rfl p
 grind
end Dp
namespace So
open PySem.W
section
variable {O:KeyOrd}{key:Nat->O.α}{N:Nat}{cmp:Nat->Nat->(Bool->Shared->Prop)->Shared->Prop}{s:Shared}{p p0:Array Nat}
def KN(O:KeyOrd)(key:Nat->O.α)(p:Array Nat)(i:Nat):O.α:=key (p.getD i 0)
def Srt(O:KeyOrd)(key:Nat->O.α)(p:Array Nat)(k:Nat):Prop:=∀i j,i<=j->j<k->O.kle (KN O key p i) (KN O key p j)
def dg(O:KeyOrd)(key:Nat->O.α)(p:Array Nat)(k:Nat):Prop:=∀i j,i<=j->j<k->O.kle (KN O key p j) (KN O key p i)
def ZZ(O:KeyOrd)(key:Nat->O.α)(N:Nat)(cmp:Nat->Nat->(Bool->Go->Prop)->Go->Prop)(s:Go):Prop:=∀(i j:Nat) (C:Bool->Go->Prop),i<N->j<N->C (O.blt (key i) (key j)) s->cmp i j C s
def Bd(N:Nat)(p:Array Nat):Prop:=0<N/\∀x∈p,x<N
theorem YL(p:Array Nat)(i:Nat):p.getD i 0=(p[i]?).getD 0:=by
 simp
theorem Bd.get(h:Bd N p)(i:Nat):p.getD i 0<N:=by
 rw[YL];cases e:p[i]? with
 |none=>exact h.1
 |some x=>exact h.2 x (Array.mem_of_getElem? e)
theorem Bd.perm{a:Array Nat}(h:Bd N p)(b:a.Perm p):Bd N a:=⟨h.1,λx c=>h.2 x (b.mem_iff.mp c)⟩
theorem GG{p q:Array Nat}{i j:Nat}(h:p[i]?=q[j]?):KN O key p i=KN O key q j:=by
 unfold KN
 simp_all
theorem NF{a d:Nat}(f:a<p.size)(g:d<=a)(k:Nat):
  KN O key (bubble p a d) k=if k=a - d then KN O key p a else if a - d<k/\k<=a then KN O key p (k - 1)else KN O key p k:=by
 have e:=getElem?_bubble f d g k
 by_cases b:k=a - d
 ·rw[if_pos b]at e ⊢;exact GG e
 ·rw[if_neg b]at e ⊢
  by_cases c:a - d<k/\k<=a
  ·rw[if_pos c]at e ⊢;exact GG e
  ·rw[if_neg c]at e ⊢;exact GG e
theorem JW{i j:Nat}(b:j<=p.size)(k:Nat):KN O key (kas_rev p i j) k=if i<=k/\k<j then KN O key p (i+j - 1 - k)else KN O key p k:=by
 have e:=getElem?_mirror_all (i:=i) b k
 by_cases a:i<=k/\k<j
 ·rw[if_pos a]at e ⊢;exact GG e
 ·rw[if_neg a]at e ⊢;exact GG e
theorem Bu{i j:Nat}(a:j<=p.size)(b:∀k,i<=k->k<j->KN O key p k=KN O key p (j - 1))(k:Nat):KN O key (kas_rev p i j) k=KN O key p k:=by
 rw[JW a]
 grind
theorem Cb(p:Array Nat)(i j:Nat):(kas_rev p i j).Perm p:=mirror_perm _ _ _ _
theorem yes{c:Type}{a b:KasT c}{Q:c->Go->Prop}(h:a.kasWp cmp Q s):(if q_=q_ then a else b).kasWp cmp Q s:=by grind
theorem no{c:Type}{b a:KasT c}{Q:c->Go->Prop}(h:a.kasWp cmp Q s):(if r_=q_ then b else a).kasWp cmp Q s:=by grind
theorem RU(q:ZZ O key N cmp s)(d:Bd N p){nrem:Nat}{G:Nat->Go->Prop}:∀(f n:Nat),1<=n->n+f=nrem->Srt O key p n->
  (∀m,n<=m->m<=nrem->Srt O key p m->(m=nrem\/O.klt (KN O key p m) (KN O key p (m - 1)))->G m s)->(kas_asc p f n).kasWp cmp G s
 |0,n,_,e,b,h=>h n (On _) (by omega) b (.inl (by omega))
 | f+1,n,w,e,b,h=>by
  show cmp (p.getD n 0) (p.getD (n - 1) 0) (λc r=>(if c=q_ then KasT.ret n else kas_asc p f (n+1)).kasWp cmp G r) s;refine q _ _ _ (d.get n) (d.get _) ?_;cases a:O.blt (key (p.getD n 0)) (key (p.getD (n - 1) 0))with
  |true=>exact yes (h n (On _) (by omega) b (.inr a))
  | false=>
   refine no (RU q d f (n+1) (by omega) (by omega) (λi j g x=>?_) λm y t u v=>h m (by omega) t u v)
   by_cases k:j<n
   ·exact b i j g k
   ·have l:j=n:=by omega
    subst l
    by_cases o:i=j
    ·subst o;exact i8 _
    ·exact lK (b i (j - 1) (by omega) (by omega)) a
theorem KP(D:ZZ O key N cmp s){l:Nat}{G:Array Nat×Nat×Nat->Go->Prop}:∀(f:Nat) (p:Array Nat) (n q:Nat),p.Perm p0->Bd N p->l<=p.size->1<=n->n+f=l->dg O key p n->q+1<=n->
  (∀i,n - (q+1)<=i->i<n->KN O key p i=KN O key p (n - 1))->
  (∀g m v,g.Perm p0->Bd N g->g.size=p.size->n<=m->m<=l->dg O key g m->v+1<=m->(∀i,m - (v+1)<=i->i<m->KN O key g i=KN O key g (m - 1))->G (g,m,v) s)->(kas_desc f p n q).kasWp cmp G s
 |0,p,n,q,C,u,Q,Y,e,x,R,E,h=>h p n q C u rfl (On _) (by omega) x R E
 | f+1,p,n,q,C,u,Q,Y,e,x,R,E,h=>by
  show cmp (p.getD n 0) (p.getD (n - 1) 0) (λc S=>(if c=q_ then(if q > 0 then kas_desc f (kas_rev p (n - (q+1)) n) (n+1) 0 else kas_desc f p (n+1) 0)
   else .ask (p.getD (n - 1) 0) (p.getD n 0) λd=>if d=q_ then .ret (p,n,q)else kas_desc f p (n+1) (q+1)).kasWp cmp G S) s
  refine D _ _ _ (u.get n) (u.get _) ?_;cases o:O.blt (key (p.getD n 0)) (key (p.getD (n - 1) 0))with
  | true=>
   have Z:O.klt (KN O key p n) (KN O key p (n - 1)):=o
   have r:∀T:Array Nat,(∀k,KN O key T k=KN O key p k)->dg O key T (n+1):=by
    intro T W i j y hj;rw[W,W]
    by_cases z:j<n
    ·exact x i j y z
    ·have A:j=n:=by omega
     subst A
     by_cases B:i=j
     ·subst B;exact i8 _
     ·exact lK (k9 Z) (x i (j - 1) (by omega) (by omega))
   refine yes ?_;have U:n<=p.size:=by omega
   by_cases F:q > 0
   ·rw[if_pos F]
    refine KP D f _ (n+1) 0 ((Cb _ _ _).trans C) (u.perm (Cb _ _ _)) (by rw[kas_rev_size];exact Q) (by omega) (by omega) (r _ (Bu U E)) (by omega) (λi a b=>by congr 1;omega) λg m v H I J X K L M P=>h g m v H I (J.trans (kas_rev_size _ _)) (by omega) K L M P
   ·rw[if_neg F]
    exact KP D f _ (n+1) 0 C u Q (by omega) (by omega) (r _ λ_=>rfl) (by omega) (λi a b=>by congr 1;omega) λg m v H I J X K L M P=>h g m v H I J (by omega) K L M P
  | false=>
   refine no ?_;show cmp (p.getD (n - 1) 0) (p.getD n 0) (λd S=>(if d=q_ then KasT.ret (p,n,q)else kas_desc f p (n+1) (q+1)).kasWp cmp G S) s;refine D _ _ _ (u.get _) (u.get n) ?_;cases t:O.blt (key (p.getD (n - 1) 0)) (key (p.getD n 0))with
   |true=>exact yes (h p n q C u rfl (On _) (by omega) x R E)
   | false=>
    have w:KN O key p n=KN O key p (n - 1):=nX (O:=O) t o;refine no (KP D f p (n+1) (q+1) C u Q (by omega) (by omega) (λi j y hj=>?_) (by omega) (λi a b=>?_) λg m v H I J X K L M P=>h g m v H I J (by omega) K L M P)
    ·by_cases z:j<n
     ·exact x i j y z
     ·have A:j=n:=by omega
      subst A
      by_cases B:i=j
      ·subst B;exact i8 _
      ·rw[w];exact x i (j - 1) (by omega) (by omega)
    ·rw[show n+1 - 1=n by omega]
     by_cases V:i=n
     ·subst V;rfl
     ·rw[w];exact E i (by omega) (by omega)
theorem Ov(e:ZZ O key N cmp s){n a:Nat}{G:Nat×Array Nat->Go->Prop}(f:p.Perm p0)(d:Bd N p)(r:a<=p.size)(g:1<=n)(t:n<=a)(k:dg O key p n)
  (h:∀m b,b.Perm p0->Bd N b->b.size=p.size->1<=m->m<=a->Srt O key b m->G (m,b) s):(kas_tail3 n a p).kasWp cmp G s:=by
 unfold kas_tail3;rw[KasT.kasWp_bind];have c:n<=p.size:=by omega
 refine RU e (d.perm (Cb _ _ _)) _ n g (by omega) (λi j l u=>?_) λm v o q _=>h m _ ((Cb _ _ _).trans f) (d.perm (Cb _ _ _)) (kas_rev_size _ _) (by omega) o q;rw[JW c,JW c,if_pos (by omega),if_pos (by omega)];exact k _ _ (by omega) (by omega)
theorem Ji(k:ZZ O key N cmp s){n c:Nat}{G:Nat×Array Nat->Go->Prop}(E:p.Perm p0)(F:Bd N p)(H:c<=p.size)(K:n+1<=c)(I:dg O key p (n+1))
  (h:∀m d,d.Perm p0->Bd N d->d.size=p.size->1<=m->m<=c->Srt O key d m->G (m,d) s):(kas_descPart n c p).kasWp cmp G s:=by
 unfold kas_descPart;rw[KasT.kasWp_bind];refine KP (p0:=p0) k (c - (n+1)) p (n+1) 0 E F H (by omega) (by omega) I (by omega) (λi a b=>by grind) λd m l y z A L B C M D=>?_;have f:m<=d.size:=by omega
 show(if l > 0 then kas_tail3 m c (kas_rev d (m - (l+1)) m)else kas_tail3 m c d).kasWp cmp G s
 by_cases g:l > 0
 ·rw[if_pos g]
  refine Ov k ((Cb _ _ _).trans y) (z.perm (Cb _ _ _)) (by rw[kas_rev_size];omega) (by omega) B (λi j o J=>?_) λq e r t u v w x=>h q e r t (u.trans ((kas_rev_size _ _).trans A)) v w x;rw[Bu f D,Bu f D];exact C i j o J
 ·rw[if_neg g]
  exact Ov k y z (by omega) (by omega) B C λq e r t u v w x=>h q e r t (u.trans A) v w x
theorem Wq(y:ZZ O key N cmp s){nrem:Nat}{G:Nat×Array Nat->Go->Prop}(z:p.Perm p0)(e:Bd N p)(H:nrem<=p.size)(W:1<=nrem)
  (h:∀m o,o.Perm p0->Bd N o->o.size=p.size->1<=m->m<=nrem->Srt O key o m->G (m,o) s):(kas_count nrem p).kasWp cmp G s:=by
 unfold kas_count;rw[KasT.kasWp_bind];refine RU (nrem:=nrem) y e (nrem - 1) 1 (On _) (by omega) (λi j q I=>by have:i=j:=(by omega);subst this;exact i8 _) λn r t b A=>?_
 by_cases f:n=nrem
 ·rw[if_pos (by simpa using f)]
  exact h n p z e rfl r t b
 ·rw [if_neg (by simpa using f)]
  have u:O.klt (KN O key p n) (KN O key p (n - 1)):=A.resolve_left f
  by_cases v:n > 1
  ·rw[if_pos v]
   show cmp (p.getD 0 0) (p.getD (n - 1) 0) (λc J=>(if c=q_ then KasT.ret (n,p)else kas_descPart n nrem (kas_rev p 0 n)).kasWp cmp G J) s;refine y _ _ _ (e.get _) (e.get _) ?_;cases g:O.blt (key (p.getD 0 0)) (key (p.getD (n - 1) 0))with
   |true=>exact yes (h n p z e rfl r t b)
   | false=>
    have d:O.kle (KN O key p (n - 1)) (KN O key p 0):=g;have w:n<=p.size:=by omega
    have a:∀k,0<=k->k<n->KN O key p k=KN O key p (n - 1):=by
     intro k _ K;have L:=b 0 k (by omega) K;have M:=b k (n - 1) (by omega) (by omega);exact nX M (lK d L)
    refine no (Ji y ((Cb _ _ _).trans z) (e.perm (Cb _ _ _)) (by rw[kas_rev_size];exact H) (by omega) (λi j q I=>?_) λP B Q R S T U V=>h P B Q R (S.trans (kas_rev_size _ _)) T U V);rw[Bu w a,Bu w a]
    by_cases C:j<n
    ·rw[a i (by omega) (by omega),a j (by omega) C];exact i8 _
    ·have D:j=n:=by omega
     subst D
     by_cases l:i=j
     ·subst l;exact i8 _
     ·rw[a i (by omega) (by omega)];exact k9 u
  ·rw[if_neg v]
   have x:n=1:=by omega
   subst x;refine Ji y z e H (by omega) (λi j q I=>?_) h
   by_cases l:i=j
   ·subst l;exact i8 _
   ·have E:i=0:=by omega
    have F:j=1:=by omega
    subst E;subst F
    exact k9 u
theorem K4(m:ZZ O key N cmp s)(g:Bd N p){k:Nat}(j:Srt O key p k){G:Nat->Go->Prop}
  (h:∀l,l<=k->(∀i,i<l->O.kle (KN O key p i) (KN O key p k))->(∀i,l<=i->i<k->O.klt (KN O key p k) (KN O key p i))->G l s):∀(f l r:Nat),l<=r->r<=k->r - l<=f->
  (∀i,i<l->O.kle (KN O key p i) (KN O key p k))->(∀i,r<=i->i<k->O.klt (KN O key p k) (KN O key p i))->(kas_place p k f l r).kasWp cmp G s
 |0,l,r,n,d,t,b,c=>by
  have:l=r:=by omega
  subst this;exact h l d b c
 | f+1,l,r,n,d,t,b,c=>by
  unfold kas_place
  by_cases e:l≥r
  ·rw[if_pos e]
   have:l=r:=by omega
   subst this;exact h l d b c
  ·rw[if_neg e]
   refine m _ _ _ (g.get _) (g.get _) ?_;cases a:O.blt (key (p.getD k 0)) (key (p.getD ((l+r) / 2) 0))with
   |true=>
    have o:O.klt (KN O key p k) (KN O key p ((l+r) / 2)):=a;exact yes (K4 m g j h f l ((l+r) / 2) (by omega) (by omega) (by omega) b λi q u=>KeyOrd.klt_of_klt_of_kle o (j _ _ q u))
   |false=>
    have o:O.kle (KN O key p ((l+r) / 2)) (KN O key p k):=a;exact no (K4 m g j h f ((l+r) / 2+1) r (by omega) (by omega) (by omega) (λi q=>lK (j i ((l+r) / 2) (by omega) (by omega)) o) c)
theorem Fw(y:ZZ O key N cmp s){n:Nat}{G:Array Nat->Go->Prop}(h:∀r,r.Perm p0->Srt O key r n->G r s):∀(f:Nat) (p:Array Nat) (k:Nat),p.Perm p0->Bd N p->n<=p.size->k+f=n->Srt O key p k->(kas_bin f p k).kasWp cmp G s
 |0,p,k,t,u,z,e,d=>h p t (by rw[←e];exact d)
 | f+1,p,k,t,u,z,e,d=>by
  rw[show kas_bin (f+1) p k=(kas_place p k k 0 k).bind λl=>kas_bin f (bubble p k (k - l)) (k+1)from rfl,KasT.kasWp_bind];refine K4 y u d (λl A v w=>?_) k 0 k (Tk _) (On _) (by omega) (λi B=>by omega) λi a b=>by omega
  have g:k<p.size:=by omega
  refine Fw y h f _ (k+1) ((bubble_perm _ _ _).trans t) (u.perm (bubble_perm _ _ _)) (by rw[bubble_size];exact z) (by omega) λi j x C=>?_;rw[NF g (by omega),NF g (by omega),show k - (k - l)=l by omega]
  by_cases m:i=l
  ·rw[if_pos m]
   by_cases c:j=l
   ·rw[if_pos c];exact i8 _
   ·rw[if_neg c,if_pos (by omega)]
    exact k9 (w (j - 1) (by omega) (by omega))
  ·rw [if_neg m]
   by_cases o:l<i/\i<=k
   ·rw[if_pos o,if_neg (by omega),if_pos (by omega)]
    exact d (i - 1) (j - 1) (by omega) (by omega)
   ·rw[if_neg o]
    by_cases c:j=l
    ·rw[if_pos c];exact v i (by omega)
    ·rw[if_neg c]
     by_cases q:l<j/\j<=k
     ·rw[if_pos q]
      exact d i (j - 1) (by omega) (by omega)
     ·rw[if_neg q]
      exact d i j x (by omega)
theorem sort_ok{n:Nat}(b:1<=n)(c:ZZ O key n cmp s){G:Array Nat->Go->Prop}(h:∀p,p.Perm (gp (gs n))->Srt O key p n->G p s):(kas_sort n).kasWp cmp G s:=by
 unfold kas_sort;rw[KasT.kasWp_bind];have f:Bd n (gp (gs n)):=⟨b,λx k=>by grind⟩;have g:(gp (gs n)).size=n:=by simp
 refine Wq c (my _) f (by omega) b λm d e i l o q j=>?_
 by_cases a:m<n
 ·rw[if_pos a,show max m 1=m by omega]
  exact Fw c h _ d m e i (by omega) (by omega) j
 ·rw[if_neg a]
  exact h d e (by grind)
end
end So
namespace L2
open PySem.W
def aM:Key->Key->Bool
 |.inl i,.inl j=>decide (i<j)
 |.inr x,.inr y=>decide (x.cps.toList<y.cps.toList)
 |.inl _,.inr _=>q_
 |.inr _,.inl _=>r_
def BJ:s_ Key->s_ Key->Bool
 |[],[]=>r_
 |[],_::_=>q_
 |_::_,[]=>r_
 |x::a,y::b=>if x=y then BJ a b else aM x y
theorem RC:∀x:Key,aM x x=r_
 |.inl i=>decide_eq_false (Int.lt_irrefl i)
 |.inr x=>decide_eq_false (kr _)
theorem T_:∀x y z:Key,aM x y=q_->aM y z=q_->aM x z=q_
 |.inl i,.inl j,.inl k,a,b=>decide_eq_true (Int.lt_trans (of_decide_eq_true a) (of_decide_eq_true b))
 |.inr i,.inr j,.inr k,a,b=>decide_eq_true (List.lt_trans (of_decide_eq_true a) (of_decide_eq_true b))
 |.inl i,.inl j,.inr k,_,_=>rfl
 |.inl i,.inr j,.inr k,_,_=>rfl
 |.inl i,.inr j,.inl k,_,h=>by cases h
 |.inr i,.inl j,_,h,_=>by cases h
 |.inr i,.inr j,.inl k,_,h=>by cases h
theorem UA:∀x y:Key,aM x y=r_->aM y x=r_->x=y
 |.inl i,.inl j,c,d=>congrArg _ (by have a:=of_decide_eq_false c;have b:=of_decide_eq_false d;omega)
 |.inr x,.inr y,c,d=>by
  have e:=List.le_antisymm (of_decide_eq_false d) (of_decide_eq_false c);let⟨u⟩:=x
  simp_all
 |.inl i,.inr j,h,_=>by cases h
 |.inr i,.inl j,_,h=>by cases h
theorem Bq:∀x:s_ Key,BJ x x=r_
 |[]=>rfl
 |x::a=>by unfold BJ;rw[if_pos rfl];exact Bq a
theorem B7:∀x y z:s_ Key,BJ x y=q_->BJ y z=q_->BJ x z=q_
 |[],[],_,h,_=>by cases h
 |[],_::_,[],_,h=>by cases h
 |[],_::_,_::_,_,_=>rfl
 |_::_,[],_,h,_=>by cases h
 |_::_,_::_,[],_,h=>by cases h
 | x::f,y::g,z::i,a,b=>by
  unfold BJ at a b ⊢
  by_cases d:x=y
  ·subst d
   rw[if_pos rfl]at a
   by_cases c:x=z
   ·subst c
    rw[if_pos rfl]at b ⊢;exact B7 f g i a b
   grind
  ·rw[if_neg d]at a
   by_cases c:y=z
   ·grind
   ·rw[if_neg c]at b
    have e:=T_ x y z a b
    by_cases j:x=z
    ·subst j
     rw[RC]at e;cases e
    grind
theorem B8:∀x y:s_ Key,BJ x y=r_->BJ y x=r_->x=y
 |[],[],_,_=>rfl
 |[],_::_,h,_=>by cases h
 |_::_,[],_,h=>by cases h
 | x::c,y::d,a,b=>by
  unfold BJ at a b
  by_cases e:x=y
  ·subst e
   rw[if_pos rfl]at a b;rw[B8 c d a b]
  ·rw[if_neg e]at a
   rw[if_neg (λz=>e z.symm)]at b;exact absurd (UA x y a b) e
def Tq:KeyOrd:=⟨s_ Key,BJ,Bq,B7,λa b c h=>by
 cases e:BJ a b with
 |true=>exact .inl rfl
 |false=>
  cases d:BJ b a with
  |true=>exact .inr (B7 b a c d h)
  |false=>rw[←B8 a b e d];exact .inr h,B8⟩
theorem Hw:∀x y:s_ Key,CO x y=q_->GY x y=BJ x y
 |[],[],_=>rfl
 |[],_::_,_=>rfl
 |_::_,[],_=>rfl
 | x::b,y::c,h=>by
  have a:(MV x y&&CO b c)=q_:=h;rw[gX]at a;unfold GY BJ
  by_cases e:x=y
  ·rw[if_pos e,if_pos e];exact Hw b c a.2
  ·rw[if_neg e,if_neg e]
   cases x with
   |inl i=>cases y with
    |inl j=>rfl
    |inr z=>cases a.1
   |inr i=>cases y with
    |inl j=>cases a.1
    |inr z=>rfl
section
variable {prog:Program}{w:World}{A:Around}{E:Value->Shared->Prop}{s:Shared}
theorem V9{b:Bool}{Q:Bool->Go->Prop}{h j:Nat}:∀(a c:s_ Key) (k l:s_ Db) (i:Nat),Vals (a.map kOf) k->Vals (c.map kOf) l->CO a c=q_->a.length+j=c.length+h->Q (GY a c) s->
  KatLex prog w A b (decide (h<j)) Q (k.zip l) i s
 |[],[],k,l,i,o,p,_,g,q=>by
  cases o;cases p;refine kat_nil ?_;rw[show decide (h<j)=r_ from decide_eq_false (by simp only[ik]at g;omega)];exact q
 |[],m::c,k,l,i,o,p,_,g,q=>by
  cases o;rw[List.zip_nil_left];refine kat_nil ?_;rw[show decide (h<j)=q_ from decide_eq_true (by simp only[ik,gS]at g;omega)];exact q
 |n::a,[],k,l,i,o,p,_,g,q=>by
  cases p;rw[List.zip_nil_right];refine kat_nil ?_;rw[show decide (h<j)=r_ from decide_eq_false (by simp only[ik,gS]at g;omega)];exact q
 | n::a,m::c,k,l,i,o,p,F,g,q=>by
  have d:(MV n m&&CO a c)=q_:=F;rw[gX]at d;have f:Q (if n=m then GY a c else eE n m) s:=q;cases o with
  | @cons _ u _ r t G=>
   cases p with
   | @cons _ v _ B C H=>
    rw[lz];have D:n=m->KatLex prog w A b (decide (h<j)) Q (r.zip B) (i+1) s:=λe=>V9 a c r B (i+1) G H d.2 (by simp only[gS]at g;omega) (by rw[if_pos e]at f;exact f);cases n with
    | inl x=>
     cases m with
     |inr y=>cases d.1
     | inl y=>
      let⟨I,rfl⟩:=t;let⟨J,rfl⟩:=C;refine kat_cons (wpAny_eqBool_int ?_)
      by_cases e:x=y
      ·rw[show(x==y)=q_ by simpa using e]
       exact kat_yes (D (by rw[e]))
      ·rw[show(x==y)=r_ by simpa using e]
       refine kat_no ?_;rw[if_neg (λz=>e (Sum.inl.inj z))]at f;cases K:(b&&i==0)with
       |true=>exact oneLt_int f
       |false=>exact kat_one _ _ (m9 (show PySem.W.BoolBack Q (.bool (decide (x<y))) s from f))
    | inr x=>
     cases m with
     |inl y=>cases d.1
     | inr y=>
      let⟨I,rfl⟩:=t;let⟨J,rfl⟩:=C;refine kat_cons (wpAny_eqBool_str ?_)
      by_cases e:x=y
      ·rw[show decide (x=y)=q_ by simpa using e]
       exact kat_yes (D (by rw[e]))
      ·rw[show decide (x=y)=r_ by simpa using e]
       refine kat_no ?_;rw[if_neg (λz=>e (jn z))]at f;cases K:(b&&i==0)with
       |true=>exact oneLt_str f
       |false=>exact kat_one _ _ (PySem.P.lt_str (show PySem.W.BoolBack Q (.bool (decide (x.cps.toList<y.cps.toList))) s from f))
structure S5 (h:gf) (ks:List Db) (keys:List (List Key)):Prop where
 at_:∀(i:Nat) (ns:List Key),keys[i]?=P3 ns->∃a o its n,ks[i]?=P3 (.ref a)/\h.get? a=P3 o/\o.cls=.type "tuple"/\o.data=.seq its n/\Vals (ns.map kOf) its.toList
 len:ks.length=keys.length
 same:∀x∈keys,∀y∈keys,CO x y=q_
 ne:∀x∈keys,x≠[]
def d9:Key->String
 |.inl _=>"int"
 |.inr _=>"str"
theorem firsts{h:gf}:∀(g:s_ Db) (b:s_ (s_ Key)) (T:String),g.length=b.length->(∀(i:Nat) (u:s_ Key),b[i]?=P3 u->∃a o c n,g[i]?=P3 (.ref a)/\h.get? a=P3 o/\o.cls=.type "tuple"/\o.data=.seq c n/\Vals (u.map kOf) c.toList)->
  (∀x∈b,∃k r,x=k::r/\d9 k=T)->∃j:s_ Db,KatTups h g j/\j.length=b.length/\∀v∈j,typeOf v=pure (.type T)
 |[],[],T,_,_,_=>⟨[],trivial,rfl,λv l=>by cases l⟩
 |[],_::_,T,m,_,_=>by cases m
 |_::_,[],T,m,_,_=>by cases m
 | k::g,x::b,T,m,z,B=>by
  let⟨j,F,G,H⟩:=firsts g b T (by simpa using m) (λi u e=>by
   let⟨a,o,c,n,p,r⟩:=z (i+1) u (by simpa using e);exact⟨a,o,c,n,by simpa using p,r⟩) λy I=>B y (Rs _ I)
  let⟨a,o,c,n,p,J,K,L,q⟩:=z 0 x rfl;have p:k=.ref a:=by simpa using p
  subst p;let⟨k,r,rfl,C⟩:=B x Op;rw[g7]at q;cases d:c.toList with
  |nil=>rw[d]at q;cases q
  | cons f M=>
   rw[d]at q;cases q with
   | cons D N=>
    refine⟨f::j,KatTups.cons J K L (by rw[←Array.getElem?_toList,d];rfl) F,by rw[gS,gS,G],λv l=>?_⟩
    rcases TW.mp l with rfl|l
    ·cases k with
     |inl i=>let⟨t,rfl⟩:=D;subst C;rfl
     |inr i=>let⟨t,rfl⟩:=D;subst C;rfl
    ·exact H v l
theorem MR{c:s_ Db}{keys:s_ (s_ Key)}(K:S5 s.heap c keys)(h2:2<=c.length){G:Array Nat->Go->Prop}(h:∀p,p.Perm (gp (gs c.length))->So.Srt Tq (λi=>keys.getD i []) p c.length->G p s):
  wpAny (model prog w) A (keyKind' c.toArray) (λN P=>(kas_sort c.length).kasWp (kas_ask prog w A N c) G P) (λ_ _=>False) s:=by
 obtain⟨f,I,Q⟩:∃f I,keys=f::I:=by
  cases e:keys with
  |nil=>have:=K.len;rw[e]at this;simp only[ik]at this;omega
  |cons x r=>exact⟨x,r,rfl⟩
 have J:f∈keys:=by rw[Q];exact Op
 obtain⟨m,R,S⟩:∃k r,f=k::r:=by
  cases e:f with
  |nil=>exact absurd e (K.ne f J)
  |cons k r=>exact⟨k,r,rfl⟩
 have y:∀x∈keys,∃k r,x=k::r/\d9 k=d9 m:=λx L=>by
  cases e:x with
  |nil=>exact absurd e (K.ne x L)
  | cons k r=>
   exists k,r,rfl;have b:=K.same x L f J;rw[e,S]at b;have b:(MV k m&&CO r R)=q_:=b;rw[gX]at b;cases k with
   |inl i=>cases m with
    |inl j=>rfl
    |inr j=>cases b.1
   |inr i=>cases m with
    |inl j=>cases b.1
    |inr j=>rfl
 let⟨fs,z,B,T⟩:=firsts c keys (d9 m) K.len K.at_ y;refine kat_kind z (by rw[B,←K.len];omega) (λv U=>by rw[T v U];exact Looks.now) (by simp) ?_;refine So.sort_ok (O:=Tq) (key:=λi=>keys.getD i []) (by omega) (λi j C V W X=>?_) h;have g:i<keys.length:=by rw[←K.len];exact V
 have l:j<keys.length:=by rw[←K.len];exact W
 let⟨a,o,q,n,Y,Z,e3,e4,M⟩:=K.at_ i keys[i] (FM g);let⟨a',o',d,n',D,F,a0,H,t⟩:=K.at_ j keys[j] (FM l);unfold kas_ask;rw[show c.getD i g8=.ref a by rw[g_,Y];rfl,show c.getD j g8=.ref a' by rw[g_,D];rfl];have b:=K.same _ (hV g) _ (hV l);refine kat_lt Z e4 F H (V9 keys[i] keys[j] _ _ 0 M t b ?_ ?_)
 ·have l1:=M.length
  have l2:=t.length;have l3:(keys[i].map kOf).length=keys[i].length:=No ..;have l4:(keys[j].map kOf).length=keys[j].length:=No ..;have l5:q.toList.length=q.size:=iz;have l6:d.toList.length=d.size:=iz;omega
 ·rw[Hw _ _ b]
  have z:keys.getD i []=keys[i]:=by rw[g_,FM g];rfl
  have B:keys.getD j []=keys[j]:=by rw[g_,FM l];rfl
  have u:C (BJ (keys.getD i []) (keys.getD j [])) s:=X;rw[z,B]at u;exact u
theorem Hg{v:Db}{c:s_ (Str×Db)}{Q:Db->Go->Prop}(e:argsOk "sorted" ⟨[v],c⟩)(f:∀x,argsOk "list.sort" ⟨[.ref x],c⟩)
  (k:wpAny (model prog w) A.in1 (collect v) (λg a=>g.length<=sizeLine/\wpAny (model prog w) A.in1.in1 (kI.«list.sort» ⟨[.ref a.heap.objs.size],c⟩) (λb i=>b=.done (.ret .none)/\Q (.ref a.heap.objs.size) i) E {a with heap:=a.heap.push (seqObj "list" g.toArray 0)}) E s):
  wpAny (model prog w) A (call (.builtin "sorted") [v] c) Q E s:=call_function_entry_kw kind_sorted plain_sorted entry_sorted e (Cn (Sc (Cn (g9 k (λg a h=>Cn (mE (Cn (iP (wpAny_call_entry_kw PyProof.Rows.slot_list_sort ⟨_,XV _ rfl,rfl⟩ PyProof.Rows.entry_list_sort (g9 h.2 (λb i j=>⟨_,j.1,Sc ⟨_,rfl,j.2⟩⟩) λ_ _ x=>x) (f _)))) h.1)) λ_ _ x=>x))))
def EA(h:gf)(D:Ch)(a:s_ Db):gf:=((h.update D (iO λ_=>(#[]:Array Db))).push (seqObj "tuple" a.toArray 0)).push (seqObj "list" #[] 0)
theorem Im{h:gf}{D:Ch}{a:s_ Db}{b:Ch}{o:Obj}(c:b≠D)(e:h.get? b=P3 o):(EA h D a).get? b=P3 o:=
 Ev _ (Ev _ ((gZ _ _ (iM c)).trans e))
theorem Kq{h:gf}{D:Ch}{c:s_ Db}{n:Nat}(d:h.get? D=P3 (seqObj "list" c.toArray n)):∃a,(EA h D c).get? D=P3 (seqObj "list" #[] a)/\(h.update D (iO λ_=>(#[]:Array Db))).get? D=P3 (seqObj "list" #[] a):=by
 obtain⟨a,b⟩:∃a,(h.update D _).get? D=P3 (seqObj _ _ a):=⟨_,jz d _⟩;exact⟨a,Ev _ (Ev _ b),b⟩
theorem Pk{D:Ch}{a:s_ Db}{n:Nat}{P:PySem.Fin->Go->Prop}{G:Array Nat->Prop}(r:s.heap.get? D=P3 (seqObj "list" a.toArray n))(t:a.length<64)
  (u:2<=a.length->wpAny (model prog w) A (keyKind' a.toArray) (λJ k=>(kas_sort a.length).kasWp (kas_ask prog w A J a) (λp v=>v={s with heap:=EA s.heap D a}/\G p) k) (λ_ _=>False) {s with heap:=EA s.heap D a})
  (L:a.length<2->G (gp (gs a.length))) (l:∀(p:Array Nat) (y:gf) (c:Nat),p.size=a.length->G p->(∀b o,b≠D->s.heap.get? b=P3 o->y.get? b=P3 o)->y.get? D=P3 (seqObj "list" (gp (p.toList.map λi=>a.getD i g8)) c)->P (.done (.ret .none)) {s with heap:=y}):
  wpAny (model prog w) A (kI.«list.sort» ⟨[.ref D],[]⟩) P E s:=by
 let⟨V,d,z⟩:=Kq r
 have m:∀(p:Array Nat),p.size=a.length->G p->P (.done (.ret .none)) {s with heap:=(EA s.heap D a).update D (iO λ_=>gp (p.toList.map λi=>a.getD i g8))}:=λp q B=>by
  obtain⟨C,F⟩:∃C,((EA s.heap D a).update D (iO λ_=>gp (p.toList.map λi=>a.getD i g8))).get? D=P3 (seqObj "list" (gp (p.toList.map λi=>a.getD i g8)) C):=⟨_,jz d λ_=>gp (p.toList.map λi=>a.getD i g8)⟩;exact l p _ C q B (λb o K e=>(gZ _ _ (iM K)).trans (Im K e)) F
 rw[list_sort_plain];refine Cn (lZ r rfl ?_);refine Cn (jh r rfl ?_ (by rw[gQ,iK];omega) (Tk _));refine Cn (lr z rfl ?_);refine Cn (wpAny_newTuple ?_ (by show a.length<=_;rw[iK];omega));refine Cn (mE ?_ (Tk _));refine iP ?_;show wpAny (model prog w) A _ P E {s with heap:=EA s.heap D a}
 dsimp only
 by_cases H:a.length<2
 ·have f:a.toArray.size<2:=by rw[gQ];exact H
  rw[if_pos f,if_pos f];refine Cn (Sc ?_);rw[StateT.run_pure];refine Cn (Sc ?_)
  dsimp only
  refine Cn (lr d rfl ?_);have h:(gp (gs a.length)).size=a.length:=by simp
  have g:(arrOf (SortSt.mk' general' (a.toArray.zip a.toArray) #[] 7 p_)).map (·.2)=gp ((gp (gs a.length)).toList.map λi=>a.getD i g8):=by
   refine kat_snds rfl ?_;have e:=kas_range (a.toArray.zip a.toArray);rw[show(a.toArray.zip a.toArray).size=a.length by simp]at e;exact e.symm
  rw[g];refine Cn (jh d rfl ?_ (Tk _) (by rw[gQ,No,iz,h,iK];omega));simp only[bne_self_eq_false,jB,if_false];exact Sc (m _ h (L H))
 ·have f:¬a.toArray.size<2:=by rw[gQ];exact H
  rw[if_neg f,if_neg f];refine Cn (g9 (u (by omega)) (λJ W u=>?_) λ_ _ x=>x.elim)
  refine Cn (g9 (kat_run (Q:=λj k=>∃p:Array Nat,p.size=a.length/\arrOf j=p.map (kas_item (a.toArray.zip a.toArray))/\failedOf j=p_/\k={s with heap:=EA s.heap D a}/\G p)
   rfl (by omega) t (λN j k O R S T=>⟨N,O,R,S,T⟩) u) ?_ λ_ _ e=>e)
  rintro⟨⟨⟩,j⟩ k ⟨p,q,I,U,rfl,B⟩
  dsimp only
  have g:=kat_snds rfl I;have h:(gp (p.toList.map λi=>a.getD i g8)).size=a.length:=by rw[gQ,No,iz,q]
  rw[g];refine Cn (lr d rfl ?_);refine Cn (jh d rfl ?_ (Tk _) (gc (mW h) (by rw[iK];omega)));rw[U];simp only[bne_self_eq_false,jB,if_false];exact Sc (m p q B)
theorem UB{D:Ch}{f:Db}{a:s_ Db}{n:Nat}{P:PySem.Fin->Go->Prop}(U:s.heap.get? D=P3 (seqObj "list" a.toArray n))(Y:a.length<64)(J:s_ Db->Go->Prop)(h:Ch)(M:h=s.heap.objs.size+1)
  (h0:∀r,(EA s.heap D a).get? D=P3 (seqObj "list" #[] r)->J [] {s with heap:=EA s.heap D a})
  (z:∀(d:s_ Db) (g:Go) (e:Nat) (v:Db),J d g->g.heap.get? h=P3 (seqObj "list" d.toArray e)->a[d.length]?=P3 v->wpAny (model prog w) A (call f [v]) (λk l=>l.heap.get? h=P3 (seqObj "list" d.toArray e)/\J (d++[k]) {l with heap:=l.heap.update h (iO (·.push k))}) (λ_ _=>False) g)
  (N:∀(r:Nat),(EA s.heap D a).get? D=P3 (seqObj "list" #[] r)->∀(d:s_ Db) (g:Go),J d g->d.length=a.length->g.heap.get? D=P3 (seqObj "list" #[] r)/\∃G:Array Nat->Prop,
   (2<=a.length->wpAny (model prog w) A (keyKind' d.toArray) (λκ O=>(kas_sort a.length).kasWp (kas_ask prog w A κ d) (λp l=>l=g/\G p) O) (λ_ _=>False) g)/\(a.length<2->G (gp (gs a.length))) /\
   ∀(p:Array Nat) (V:gf) (c:Nat),p.size=a.length->G p->(∀b o,b≠D->b≠h->g.heap.get? b=P3 o->V.get? b=P3 o)->V.get? D=P3 (seqObj "list" (gp (p.toList.map λi=>a.getD i g8)) c)->(∃o,V.get? h=P3 o)->P (.done (.ret .none)) {g with heap:=V}):
  wpAny (model prog w) A (ksk_tree D f r_) P E s:=by
 let⟨r,R,Z⟩:=Kq U;have u:((s.heap.update D (iO λ_=>(#[]:Array Db))).push (seqObj "tuple" a.toArray 0)).objs.size=h:=by rw[size_push',Heap.size_update,M]
 have hD:D<s.heap.objs.size:=UF U;have S:D≠h:=by rw[M];exact gg (iw hD)
 have a0:(EA s.heap D a).get? h=P3 (seqObj "list" #[] 0):=by rw[←u];exact XV _ rfl
 unfold ksk_tree;refine Cn (lZ U rfl ?_);refine Cn (jh U rfl ?_ (by rw[gQ,iK];omega) (Tk _));refine Cn (lr Z rfl ?_);refine Cn (wpAny_newTuple ?_ (by show a.length<=_;rw[iK];omega));refine Cn (mE ?_ (Tk _));refine iP ?_;show wpAny (model prog w) A (ksk_rest D f r_ a.toArray r (.ref ((s.heap.update D (iO λ_=>(#[]:Array Db))).push (seqObj "tuple" a.toArray 0)).objs.size)) P E {s with heap:=EA s.heap D a};rw[u];unfold ksk_rest;refine Cn (mO ?_)
 first
  |rw[List.forIn_toArray]
  |(rw[←Array.forIn_toList];simp only[List.toList_toArray])
  |rw[←Array.forIn_toList]
 refine Cn (ksk_fold (I:=λi g=>∃d e,kY d=i/\J d g/\g.heap.get? h=P3 (seqObj "list" d.toArray e)) a 0 _ ⟨[],0,rfl,h0 r R,a0⟩ (λj x g hx hI=>?_) λg hI=>?_)
 ·let⟨d,e,t,hJ,C⟩:=hI
  have hj:j<a.length:=(ZB.mp hx).1;have t:d.length=j:=by omega
  refine Cn (wpAny_attempt (g9 (z d g e x hJ C (by rw[t];exact hx)) (λk l F=>?_) λ_ _ hF=>hF.elim));have ea:(gp d).push k=gp (d++[k]):=by simp
  obtain⟨H,K⟩:∃H,(l.heap.update h (iO (·.push k))).get? h=P3 (seqObj "list" (gp (d++[k])) H):=⟨_,by rw[←ea];exact jz F.1 (·.push k)⟩
  try dsimp only
  refine Cn (jh F.1 rfl ?_ (by rw[gQ,iK];omega) (gc (mW (Array.size_push ..)) (by rw[gQ,iK];omega)));exact Sc ⟨rfl,d++[k],H,by rw[eq,gl];omega,F.2,K⟩
 ·let⟨d,e,t,hJ,C⟩:=hI
  have t:d.length=a.length:=by omega
  let⟨a5,G,g2,g1,g3⟩:=N r R d g hJ t
  try dsimp only
  refine Cn (lZ C rfl ?_)
  have y:∀(W:SortSt) (p:Array Nat),p.size=a.length->G p->(arrOf W).map (·.2)=gp (p.toList.map λi=>a.getD i g8)->failedOf W=p_->wpAny (model prog w) A (ksk_tail D r_ r (.ref h) W) P E g:=λW p X hg T hf=>by
   have a6:(gp (p.toList.map λi=>a.getD i g8)).size=a.length:=by rw[gQ,No,iz,X]
   obtain⟨ck,a7⟩:∃ck,(g.heap.update h (iO λ_=>(#[]:Array Db))).get? h=P3 (seqObj "list" #[] ck):=⟨_,jz C λ_=>#[]⟩;have L:(g.heap.update h (iO λ_=>(#[]:Array Db))).get? D=P3 (seqObj "list" #[] r):=(gZ _ _ (iM S)).trans a5;obtain⟨H,K⟩:∃H,((g.heap.update h (iO λ_=>(#[]:Array Db))).update D (iO λ_=>gp (p.toList.map λi=>a.getD i g8))).get? D=P3 (seqObj "list" (gp (p.toList.map λi=>a.getD i g8)) H):=⟨_,jz L λ_=>gp (p.toList.map λi=>a.getD i g8)⟩;unfold ksk_tail
   try dsimp only
   rw[T];refine Cn (jh C rfl ?_ (by rw[gQ,iK];omega) (Tk _));refine Cn (j1 ?_);refine Cn (lr L rfl ?_);refine Cn (jh L rfl ?_ (Tk _) (gc (mW a6) (by rw[iK];omega)));rw[hf];simp only[bne_self_eq_false,jB,if_false];refine Sc (g3 p _ H X hg (λb o a8 a9 e=>(gZ _ _ (iM a8)).trans ((gZ _ _ (iM a9)).trans e)) K ⟨_,(gZ _ _ S).trans a7⟩)
  unfold ksk_end
  try dsimp only
  simp only[jB,if_false]
  by_cases h2:a.length<2
  ·have m:a.toArray.size<2:=by rw[gQ];exact h2
   rw[if_pos m,if_pos m];refine Cn (Sc ?_);rw[StateT.run_pure];refine Cn (Sc ?_)
   try dsimp only
   refine y _ (gp (gs a.length)) (by simp) (g1 h2) (kat_snds t ?_) rfl;have er:=kas_range (d.toArray.zip a.toArray);rw[show(d.toArray.zip a.toArray).size=a.length by simp[t]]at er;exact er.symm
  ·have m:¬a.toArray.size<2:=by rw[gQ];exact h2
   rw[if_neg m,if_neg m];refine Cn (g9 (g2 (by omega)) (λκ s0 C=>?_) λ_ _ x=>x.elim)
   refine Cn (g9 (kat_run (Q:=λq O=>∃p:Array Nat,p.size=a.length/\arrOf q=p.map (kas_item (d.toArray.zip a.toArray))/\failedOf q=p_/\O=g/\G p)
    t (by omega) Y (λp' q O a1 a2 a3 a4=>⟨p',a1,a2,a3,a4⟩) C) ?_ λ_ _ e=>e)
   rintro⟨⟨⟩,q⟩ O ⟨p,X,b0,hf,rfl,hg⟩
   try dsimp only
   exact y q p X hg (kat_snds t b0) hf
end
section
variable {X:Cx}{zH:s_ (Addr×Obj)}{σ:L2.St}{H:Hp}{s:Shared}{h':Heap}
structure Up (X:Cx) (zH:List (Ch×Obj)) (D:Ch):Prop where
 new:X.s₀.heap.objs.size<=D
 loc:D≠X.env.locals
 cell:∀x c,X.env.cells.lookup x=P3 c->c≠D
 pin:∀p∈X.pn++zH,p.1≠D
 fs:D∉X.fs
theorem Inv.mine(I:Inv X zH σ H s){D:Ch}(h:s.heap.objs.size<=D):Up X zH D:=by
 refine⟨gc I.sz h,λz=>?_,λx c e z=>?_,λp a z=>?_,I.nofs h⟩
 ·have:=I.lt
  rw[←z]at this;exact absurd this (ko.mpr h)
 ·let⟨v,o,b,_⟩:=I.cell x c e
  have:=UF b
  rw[z]at this;exact absurd this (ko.mpr h)
 ·let⟨e,_⟩:=I.pin p a
  have:=UF e
  rw[z]at this;exact absurd this (ko.mpr h)
structure KeysAt (K:Frag) (H:Hp) (vs:List V) (keys:List (List Key)):Prop where
 len:vs.length=keys.length
 at_:∀(i:Nat) (ns:List Key),keys[i]?=P3 ns->∃a,vs[i]?=P3 (.ref a)/\SqT K H a (ns.map kOf)
 same:∀x∈keys,∀y∈keys,CO x y=q_
 ne:∀x∈keys,x≠[]
def NE(a:s_ (s_ Key))(b:s_ Nat):Prop:=b.Perm (gs a.length)/\∀i j,i<=j->j<a.length->BJ (a.getD (b.getD j 0) []) (a.getD (b.getD i 0) [])=r_
theorem KeysAt.tups{d:s_ V}{f:s_ Db}{c:s_ (s_ Key)}(I:Inv X zH σ H s)(r:Vals d f)(k:KeysAt X.K H d c){h':gf}(g:∀b o,s.heap.get? b=P3 o->h'.get? b=P3 o):S5 h' f c:=by
 refine⟨λi h e=>?_,r.length.symm.trans k.len,k.same,k.ne⟩;let⟨a,j,l⟩:=k.at_ i h e;let⟨u,m,p⟩:=r.get j;cases p;let⟨q,x,⟨o,t,v,n,w⟩,_⟩:=I.tuple l;exact⟨a,o,_,n,m,g a o t,v,w,by grind⟩
theorem Ii:∀{a:s_ V}{b:s_ Db},Vals a b->∀i:Nat,RelV (a.getD i .non) (b.getD i g8)
 |_,_,.nil,i=>by simp[RelV]
 |_,_,.cons r t,0=>by simpa using r
 |_,_,.cons r t,i+1=>by simpa using Ii t i
theorem Kg{f:Nat->V}{g:Nat->Db}(h:∀i,RelV (f i) (g i)):∀a:s_ Nat,Vals (a.map f) (a.map g)
 |[]=>.nil
 |i::a=>.cons (h i) (Kg h a)
theorem getD_list(p:Array Nat)(i:Nat):p.getD i 0=p.toList.getD i 0:=by simp
theorem Vy{a:s_ (s_ Key)}{n:Nat}{p:Array Nat}(c:a.length=n)(d:p.Perm (gp (gs n)))(e:So.Srt Tq (λi=>a.getD i []) p n):NE a p.toList:=by
 subst c;refine⟨Array.perm_iff_toList_perm.mp d,λi j b f=>?_⟩;have h:=e i j b f;unfold So.KN at h;rw[getD_list,getD_list]at h;exact h
theorem TQ{z:gw}{A:Db->Go->Prop}{d:s_ V}{f:s_ Db}{keys:s_ (s_ Key)}{Q:VK}(I:Inv X zH σ H s)(r:Vals d f)(B:d.length<64)(k:KeysAt X.K H d keys)
  (q:∀(v:s_ Nat) (l:Ch),NE keys v->H l=p_->Q (.ref l) (A2 H l (.lst (v.map λi=>d.getD i .non)))):
  wpAny (model X.prog X.w) z (kI.«list.sort» ⟨[.ref s.heap.objs.size],[]⟩) (λm C=>m=.done (.ret .none)/\EP X zH σ Q (.ref s.heap.objs.size) C) A {s with heap:=s.heap.push (seqObj "list" f.toArray 0)}:=by
 have x:=r.length;have t:keys.length=f.length:=k.len.symm.trans x;refine Pk (G:=λp=>p.Perm _/\So.Srt Tq (λi=>keys.getD i []) p f.length) (n:=0) (XV _ rfl) (by omega) (λD=>?_) (λL=>⟨my _,λi j E M=>?_⟩) (λp h' c N y g F=>⟨rfl,?_⟩)
 ·refine MR (keys:=keys) (k.tups I r λb o e=>?_) D (λp a b=>⟨rfl,a,b⟩)
  exact Im (gg (UF e)) (Ev _ e)
 ·have:i=j:=by omega
  subst this;exact i8 _
 ·have J:H s.heap.objs.size=p_:=I.fresh
  have u:(p.toList.map λi=>d.getD i .non).length=f.length:=by grind
  refine⟨.ref s.heap.objs.size,A2 H s.heap.objs.size (.lst _),I.laid (t':=s.toks) (λb o e=>g b o (gg (UF e)) (Ev _ e)) (On _) ⟨by rw[u,←x,iK];omega,_,c,Kg (Ii r) p.toList,F⟩,rfl,q _ _ (Vy t y.1 y.2) J⟩
theorem QC{c:gi}{w:gn}{A:gw}{E:Db->Go->Prop}{s:Go}{l:Ch}{b:s_ Db}{Q:s_ Db->Go->Prop}(e:IsTup s.heap l b.toArray)
  (h:Q b {s with heap:=(s.heap.push (seqObj "list" #[] 0)).update s.heap.objs.size (iO (·++b.toArray))}) (g:b.length<=sizeLine):
  wpAny (model c w) A (collect (.ref l)) Q E s:=by
 let⟨o,i,j,n,k⟩:=id e;unfold collect;refine Cn (wpAny_runValue (i9 entry_proto_collect' ?_));show wpAny _ _ (do again (.builtin "list.__iadd__" ⟨[←newList [],.ref l],[]⟩)) _ _ s;refine Cn (mE (Sc ⟨jy _ (by decide +kernel),i9 entry_list_iadd' ?_⟩));show wpAny _ _ (jc (.ref s.heap.objs.size) (.ref l) (.ref s.heap.objs.size)) _ _ {s with heap:=s.heap.push (seqObj "list" #[] 0)};unfold jc;have d:(s.heap.push (seqObj "list" #[] 0)).get? l=P3 o:=Ev _ i;refine Cn (kH (T:="tuple") ⟨o,d,j⟩ ?_);have m:(jW "tuple"==jW "tuple")=q_:=by rfl
 rw[if_pos (by rw[m];simp)];refine Cn (lZ d k ?_);refine Cn (lZ (xs:=#[]) (n:=0) (XV _ rfl) rfl ?_);rw[if_neg (by simp)];refine Cn (jh (xs:=#[]) (n:=0) (XV _ rfl) rfl ?_ (Tk _) (by show(#[]++b.toArray).size<=sizeLine+1;simp only[Array.size_append,gQ,ik];omega));refine Sc ?_
 show wpAny (model c w) A (do
   let o ←load s.heap.objs.size
   match o.data with
   |.seq xs _=>pure xs.toList
   |_=>unsupported "internal:collect") Q E {s with heap:=(s.heap.push (seqObj "list" #[] 0)).update s.heap.objs.size (iO (·++b.toArray))}
 refine Cn (wpAny_load (jz (XV _ rfl) _) ?_);show wpAny _ _ (pure ((#[]:Array Db)++b.toArray).toList) Q E _;rw[show((#[]:Array Db)++b.toArray).toList=b by simp];exact Sc h
theorem QF{h:gf}{g:Array Db->Array Db}{b:Ch}{o:Obj}(e:h.get? b=P3 o):((h.push (seqObj "list" #[] 0)).update h.objs.size (iO g)).get? b=P3 o:=
 (gZ _ _ (iM (gg (UF e)))).trans (Ev _ e)
theorem QE{g:Bool}{k:gw}{l:Db->Go->Prop}{p:Ch}{c:s_ V}{Q:s_ Db->Go->Prop}(I:Inv X zH σ H s)(h:SqK g X.K H p c)(q:∀i j,Vals c i->c.length<=sizeLine->Inv X zH σ H j->Q i j):
  wpAny (model X.prog X.w) k (collect (.ref p)) Q l s:=by
 cases g with
 |true=>
  let⟨d,r,f,a⟩:=I.list h;exact collect_list f.isList (q _ _ r a (I.kept λb o e=>QF e)) (by rw[←r.length];exact a)
 |false=>
  let⟨d,r,f,a⟩:=I.tuple h;exact QC f (q _ _ r a (I.kept λb o e=>QF e)) (by rw[←r.length];exact a)
def VW(K:Frag):s_ V->Hp->VK->Prop:=λd H Q=>∃(e:Bool) (p:Ch) (b:s_ V) (a:s_ (s_ Key)),d=[.ref p]/\SqK e K H p b/\b.length<64/\KeysAt K H b a /\
 ∀(c:s_ Nat) (l:Ch),NE a c->H l=p_->Q (.ref l) (A2 H l (.lst (c.map λi=>b.getD i .non)))
theorem HP:Co X (.builtin "sorted") (VW X.K):=by
 intro zH s σ H k d Q I r h;let⟨l,p,m,b,rfl,e,a,f,q⟩:=h;let⟨u,rfl,g⟩:=vals1 r;cases g;exact Hg (args_sorted1 _) (λx=>args_list_sort _) (QE I e λd n c i j=>⟨by rw[←c.length];exact i,TQ j c a f q⟩)
end
section
variable {X:Cx}{tg elt iter:Expr}{ifs:s_ Expr}{sc:Scope}{pos spos pos':Pos}{N':s_ Str}{js:s_ (t_ Nat)}{wi:TI}{i:Nat}{x:Str}
theorem R6(hc:X.calm=q_)(N':s_ Str)(js:s_ (t_ Nat))(hi:PI X tg iter wi)
  (hB:IF sc X.env.scope X.N N' js=q_) (hN:X.N.Nodup) (a0:X.N[i]?=P3 x) (hx:Loc X.env.scope x)
  (a1:swapsWith (.ListComp elt [⟨tg,iter,ifs,0⟩] sc pos) (P3 (.Name x pos')) spos.line X.env=pure q_)
  (hs:∀x,foldedSetIterable iter X.env x=pure x:=by intro _;rfl)
  (hf:X.fn x=q_\/X.env.scope.names.lookup x=P3 .local:=by first|exact .inl rfl|exact .inr rfl|assumption):
  PS X (.Assign [.Name x pos'] (.ListComp elt [⟨tg,iter,ifs,0⟩] sc pos) spos) (Ow (VB X sc N' js tg elt ifs wi) (Je i)):=by
 intro L s Y H D I h;have O:CompOk X sc N' js:=CompOk.of hB;let⟨M,t,a2,P⟩:=Lh (scope:=sc) (env:=X.env) λx hx=>I.ok.has x (O.free x hx);rw[exec_Assign_Name_used _ _ _ _ a1];refine Cn (lF (Cn ?_));show wpAny _ _ (do let _ ←comprehension (.ListComp elt [⟨tg,iter,ifs,0⟩] sc pos) sc X.env _ (newList []) r_ (eval iter X.env) (P3 (assign (.Name x pos') X.env))) _ _ s
 refine Cn (g9 (wpAny_comprehension_free (Q:=λ_ p=>SP X L D .next p) (use:=P3 (assign (.Name x pos') X.env)) rfl hs t O.kind O.names (thn (hi L s Y H _ I h) λv s1 h1=>thn h1 λa5 c h2=>?_))
  (λ_ p hq=>Sc (Sc hq)) λ_ _ e=>e)
 let⟨it,Z,tn,J,H2,e,F,T,Rp,f2,hq⟩:=h2;subst e
 have u:X.K.lookup c.heap.objs.size=p_:=by
  cases q:X.K.lookup c.heap.objs.size with
  |none=>rfl
  |some o=>exact absurd (UF (F.kIn _ _ q)) (iY _)
 let⟨g,tt,te,W,hg,ht,he,⟨m0,w0⟩,hW⟩:=hq c.heap.objs.size (F.hok.fresh (On _)) u M (c.heap.objs.size+1) c H2 Z;refine iu (wpAny_newFunctionEnv O.cell (by intro y hy;simp at hy) (λj f d=>?_) O.kind)
 dsimp only at f d ⊢
 generalize B:c.heap.push {cls:=.type "list",dict:=p_,data:=.seq ([]:s_ Db).toArray}=Hh at f d ⊢;have k:Hh.objs.size=c.heap.objs.size+1:=by rw[←B,iq]
 have R:∀b∈Z,b<c.heap.objs.size:=λb l=>by
  let⟨o,e,_⟩:=T.obj _ _ Rp b l;exact UF e
 have S:∀b o,c.heap.get? b=P3 o->j.get? b=P3 o:=λb o e=>d.extBut b o (by rw[k];exact gg (iw (UF e))) (Ev _ (B▸Ev _ e));have hD:∃n,j.get? c.heap.objs.size=P3 {cls:=.type "list",data:=.seq #[] n}:=⟨_,d.extBut _ _ (by rw[k];exact gg (mX _)) (Ev _ (B▸XV _ rfl))⟩
 have I3:∀G,Inv (A8 X sc N' M (c.heap.objs.size+1) c H2 Z) [] (Cu js Y) (A2 H2 c.heap.objs.size (.lst [])) {c with heap:=j,toks:=G}:=λG=>
  Pu F hc O a2 P f2 (λb l=>let ⟨o,e,_⟩:=T.obj _ _ Rp b l;⟨o,e⟩) (by rw[←k];exact f) S hD
 have U:tn 0 j:=T.keep _ _ _ Rp λb l o e=>S b o e
 have a3:∀b∈Z,A2 H2 c.heap.objs.size (.lst []) b=p_:=λb l=>by
  rw[AT (gg (R b l))];exact(f2 b l).1
 have r:∀G,codeAny (model X.prog X.w) X.A (.compLoop (.ListComp elt [⟨tg,iter,ifs,0⟩] sc pos) 0 (.ref it) (.ref c.heap.objs.size) (compEnvC sc M (c.heap.objs.size+1) X.env))
   (compPost (model X.prog X.w) X.A X.xe (P3 (assign (.Name x pos') X.env)) (λ_ p=>SP X L D .next p) (.ref c.heap.objs.size) (c.heap.objs.size+1)) {c with heap:=j,toks:=G}:=λG=>by
  refine Ms (W:=W) (m0:=m0) (Q:=λv H1=>Je i v Y H1 λzP H2=>D.nx zP H2) F f2 R (iE _) T hg ht he hW (λzZ H' p J' q'=>?_) (I3 G) U a3 w0;let⟨m,hn,_⟩:=J'.loc;have V:H' (c.heap.objs.size+1)=p_:=J'.free;have I4:Inv X L Y H' p:=LN (h':=p.heap) F f2 (iE _) J' λb _=>rfl;let⟨g1,g2,g3,g4,g5,g6⟩:=F.fpOk (b:=c.heap.objs.size+1) (iE _) V;show wpAny (model X.prog X.w) X.A (assign (.Name x pos') X.env (.ref c.heap.objs.size)) (λ_ C=>∃m,C.heap.Ns (c.heap.objs.size+1) m/\∀h',kF (c.heap.objs.size+1) C.heap h'->SP X L D .next {C with heap:=h'}) X.xe p;refine wpAny_assign_Name (MT (v:=.ref c.heap.objs.size) I4 hN a0 hx rfl (λs5 I5 ⟨a,E,ha⟩=>?_) hf)
  have na:c.heap.objs.size+1≠a:=by
   rcases ha with rfl|ha
   ·exact g2
   ·exact λz=>g5 _ _ ha z.symm
  refine⟨m,hn.sameBut E na,λh' a4=>?_⟩;exact⟨_,H',I5.turned (t':=s5.toks) (it:=c.heap.objs.size+1) (λb o l e=>a4.extBut b o l e) V g2 g4 g5 g6,q'⟩
 rw[show(newEnv sc Hh.objs.size X.env.globals M X.env.qual p_ .none (P3 X.env) builtinsNs).locals=c.heap.objs.size+1 from k];show codeAny (model X.prog X.w) X.A (.compStart (.ListComp elt [⟨tg,iter,ifs,0⟩] sc pos) 0 (.ref it) (.ref c.heap.objs.size) (compEnvC sc M (c.heap.objs.size+1) X.env)) _ _;exact codeAny_compStart_list (r _) (T.self _ 0 _ _ _ U (r _))
end
end L2
namespace Dp
open L2
section
variable {X:Cx}{zT:Kd}{tg elt iter:Expr}{ifs:s_ Expr}{sc:Scope}{pos:Pos}{src:D8}{b:BW}{tt:Gg}{te:DW}
theorem QB(hc:X.calm=q_)(N':s_ Str)(js:s_ (t_ Nat))(hi:ZX X tg iter src)(hg:∀L C s H O,DG (A8 X sc N' L C s H O) tg b)(ht:∀L C s H O,ba (A8 X sc N' L C s H O) ifs tt)(he:∀L C s H O,DE (A8 X sc N' L C s H O) elt zT te)
  (hB:IF sc X.env.scope X.N N' js=q_) (hk:zT≠.tp:=by intro z;cases z)
  (hs:∀x,foldedSetIterable iter X.env x=pure x:=by intro _;rfl):∃wi,PI X tg iter wi/\∀(C:Fm) (M:Ch->Prop) (H:Hp) (n:Nat) (ρ:s_ Slot) (σ:L2.St) (P:D->Nat->Prop) (Q:VK),Rel X.K C M H n ρ σ->Bp js src b tt te n ρ P->
   (∀v r d S,Ext C.U H r->FeedC X.K C.F M r S->VR X.K C.V M H r .fr v d->P d S->Q v r)->VB X sc N' js tg elt ifs wi σ H Q:=by
 let⟨wi,a1,a2⟩:=hi;refine⟨wi,a1,λC M H n ρ σ P Q R w q=>?_⟩;refine a2 C M H n ρ σ _ _ R w λJ T u n1 A f1 y w1=>?_;let⟨b3,w1⟩:=w1;have R1:=R.step A f1;intro l hl b5 L Ca s0 H0 O;let⟨g,g1,g2⟩:=hg L Ca s0 H0 O;let⟨tc,c1,c2⟩:=ht L Ca s0 H0 O;let⟨tx,x1,x2⟩:=he L Ca s0 H0 O
 have a4:¬C.U l:=λz=>by
  let⟨o,z⟩:=R1.udom l z;rw[hl]at z;cases z
 generalize W:(λb=>M b\/b=l)=M';have a6:M' l:=by rw[←W];exact .inr rfl
 have M'of:∀b,M b->M' b:=λb z=>by rw[←W];exact .inl z
 have a3:∀b,M' b->M b\/b=l:=λb z=>by rw[←W]at z;exact z
 have b0:∀b,C.V b\/b=l->M' b:=λb z=>z.elim (λz=>M'of b (R1.vM b z)) λz=>by rw[z];exact a6
 have b4:js.length=N'.length:=Fv (CompOk.of hB).cap
 exists g,tc,tx,λi m zZ r=>m=u.length - i/\i<=u.length/\∃S zY k G,Rel X.K ⟨M',C.F,C.U,λb=>C.V b\/b=l,T,[],[]⟩ M' r S zY zZ/\r l=P3 (.lst G)/\Ats X.K M' r k G/\k.length<=i/\Pres M T M' r /\
   C5 b tt te (λk n2=>P (.lst k) n2) (u.drop i) k S zY,g1,c1,x1,⟨u.length,by simp,Tk _,n1,Hv js ρ,[],[],?_⟩
 ·have I:Grow T (A2 T l (.lst [])):=Ar hl
  have Y:Pres M T M' (A2 T l (.lst [])):=⟨λb o e _=>I.all b o e,λb z=>(a3 b z).elim .inl λz=>.inr (by rw[z];exact hl),λb G e=>I.all b _ e⟩;refine⟨⟨?_,λa z=>z,λa z=>?_,I.ext,R1.fU,λa z=>.inl (R1.uV a z),b0,f1.pres Y λf o _ e=>I.all f.1 o e,?_,λp hp=>absurd hp (by simp),λi d a q z=>SJ R1.sl q z,λi s a q o _=>absurd o (by rw[E6 q];decide),λi j s t a q o _ _ _ _=>absurd o (by rw[E6 q];decide),λp hp=>absurd hp (by simp)⟩,AX,rfl,Tk _,Y,w1⟩
  ·unfold Hv Cu
   rw[No,No]
  ·rcases a3 a z with z|z
   ·let⟨o,z⟩:=R1.dom a z
    exact⟨o,I.all a o z⟩
   ·subst z
    exact⟨_,AX⟩
  ·refine Pm R1.sl Y λd v h=>h.same Y (λa o _ e=>I.all a o e) λa e n1 z=>z.elim n1 λz=>?_
   subst e;let⟨o,w⟩:=h.lies;rw[z,hl]at w;cases w
 ·rintro i m zZ r ⟨rfl,hi,S,zY,k,G,R',a7,Z,a8,Y,w'⟩
  by_cases a0:i<u.length
  ·have ed:u.drop i=u[i]::u.drop (i+1):=ic a0
   rw[ed]at w';let⟨go,yl⟩:=(y i M' r Y R'.ext R'.dom).1 u[i] (FM a0);refine .inr ⟨go,λx H2 hy=>?_⟩;let⟨I,hx⟩:=yl x H2 hy;have b1:=R'.step I.ext (R'.feed.grow I);refine g2 _ M' H2 S zY zZ u[i] x _ _ b1 hx w' λzN zV R3 w3=>?_;refine c2 _ M' H2 S zN zV _ _ R3 w3 λc H4 n4 e4 f4 w4=>?_;have R4:=R3.step e4 f4;have p4:Pres M' r M' H4:=I.pres.trans (R3.pres e4);have l4:H4 l=P3 (.lst G):=e4.keep (I.all _ _ a7) a4;cases c with
   |false=>exact⟨u.length - (i+1),by omega,rfl,a0,n4,zN,k,G,R4,l4,Z.pres p4,by omega,Y.trans p4,w4⟩
   | true=>
    refine x2 _ M' H4 n4 zN zV _ _ R4 w4 λyv H5 d5 n5 e5 f5 r5 w5=>?_;have B:=R4.step e5 f5;have p5:Pres M' H4 M' H5:=R4.pres e5;have l5:H5 l=P3 (.lst G):=e5.keep l4 a4;have b2:=r5.shOf R4.dom hk;have a5:=(Z.pres p4).pres p5;have pu:Pres M' H5 M' (A2 H5 l (.lst (G++[yv]))):=Dd a6 l5;have b6:G.length=k.length:=Z.length;refine⟨G,l5,by rw[iK];omega,u.length - (i+1),by omega,rfl,a0,n5,zN,k++[d5],G++[yv],?_,AX,(a5.append (Ats.one b2)).pres pu,by rw[eq,gl];omega,(Y.trans p4).trans (p5.trans pu),w5⟩;refine⟨B.len,B.sub,λa z=>?_,λb o e=>?_,B.fU,B.uV,B.vM,?_,λj s hs=>?_,λp hp=>absurd hp (by simp),B.br0,B.new,B.two,λp hp=>absurd hp (by simp)⟩
    ·by_cases ha:a=l
     ·subst ha;exact⟨_,AX⟩
     ·rw[AT ha];exact B.dom a z
    ·let⟨o',q1,q2⟩:=B.ext b o e
     by_cases hb:b=l
     ·subst hb
      have e':T b=P3 o:=e;rw[hl]at e';cases e'
     ·exact⟨o',by rw[AT hb];exact q1,q2⟩
    ·refine f5.pres pu λf o hf e=>?_
     rw[AT (λz=>a4 (by rw[←z];exact R1.fU f hf))];exact e
    ·have E:=B.sl j s hs
     cases s with
     |no=>trivial
     |sh d=>let⟨v,A,h2⟩:=E;exact⟨v,A,h2.pres pu⟩
     |ex a nm ks u=>let⟨A,h2⟩:=E;exact⟨A,h2.pres pu⟩
     | br d=>
      let⟨v,A,h2⟩:=E;refine⟨v,A,h2.same pu (λa o z e=>?_) λ_ _ z=>z⟩;subst z;let⟨o3,w⟩:=B.br0 j d a hs A
      have a8:a≠l:=λz=>by
       have w':T a=P3 o3:=w;rw[z,hl]at w';cases w'
      rw[AT a8];exact e
     |ow d=>
      let⟨a,A,h2,_⟩:=E;exact absurd h2 (B.new j _ a hs rfl A).1
     |lt a d=>
      let⟨A,h2,_⟩:=E;exact absurd h2 (B.new j _ a hs rfl A).1
     |fd=>exact E
  ·have e:i=u.length:=by omega
   subst e;rw[jr]at w';refine .inl ⟨(y _ M' r Y R'.ext R'.dom).2 (On _),?_⟩;have eb:Ext C.U T r:=R'.ext;have a9:Pres M' r M r:=Pres.less M'of;refine q _ r (.lst k) S (A.trans eb) (R'.feed.pres a9 λ_ _ _ z=>z) (VR.back A ?_) w';exact⟨l,rfl,hl,G,a7,by rw[W];exact Z⟩
theorem YY{q:Kd}{i:Nat}{x:Str}{a c:Pos}(r:X.N.Nodup)(j:X.N[i]?=P3 x)(t:Loc X.env.scope x)(l:X.calm=q_)(e:s_ Str)(h:s_ (t_ Nat))(u:ZX X tg iter src)(y:∀f C s H g,DG (A8 X sc e f C s H g) tg b)(A:∀f C s H g,ba (A8 X sc e f C s H g) ifs tt)(B:∀f C s H g,DE (A8 X sc e f C s H g) elt zT te)
  (m:IF sc X.env.scope X.N e h=q_) (k:swapsWith (.ListComp elt [⟨tg,iter,ifs,0⟩] sc pos) (P3 (.Name x a)) c.line X.env=pure q_:=by rfl) (D:zT≠.tp:=by intro z;cases z)
  (o:∀x,foldedSetIterable iter X.env x=pure x:=by intro _;rfl)
  (F:X.fn x=q_\/X.env.scope.names.lookup x=P3 .local:=by first|exact .inl rfl|exact .inr rfl|assumption):DS X q (.Assign [.Name x a] (.ListComp elt [⟨tg,iter,ifs,0⟩] sc pos) c) (Ay i (Bp h src b tt te)):=by
 let⟨U,G,I⟩:=QB l e h u y A B m D o;exact⟨_,R6 l e h G m r j t k o F,λC M H n J K V E R L w=>I C M H n J K _ _ R w λv O d P Q S T p=>L.nx M O P _ _ ((R.step Q S).set (T.shOf R.dom (by grind))) p⟩
end
end Dp
namespace L2
def cj:R2:=λy x H Q=>∃a o,x=.ref a/\DGet H a y o/\Q (.bl o.isSome) H
def Y9:R2:=λy x H Q=>∃a o,x=.ref a/\DGet H a y o/\Q (.bl (!o.isSome)) H
def cm:R2:=λx y H Q=>∃a v,x=.ref a/\DGet H a y (P3 v)/\Q v H
theorem V1{X:Cx}{k:Nat}(b:Room k X.A):OpR X (compareOp .In) cj:=by
 intro f s h H y x i u Q I c d ⟨a,j,ex,g,q⟩;subst ex;obtain rfl:u=gY a:=d;exact fO (LP b) I g c λl e=>⟨.bl _,H,e,rfl,q⟩
theorem Ee{X:Cx}{k:Nat}(b:Room k X.A):OpR X (compareOp .NotIn) Y9:=by
 intro f s h H y x i u Q I c d ⟨a,j,ex,g,q⟩;subst ex;obtain rfl:u=gY a:=d;exact Yi (LP b) I g c λl e=>⟨.bl _,H,e,rfl,q⟩
end L2
namespace Dp
open L2
def BR:s_ Key->s_ D->Key->t_ D
 |a::b,d::c,k=>if a=k then P3 d else BR b c k
 |_,_,_=>p_
section
variable {K:Frag}{X:Cx}
theorem Hd{M:Ch->Prop}{H:Hp}{k:Key}:∀{ks:s_ Key}{b:s_ D}{a:s_ V},Ats K M H b a->
  match BR ks b k with
  |some z=>∃v,FK (ks.zip a) k=P3 v/\At K M H z v
  |none=>FK (ks.zip a) k=p_
 |[],b,a,h=>by exact rfl
 |c::ks,[],a,h=>by cases h;exact rfl
 | c::ks,d::b,a,h=>by
  let⟨v,r,rfl,f,g⟩:=h;have i:=Hd (k:=k) (ks:=ks) g;unfold BR
  by_cases e:c=k
  ·rw[if_pos e]
   refine⟨v,?_,f⟩;show FK ((c,v)::ks.zip r) k=P3 v;rw[FO e]
  ·have:FK ((c,v)::ks.zip r) k=FK _ k:=FP e
   simp_all
def keyOf:D->t_ Key
 |.int i=>P3 (.inl i)
 |.str x=>P3 (.inr x)
 |_=>p_
theorem Ds{U M:Ch->Prop}{H:Hp}{d:D}{v:V}{k:Key}(e:keyOf d=P3 k)(h:AtT K U M H d v):v=kV k:=by
 cases d with
 |int i=>cases e;exact h
 |str x=>cases e;exact h.str.1
 |_=>cases e
def Ld:D->t_ (s_ Key×s_ D)
 |.dic a b=>P3 (a,b)
 |.fdi a b=>P3 (a,b)
 |_=>p_
theorem Lc{U M:Ch->Prop}{H:Hp}{d:D}{x:V}{g:s_ Key}{i:s_ D}(e:Ld d=P3 (g,i))(h:AtT K U M H d x):∃a b,x=.ref a/\Rd H a (.dK (g.zip b))/\Ats K M H i b:=by
 cases d with
 |dic j k=>cases e;let⟨a,b,rfl,_,c,_,f⟩:=h;exact⟨a,b,rfl,.inl c,f⟩
 |fdi j k=>cases e;let⟨a,b,rfl,⟨o,_,c⟩,_,f⟩:=h;exact⟨a,b,rfl,.inr ⟨o,c⟩,f⟩
 |_=>cases e
theorem KO{H:Hp}{a:Ch}{b:s_ (Key×V)}{k:Key}(e:Rd H a (.dK b)):DGet H a (kV k) (FK b k):=.inl ⟨_,k,e,rfl,rfl⟩
def JL(a:Bool)(e d:D)(P:D->Prop):Prop:=∃b c k,Ld d=P3 (b,c)/\keyOf e=P3 k/\P (.bl (if a then !(BR b c k).isSome else(BR b c k).isSome))
def CI(d e:D)(P:D->Prop):Prop:=∃a b k z,Ld d=P3 (a,b)/\keyOf e=P3 k/\BR a b k=P3 z/\P z
theorem ZU:GW K .sh cj (JL r_):=λU M H e d y x P Q b o f g w q=>by
 let⟨ks,i,k,j,l,w⟩:=w;let⟨a,p,rfl,m,n⟩:=Lc j g;refine⟨a,_,rfl,by rw[Ds l f];exact KO m,q _ H (.bl _) .refl rfl ?_⟩;have h:=Hd (k:=k) (ks:=ks) n;cases c:BR ks i k with
 |none=>simp_all
 |some z=>rw[c]at h w;let⟨v,r,_⟩:=h;simp_all
theorem F3:GW K .sh Y9 (JL q_):=λU M H e d y x P Q b o f g w q=>by
 let⟨ks,i,k,j,l,w⟩:=w;let⟨a,p,rfl,m,n⟩:=Lc j g;refine⟨a,_,rfl,by rw[Ds l f];exact KO m,q _ H (.bl _) .refl rfl ?_⟩;have h:=Hd (k:=k) (ks:=ks) n;cases c:BR ks i k with
 |none=>simp_all
 |some z=>rw[c]at h w;let⟨v,r,_⟩:=h;simp_all
theorem bL:GW K .sh cm CI:=λU M H d e x y P Q b p c f w q=>by
 let⟨ks,r,k,z,g,i,j,w⟩:=w;let⟨a,s,rfl,l,m⟩:=Lc g c;have h:=Hd (k:=k) (ks:=ks) m;rw[j]at h;let⟨v,n,o⟩:=h;exact⟨a,v,rfl,by rw[Ds i f,←n];exact KO l,q v H z .refl o w⟩
variable {a b:Expr}{zU zL:Kd}{wa wb:DW}{pos:Pos}
theorem CN{k:Nat}(g:Room k X.A)(h:DE X a zU wa)(i:DE X b zL wb)(j:bT b:=by intro _ _;rfl):DE X (.Subscript a b pos) .sh (AV CI wa wb):=by
 let⟨o,c,d⟩:=h;let⟨p,e,f⟩:=i;exact⟨_,Nk (LP g) c e j,λC M H n l m P Q R w q=>Fw bL d f C M H n l m P Q R w q⟩
end
def U4(i:Nat)(w:DW):AY:=λe n c=>∃a:Int,c[i]?=P3 (.sh (.int a))/\w n c λd f=>∃b:Int,d=.int b/\e.nx f (c.set i (.sh (.int (a+b))))
theorem Yb{X:Cx}{h j:Kd}{e:gj}{g:DW}{pos:Pos}{i:Nat}{x:Str}{c:Pos}(k:X.N.Nodup)(l:X.N[i]?=P3 x)(m:Loc X.env.scope x)(o:DE X e j g)
  (q:X.fn x=q_\/X.env.scope.names.lookup x=P3 .local:=by first|exact .inl rfl|exact .inr rfl|assumption):DS X h (.AugAssign (.Name x c) .Add e pos) (U4 i g):=by
 let⟨t,r,s⟩:=o;refine⟨_,Z8 k l m r aV q,λC M H n u y I E R L w=>?_⟩;let⟨a,z,w⟩:=w;let⟨v,f,A⟩:=R.sl i _ z;cases(A);refine⟨_,getD_some f,s C M H n u y _ _ R w λv B d D f F G p=>?_⟩;let⟨b,rfl,p⟩:=p;exact⟨a,b,rfl,LO G,L.nx M B D _ _ ((R.step f F).set (d:=.int _) rfl) p⟩
end Dp
namespace L2
open PySem.W
section
variable {X:Cx}{zH:s_ (Addr×Obj)}{σ:L2.St}{H:Hp}{s:Shared}{h':Heap}
theorem Inv.adopt2{D e:Ch}{o:HO}(I:Inv X zH σ H s)(m:Up X zH D)(h:H D=p_)(i:Up X zH e)(j:H e=p_)(l:D≠e)(k:∀b u,b≠D->b≠e->s.heap.get? b=P3 u->h'.get? b=P3 u)(new:ObjOk X.prog X.w (A2 H D o) h' D o):Inv X zH σ (A2 H D o) {s with heap:=h'}:=by
 have a:∀b,b∉[D,e]->b≠D/\b≠e:=λb d=>⟨λz=>d (by rw[z];exact Op),λz=>d (by rw[z];exact Rs _ (Re.mpr rfl))⟩
 refine I.step (g':=s.gens) (d':=s.drawn) (t':=s.toks) (ch:=[D,e]) (λb g=>?_) (λb u _ _ d q _=>k b u (a b d).1 (a b d).2 q) (λb u _ _ d q _=>⟨u.slots,k b u (a b d).1 (a b d).2 q⟩) (λb u d q n=>?_)
  (λb u d q=>⟨u,k b u (a b d).1 (a b d).2 q⟩) (λb p q=>?_) (λb u v q=>?_) (λb B q=>⟨#[],?_⟩) (λC t=>?_) (λb u q=>?_) I.bare
 ·rcases TW.mp g with rfl|g
  ·exact⟨.inr m.new,m.loc,m.cell,m.pin⟩
  ·rw[Re.mp g]
   exact⟨.inr i.new,i.loc,i.cell,i.pin⟩
 ·rw[AT (a b d).1];exact n
 ·rw[AT (Ax q h)];exact q
 ·rw[AT (Ax q h)];exact q
 ·rw[AT (Ax q h),q];simp
 ·let⟨u,x,y,A,r⟩:=t
  exact⟨u,x,y,k _ u (iM m.loc) (iM i.loc) A,r⟩
 ·by_cases g:b=D
  ·subst g;rw[AX]at q;cases q;exact new
  ·rw[AT g]at q
   refine(I.hok b u q).stay (λc v d f=>k c v ?_ ?_ f) (λc f=>by rw[AT (Ax f h)];exact f) λc p f=>by rw[AT (Ax f h)];exact f
   ·grind
   grind
def Zm(K:Frag)(f:Sp)(g:TE):TE:=λσ H Q=>g σ H λx d=>∃(h:Bool) (l:Ch) (c:s_ V) (a:s_ (s_ Key)) (J:s_ V->Hp->Prop),x=.ref l/\SqK h K d l c/\c.length<64/\J [] d /\
 (∀b H2 v,J b H2->c[b.length]?=P3 v->f [v] H2 (λk j=>J (b++[k]) j) E0) /\
 ∀b H2,J b H2->b.length=c.length->KeysAt K H2 b a/\∀(e:s_ Nat) (l:Ch),NE a e->H2 l=p_->Q (.ref l) (A2 H2 l (.lst (e.map λi=>c.getD i .non)))
theorem Vr{k:Nat}{f:Ch}{fd:hU}{pn fn:Str}{sp:Sp}{te:TE}{e:gj}{p fp kp pos:Pos}(F:A3 X.prog X.w X.K X.mg X.base CA k f fd [pn] sp)(hr:Room (k+2) X.A)(hg:Gl X "sorted")(hm:X.mg "sorted"=p_)
  (a9:Gl X fn) (b0:X.mg fn=P3 (.ref f)) (hb:Binds X.K fd [pn] []) (he:PE X e te) (hs:starEach [e] X.env=[(r_,eval e X.env)]:=by rfl) (b1:(fn==("__debug__":Str))=r_:=by decide):
  PE X (.Call (.Name "sorted" p) [e] [⟨P3 "key",.Name fn fp,kp⟩] pos) (Zm X.K sp te):=by
 intro zH s σ H Q I h;refine ia (EQ I hg hm lE ?_)
 refine callWith_kw (thn (BF he B6 hs pos zH s σ H (λC T=>∃x,C=[x]/\∃(κ:Bool) (l:Ch) (C:s_ V) (keys:s_ (s_ Key)) (J:s_ V->Hp->Prop),x=.ref l/\SqK κ X.K T l C/\C.length<64/\J [] T /\
   (∀B H2 v,J B H2->C[B.length]?=P3 v->sp [v] H2 (λk H3=>J (B++[k]) H3) E0) /\
   ∀B H2,J B H2->B.length=C.length->KeysAt X.K H2 B keys/\∀(ix:s_ Nat) (l:Ch),NE keys ix->H2 l=p_->Q (.ref l) (A2 H2 l (.lst (ix.map λi=>C.getD i .non)))) I ?first) λt s1 ⟨xs,T,I1,r1,q1⟩=>kws_cons (GK I1 a9 b0 (kws_nil ?_) b1)) (by rw[hs];rfl) (by rw[hs];rfl)
 case first=>
  show te σ H _;refine cast (congrArg (te σ H) ?_) h
  funext x T
  refine propext ⟨λz=>⟨x,rfl,z⟩,fun⟨y,e,z⟩=>?_⟩;cases e;exact z
 let⟨x,rfl,κ,l,C,keys,J,rfl,hq,b2,j0,U,a0⟩:=q1;let⟨u,rfl,ru⟩:=vals1 r1;cases ru;show wpAny (model X.prog X.w) X.A (call (.builtin "sorted") [.ref l] [(iG "key",.ref f)]) _ _ s1;refine Hg (ksk_s1 _ _) (λx=>ksk_l1 _ _) (QE I1 hq λt R r2 hz I2=>⟨by rw[←r2.length];exact hz,?_⟩);rw[ksk_t1];have hl:=r2.length;generalize W:R.heap.objs.size=D;have a1:(R.heap.push (seqObj "list" t.toArray 0)).objs.size=D+1:=by rw[size_push',W]
 have a2:(R.heap.push (seqObj "list" t.toArray 0)).get? D=P3 (seqObj "list" t.toArray 0):=by rw[←W];exact XV _ rfl
 have mD:Up X zH D:=I2.mine (by rw[W];exact On _);have mK:Up X zH (D+2):=I2.mine (by rw[W];exact Nat.le_add_right _ _);have nD:T D=p_:=I2.hok.fresh (by rw[W];exact On _);have nK:T (D+2)=p_:=I2.hok.fresh (by rw[W];exact Nat.le_add_right _ _);have a3:D≠D+2:=gg (iw (mX D));have S:∀b,Up X zH b->b∉Ml X.stack:=λb m z=>(TW.mp (I2.stkSub b z)).elim m.loc m.fs
 refine UB (s:={R with heap:=R.heap.push (seqObj "list" t.toArray 0)}) (n:=0) a2 (by rw[←hl];exact b2)
  (λB N=>∃O E,Vals O B/\J O E/\Inv X zH σ E N/\E D=p_/\E (D+2)=p_/\N.heap.get? D=(EA (R.heap.push (seqObj "list" t.toArray 0)) D t).get? D) (D+2) (by show D+2=(R.heap.push _).objs.size+1;rw[a1]) (λe1 a4=>?_) (λB N e v Y hk hv=>?_) λe1 a4 B N Y L=>?_
 ·refine⟨[],T,.nil,j0,?_,nD,nK,rfl⟩
  exact I2.kept (t':=R.toks) λb o q=>Im (by rw[←W];exact gg (UF q)) (Ev _ q)
 ·let⟨O,E,Z,Y,I',n1,n2,P⟩:=Y
  have hi:B.length<t.length:=(ZB.mp hv).1;have a5:C[O.length]?=P3 (C[O.length]'(by rw[Z.length];omega)):=FM _;let⟨u',e2,ru⟩:=r2.get a5;rw[Z.length,hv]at e2;cases e2;have b3:=U O E _ Y a5;have E1:Env0 X.prog X.w X.K X.mg X.base X.A.in1.in1 X.stack N E:=I'.env0.in1.in1;refine jj (kG (F.run X.A.in1.in1 X.stack N E ⟨[v],[]⟩ [v] _ _ E0 (hr.in1).in1 E1 (by simpa using hb N [v] I'.kIn rfl) (.cons ru .nil) b3) λr g M=>?_);cases r with
  |error e=>exact iZ M
  | ok fl=>
   cases fl with
   |next=>exact iZ M
   |brk=>exact iZ M
   |cont=>exact iZ M
   | ret u=>
    let⟨w',H3,os,a6,un,b4,b5,q3⟩:=id M
    obtain⟨oD,eD⟩:∃o,N.heap.get? D=P3 o:=by
     let⟨c,hc,_⟩:=Kq a2;exact⟨_,P.trans hc⟩
    have kD:g.heap.get? D=P3 oD:=un.keep D oD eD n1 (S D mD) (by simp);have kK:g.heap.get? (D+2)=P3 (seqObj "list" B.toArray e):=un.keep _ _ hk n2 (S _ mK) (by simp);have f1:H3 D=p_:=un.free D oD eD n1 (by simp);have f2:H3 (D+2)=p_:=un.free _ _ hk n2 (by simp);have I3:Inv X zH σ H3 g:=I'.call' os un b4 a6 (λb z=>absurd z (by simp));exists kK,O++[w'],H3,Z.append (.cons b5 .nil),q3,?_,f1,f2
    ·exact I3.turned (t':=g.toks) (λb o hb q=>(gZ _ _ (iM hb)).trans q) f2 mK.loc (.inr mK.new) mK.cell mK.pin
    ·show(g.heap.update (D+2) _).get? D=_
     rw[gZ _ _ (iM a3),kD,←eD,P]
 ·let⟨O,E,Z,Y,I',n1,n2,P⟩:=Y
  let⟨a7,q⟩:=a0 O E Y (by rw[Z.length,L,hl]);have b6:keys.length=t.length:=by rw[←a7.len,Z.length,L]
  refine⟨P.trans a4,λp=>p.Perm (gp (gs t.length))/\So.Srt Tq (λi=>keys.getD i []) p t.length,λh2=>?_,λh1=>⟨my _,λi j b9 hj=>?_⟩,λp h' c hp hg a8 b7 _=>⟨rfl,?_⟩⟩
  ·have ts:=MR (prog:=X.prog) (w:=X.w) (A:=X.A.in1.in1) (keys:=keys) (a7.tups I' Z λb o e=>e) (by omega) (G:=λp g=>g=N/\p.Perm (gp (gs t.length))/\So.Srt Tq (λi=>keys.getD i []) p t.length) (λp a b=>⟨rfl,by rw[←L];exact a,by rw[←L];exact b⟩)
   rw[L]at ts;exact ts
  ·have:i=j:=by omega
   subst this;exact i8 _
  ·have b8:(p.toList.map λi=>C.getD i .non).length=t.length:=by rw[No,iz,hp]
   refine⟨.ref D,A2 E D (.lst (p.toList.map λi=>C.getD i .non)),I'.adopt2 mD n1 mK n2 a3 a8 ⟨by rw[b8,←hl,iK];omega,_,c,Kg (Ii r2) p.toList,b7⟩,rfl,q _ _ (Vy b6 hg.1 hg.2) n1⟩
theorem K7{e f:Type}{F:e->f->Prop}:∀{c:s_ e}{d:s_ f}{j:Nat}{a:e}{b:f},Paired F c d->c[j]?=P3 a->d[j]?=P3 b->F a b
 |_,_,_,_,_,.nil,h,_=>by simp at h
 |_,_,0,_,_,.cons r t,g,i=>by
  grind
 |_,_,j+1,_,_,.cons r t,g,i=>K7 (j:=j) t (by simp_all) (by simp_all)
end
end L2
namespace Dp
open L2
section
variable {K:Frag}
def WU(a:s_ D)(P:D->Prop):Prop:=match a with
 |[.int i,.int j]=>P (.int (if j<i then j else i))
 |_=>False
def aj(a:s_ D)(P:D->Prop):Prop:=match a with
 |[.int i]=>P (.int (if i<0 then -i else i))
 |_=>False
theorem bJ:D7 K .sh (λa H Q=>∃i j,a=[.int i,.int j]/\Q (.int (if j<i then j else i)) H) WU:=by
 intro U M H h k P Q b l c w q;unfold WU at w
 split at w
 ·rename_i i j
  cases c with
  | cons d e=>cases e with
   |cons f g=>
    cases g;cases d.int;cases f.int;exact⟨i,j,rfl,q _ H (.int _) .refl rfl w⟩
 grind
theorem dW:D7 K .sh (λa H Q=>∃i,a=[.int i]/\Q (.int (if i<0 then -i else i)) H) aj:=by
 intro U M H f g P Q b h c w q;unfold aj at w
 split at w
 ·rename_i i
  cases c with
  |cons d e=>
   cases e;cases d.int;exact⟨i,rfl,q _ H (.int _) .refl rfl w⟩
 grind
end
end Dp
namespace L2
def Ga(H:Hp)(L:s_ Ch)(f:Ch->Obj):Hp:=λb=>if b∈L then(H b).map (HO.frz (f b))else H b
theorem Du{H:Hp}{L:s_ Ch}{f:Ch->Obj}{b:Ch}(h:b∉L):Ga H L f b=H b:=by unfold Ga;rw[if_neg h]
theorem OA{H:Hp}{L:s_ Ch}{f:Ch->Obj}{b:Ch}{o:HO}(h:b∈L)(e:H b=P3 o):Ga H L f b=P3 (.frz (f b) o):=by unfold Ga;grind
section
variable {X:Cx}{zH:s_ (Addr×Obj)}{σ:L2.St}{H:Hp}{s:Shared}
theorem Inv.frz{L:s_ Ch}(I:Inv X zH σ H s)(k:∀b∈L,∃d,H b=P3 (.dK d)):∃f,Inv X zH σ (Ga H L f) s:=by
 have a:∀(f:Ch->Obj) b o,H b=P3 o->(∀d,o≠.dK d)->Ga H L f b=P3 o:=λf b o e n=>by
  rw[Du (λx=>by grind)];exact e
 exists λb=>(s.heap.get? b).getD {cls:=.none,data:=.fields #[]};refine I.step (g':=s.gens) (d':=s.drawn) (t':=s.toks) (h':=s.heap) (ch:=[]) (λ_ z=>nomatch z) (λ_ _ _ _ _ e _=>e) (λb o _ _ _ e _=>⟨o.slots,e⟩) (λb o _ e n=>?_) (λb o _ e=>⟨o,e⟩) (λb l e=>a _ b _ e λ_ z=>by cases z) (λb o u e=>a _ b _ e λ_ z=>by cases z) (λb A e=>⟨#[],by grind⟩) (λ_ h=>h) (λb u e=>?_) I.bare
 ·unfold Ga
  simp_all
 ·by_cases g:b∈L
  ·let⟨d,i⟩:=k b g
   rw[OA g i]at e;cases e;let⟨z,y,m,r,p,t,v,j,c⟩:=(show ObjOk X.prog X.w H s.heap b (.dK d)from I.hok b _ i);exact⟨by rw[j];rfl,z,y,m,r,p,t,v,j,c⟩
  ·rw[Du g]at e
   exact(I.hok b u e).stay (λ_ _ _ q=>q) (λc q=>a _ c _ q λ_ z=>by cases z) λc l q=>a _ c _ q λ_ z=>by cases z
def em(t:TE):TE:=λσ H Q=>t σ H λv c=>∃L:s_ Ch,(∀b∈L,∃a,c b=P3 (.dK a))/\∀f:Ch->Obj,Q v (Ga c L f)
theorem Vs{e:gj}{t:TE}(h:PE X e t):PE X e (em t):=by
 intro zH s σ H Q I a;refine thn (h _ s σ H _ I a) λu g ⟨v,i,b,r,L,c,q⟩=>?_;let⟨f,d⟩:=b.frz c;exact⟨v,_,d,r,q f⟩
end
end L2
namespace Dp
open L2
def Cv:D->t_ (s_ Key)
 |.tup a=>Jb a
 |_=>p_
def IZ(c:D->t_ (s_ Key))(f:s_ D):Prop:=f.Pairwise λa b=>∀d e,c a=P3 d->c b=P3 e->BJ e d=r_
def Keyed(a:D->t_ (s_ Key))(b:s_ D):Prop:=(∀x∈b,∃k,a x=P3 k/\k≠[])/\∀x∈b,∀y∈b,∀c d,a x=P3 c->a y=P3 d->CO c d=q_
theorem range_getD(a:s_ D):(gs a.length).map (λi=>a.getD i .non)=a:=by
 apply List.ext_getElem
 ·simp
 simp_all
theorem SE{kf:D->t_ (s_ Key)}{c:s_ D}{a:s_ (s_ Key)}{b:s_ Nat}(m:a.length=c.length)(r:∀(i:Nat) (x:D),c[i]?=P3 x->∃k,a[i]?=P3 k/\kf x=P3 k)(h:NE a b):
  (b.map λi=>c.getD i .non).Perm c/\IZ kf (b.map λi=>c.getD i .non):=by
 let⟨d,s⟩:=h;constructor
 ·have:=d.map λi=>c.getD i D.non
  rw[m,range_getD]at this;exact this
 ·unfold IZ
  rw[mP];intro i j n f l t u o p;rw[List.getElem_map]at o p;rw[No]at n f;have v:b.length=a.length:=by rw[d.length_eq,jS]
  have g:∀i (h:i<b.length) k,kf (c.getD b[i] .non)=P3 k->a.getD (b.getD i 0) []=k:=λi h k e=>by
   have w:b[i]<a.length:=iT.mp (d.mem_iff.mp (hV h));have q:b[i]<c.length:=by rw[←m];exact w
   let⟨C,y,z⟩:=r b[i] c[b[i]] (FM q);have A:c.getD b[i] .non=c[b[i]]:=by rw[g_,FM q];rfl
   rw[A,z]at e;have B:b.getD i 0=b[i]:=by rw[g_,FM h];rfl
   rw[B,g_,y];exact gW e
  have:=s i j (mS l) (by rw[←v];exact f)
  rw[g i n t o,g j f u p]at this;exact this
theorem GL{b:D->t_ (s_ Key)}:∀{xs:s_ D},(∀x∈xs,∃k,b x=P3 k/\k≠[])->∃a:s_ (s_ Key),a.length=xs.length/\(∀(i:Nat) (x:D),xs[i]?=P3 x->∃k,a[i]?=P3 k/\b x=P3 k/\k≠[])
 |[],_=>⟨[],rfl,λi x e=>by simp at e⟩
 | x::xs,h=>by
  let⟨k,d,f⟩:=h x Op;let⟨a,l,g⟩:=GL (xs:=xs) λy c=>h y (Rs _ c);refine⟨k::a,by simp_all,λi y e=>?_⟩;cases i with
  |zero=>
   simp_all
  |succ i=>
   simp_all
section
variable {K:Frag}{M:Addr->Prop}{H:Hp}
theorem Ats.getD:∀{b:s_ D}{a:s_ V},Ats K M H b a->∀i:Nat,At K M H (b.getD i .non) (a.getD i .non)
 |[],a,h,i=>by cases(h);simp[At]
 |d::b,a,h,0=>by
  let⟨v,r,e,f,c⟩:=h
  grind
 |d::b,a,h,i+1=>by
  let⟨v,r,e,f,c⟩:=h;subst e
  simpa using Ats.getD c i
theorem Ats.pick{b:s_ D}{c:s_ V}(h:Ats K M H b c):∀a:s_ Nat,Ats K M H (a.map λi=>b.getD i .non) (a.map λi=>c.getD i .non)
 |[]=>rfl
 |i::a=>⟨_,_,rfl,h.getD i,Ats.pick h a⟩
theorem JI{o:D->t_ (s_ Key)}{f:s_ D}{t:s_ V}{c:s_ (s_ Key)}(p:∀d k v,d∈f->o d=P3 k->At K M H d v->∃a,v=.ref a/\SqT K H a (k.map kOf))(u:Ats K M H f t)(z:Keyed o f)(w:c.length=f.length)(A:∀(i:Nat) (x:D),f[i]?=P3 x->∃k,c[i]?=P3 k/\o x=P3 k/\k≠[]):KeysAt K H t c:=by
 have b:∀(i:Nat) (h:s_ Key),c[i]?=P3 h->∃x,f[i]?=P3 x/\o x=P3 h/\h≠[]:=λi h e=>by
  have l:i<f.length:=by rw[←w];exact(ZB.mp e).1
  let⟨k,g,m,n⟩:=A i f[i] (FM l);rw[e]at g;cases g;exact⟨f[i],FM l,m,n⟩
 refine⟨u.length.trans w.symm,λi h e=>?_,λx q y B=>?_,λx q=>?_⟩
 ·let⟨d,g,m,_⟩:=b i h e
  let⟨v,n,C⟩:=u.get g;let⟨a,rfl,E⟩:=p d h v (iS g) m C;exact⟨a,n,E⟩
 ·let⟨i,l⟩:=je.mp q
  let⟨j,F⟩:=je.mp B;let⟨d,g,m,_⟩:=b i x l;let⟨G,r,s,_⟩:=b j y F;exact z.2 d (iS g) G (iS r) x y m s
 ·let⟨i,l⟩:=je.mp q
  let⟨d,g,m,n⟩:=b i x l;exact n
theorem JJ{d:D}{k:s_ Key}{v:V}(e:Cv d=P3 k)(h:At K M H d v):∃a,v=.ref a/\SqT K H a (k.map kOf):=by
 cases d with
 |tup g=>
  let⟨a,i,b,c,f⟩:=h
  have:=Hy (e) f
  subst this;exact⟨a,b,c.sq⟩
 |_=>cases e
def HK(c:s_ D)(P:D->Prop):Prop:=∃d b,c=[d]/\Ip d=P3 b/\b.length<64/\Keyed Cv b/\∀a:s_ D,a.Perm b->IZ Cv a->P (.lst a)
theorem OV:D7 K .fr (VW K) HK:=by
 intro U M H E F P Q o p r w q;let⟨d,G,rfl,e,c,g,w⟩:=w;let⟨v,rfl,s⟩:=C4 r;let⟨t,a,u,rfl,f,y⟩:=NQ s e (λ_ z=>z) p;let⟨h,j,m⟩:=GL g.1;refine⟨t,a,u,_,rfl,y M H (Pres.refl _ _) (Ext.refl _ _),by rw[f.length];exact c,JI (λd k v _=>JJ) f g j m,λA l B n=>?_⟩;let⟨C,D⟩:=SE (kf:=Cv) j (λi x e=>by let⟨k,a,b,_⟩:=m i x e;simp_all) B;exact q _ _ _ (Ar n) (C8 n (f.pick A)) (w _ C D)
end
section
variable {X:Cx}{a e:Expr}{zU:Kd}{wa:DW}{pos p fp kp:Pos}
def Ux(W:W2)(wa:DW):DW:=λn h P=>wa n h λd e=>∃(c:s_ D) (f:D->D),Ip d=P3 c/\c.length<64/\(∀x∈c,∀g:D->Nat->Prop,g (f x) e->W [.sh x] e g)/\Keyed (λx=>Cv (f x)) c /\
 ∀b:s_ D,b.Perm c->IZ (λx=>Cv (f x)) b->P (.lst b) e
theorem Wl{k:Nat}{fn pn:Str}{W:W2}(G:Got X.prog X.w X.K X.mg X.base fn k [pn] .sh W)(hr:Room (k+2) X.A)(hg:Gl X "sorted")(hm:X.mg "sorted"=p_)(Z:Gl X fn)(he:DE X e zU wa)
  (J:starEach [e] X.env=[(r_,eval e X.env)]:=by rfl) (a0:(fn==("__debug__":Str))=r_:=by decide):DE X (.Call (.Name "sorted" p) [e] [⟨P3 "key",.Name fn fp,kp⟩] pos) .fr (Ux W wa):=by
 let⟨f,fd,F,a1,b0,hb,hW⟩:=G;let⟨t,h1,h2⟩:=he;refine⟨_,Vr F hr hg hm Z a1 hb h1 J a0,λC M H n ρ σ P Q R w q=>?_⟩;refine h2 C M H n ρ σ _ _ R w λv H1 d Y e1 f1 r1 p=>?_;let⟨j,B,hd,a2,hw,hK,w⟩:=p;have L:=R.step e1 f1;let⟨κ,l,us,rfl,J,sq⟩:=NQ (U:=C.U) (r1.tpOf R.dom R.vM) hd R.uV L.vM;let⟨N,hl,hk⟩:=GL hK.1;have s:=J.length;refine⟨κ,l,us,N,λc H2=>Ext C.U H1 H2/\FeedC X.K C.F M H2 Y/\c.length<=j.length/\∀(i:Nat) (k:V),c[i]?=P3 k->∃x,j[i]?=P3 x/\At X.K M H2 (B x) k,rfl,sq M H1 (Pres.refl _ _) (Ext.refl _ _),by rw[s];exact a2,⟨Ext.refl _ _,f1,Tk _,λi k z=>absurd (show(p_:t_ V)=P3 k from z) (λh=>nomatch h)⟩,λc H2 v hJ hv=>?_,λc H2 hJ a3=>?_⟩
 ·let⟨ex,u,a4,E⟩:=hJ
  have m:=L.step ex u;have hi:c.length<j.length:=by rw[←s];exact(ZB.mp hv).1
  have O:j[c.length]?=P3 j[c.length]:=FM hi;let⟨v',e2,hA⟩:=(J.pres (L.pres ex)).get O;rw[hv]at e2;cases e2;refine⟨rfl,C.F,C.U,C.V,M,Y,[.sh j[c.length]],λd n=>d=B j[c.length]/\n=Y,⟨m.dom,m.fU,m.uV,m.vM,u,.cons ⟨⟨v,rfl,hA⟩,rfl⟩ .nil⟩,hw _ (hV hi) _ ⟨rfl,rfl⟩,λr H3 d n' S f3 vr hd=>?_⟩;let⟨rfl,rfl⟩:=hd;refine⟨ex.trans S,f3,by rw[eq,gl];omega,λi k o=>?_⟩
  by_cases a5:i<c.length
  ·rw[iR a5]at o
   let⟨x,h3,h4⟩:=E i k o;exact⟨x,h3,h4.pres (m.pres S)⟩
  ·rw[iC (by omega)]at o
   have a6:i=c.length:=by
    have:=(ZB.mp o).1
    rw[gl]at this;omega
   subst a6;rw[me]at o;cases(show P3 r=P3 k from o);exact⟨_,O,vr⟩
 ·let⟨ex,u,a4,E⟩:=hJ
  have m:=L.step ex u;have a7:c.length=j.length:=by rw[a3,s]
  have a8:Ats X.K M H2 (j.map B) c:=by
   have go:∀(j:s_ D) (c:s_ V),c.length=j.length->(∀(i:Nat) (k:V),c[i]?=P3 k->∃x,j[i]?=P3 x/\At X.K M H2 (B x) k)->Ats X.K M H2 (j.map B) c:=by
    intro j
    induction j with
    |nil=>intro c h _;exact k6.mp h
    | cons x j ih=>
     intro c h hh;cases c with
     |nil=>cases h
     | cons k c=>
      let⟨T,e3,h3⟩:=hh 0 k rfl;cases(show P3 x=P3 T from e3)
      exact⟨k,c,rfl,h3,ih c (by simpa using h) λi k' e4=>by
       let⟨y,e5,h5⟩:=hh (i+1) k' (by simpa using e4);exact⟨y,by simpa using e5,h5⟩⟩
   exact go j c a7 E
  have a9:Keyed Cv (j.map B):=by
   refine⟨λy hy=>?_,λy hy z hz ka kb ea eb=>?_⟩
   ·let⟨x,hx,rfl⟩:=TM.mp hy
    exact hK.1 x hx
   ·let⟨x,hx,rfl⟩:=TM.mp hy
    let⟨T,I,rfl⟩:=TM.mp hz;exact hK.2 x hx T I ka kb ea eb
  refine⟨JI (λd k v _=>JJ) a8 a9 (by rw[hl,No]) λi x e=>?_,λix l ho hn=>?_⟩
  ·rw[gR]at e
   let⟨T,I,rfl⟩:=g0.mp e;exact hk i T I
  ·let⟨o1,o2⟩:=SE (kf:=λx=>Cv (B x)) hl (λi x e=>by let⟨k,a,b,_⟩:=hk i x e;exact⟨k,a,b⟩) ho
   have g:Grow H2 (A2 H2 l (.lst (ix.map λi=>us.getD i .non))):=Ar hn;refine q _ _ (.lst (ix.map λi=>j.getD i .non)) Y ((e1.trans ex).trans g.ext) (u.grow g) (VR.back (e1.trans ex) ?_) (w _ o1 o2);exact C8 hn ((J.pres (L.pres ex)).pick ix)
def XJ:Key->D
 |.inl i=>.int i
 |.inr x=>.str x
def N8:Key->Prop
 |.inl _=>True
 |.inr x=>x.length<=sizeLine
theorem Wo{K:Frag}{M:Ch->Prop}{H:Hp}{k:Key}(h:N8 k):At K M H (XJ k) (kOf k):=by
 cases k with
 |inl i=>exact rfl
 |inr x=>exact⟨rfl,h⟩
end
end Dp
namespace L2
section
open PySem.MeetsSeq
open PySem.AutoSeq1 (wpAny_loadPart')
theorem VS(l:Ch)(items:Array Db)(n:Nat)(x:Db)(e:Db->Bool)(j:Nat)(hj:j<items.size)(hit:e items[j]=q_)(hs1:items.size<=sizeLine)(prog:gi)(w:gn)(A:gw)(R:Result->Go->Prop)(hp:gf)(g:Array GenState)(d:Drawn)(tk:Nat)(os:_)
  (hl:hp.get? l=P3 {cls:=.type "list",dict:=p_,data:=.seq items n,slots:=#[]}) (he:∀y,y∈items->PySem.SeqAt.EqAt A.in1 ⟨hp,g,d,tk,os⟩ y x (e y)) (h:R (.ok (.ret .none)) ⟨hp.update l (iO λxs=>xs.eraseIdxIfInBounds j),g,d,tk,os⟩):
  ∀k i:Nat,j - i=k->i<=j->(∀m (hm:m<items.size),i<=m->m<j->e items[m]=r_)->
   wpAny (model prog w) A.in1 (kI.«list.remove.loop» ⟨[.ref l,x,rawInt i],[]⟩) (λfin s'=>match fin with|.done f=>R (.ok f) s'|.again c'=>c'.quiet=q_/\codeAny (model prog w) A c' R s') (λe s'=>R (.error e) s') ⟨hp,g,d,tk,os⟩:=by
 intro k
 induction k with
 |zero=>
  intro i hk hij hno;have hij':i=j:=by omega
  subst hij'
  wp_walk using iU hl
  have hi:items[((i:Nat):Int).toNat]?=P3 items[i]:=by simp[hj]
  rw[hi];refine Cn (he _ (mM hj) prog w _ _ ?_);rw[hit];have hz':(items.eraseIdxIfInBounds i).size<=sizeLine+1:=gc (size_erased items _) (mN hs1)
  wp_walk using (lc hl rfl (hz:=hs1) (_hz':=hz')),iU hl
  simpa using h
 | succ k ih=>
  intro i hk hij hno;have hlt:i<items.size:=by omega
  wp_walk using iU hl
  have hi:items[((i:Nat):Int).toNat]?=P3 items[i]:=by simp[hlt]
  have hc:((i:Int)+1)=((i+1:Nat):Int):=by push_cast;rfl
  rw[hi];refine Cn (he _ (mM hlt) prog w _ _ ?_);rw[hno i hlt (On _) (by omega)]
  wp_walk
  rw[hc]
  exact⟨jT plain_remove_loop _,i9 entry_remove_loop (by
   rw[jP plain_remove_loop _];exact ih (i+1) (by omega) (by omega) (λm hm h1 h2=>hno m hm (by omega) h2))⟩
theorem VT{prog:gi}{w:gn}{A:gw}{E:Db->Go->Prop}{s:Go}{Q:Db->Go->Prop}(l:Ch)(items:Array Db)(n:Nat)(x:Db)(e:Db->Bool)(j:Nat)(hj:j<items.size)(hit:e items[j]=q_)(hno:∀m (hm:m<items.size),m<j->e items[m]=r_)
  (hs1:items.size<=sizeLine) (hl:s.heap.get? l=P3 {cls:=.type "list",dict:=p_,data:=.seq items n,slots:=#[]}) (he:∀y,y∈items->PySem.SeqAt.EqAt A.in1 s y x (e y))
  (h:Q .none {s with heap:=s.heap.update l (iO λxs=>xs.eraseIdxIfInBounds j)}):wpAny (model prog w) A (call (.builtin "list.remove") [.ref l,x]) Q E s:=by
 have key:wpAny (model prog w) A.in1 (kI.«list.remove» ⟨[.ref l,x],[]⟩) (λfin s'=>match fin with|.done f=>wants Q E (.ok f) s'|.again c'=>c'.quiet=q_/\codeAny (model prog w) A c' (wants Q E) s') (λe s'=>wants Q E (.error e) s') s:=by
  let⟨hp,g,d,tk,os⟩:=s
  wp_walk using iU hl
  exact⟨jT plain_remove_loop _,i9 entry_remove_loop (VS l _ n x e j hj hit hs1 _ w A _ hp g d tk os hl he h _ 0 rfl (Tk _) (λm hm _ h2=>hno m hm h2))⟩
 exact jj (jm PySem.F.slot_list_remove.plain PySem.F.entry_list_remove (PySem.F.slot_list_remove.check _ _ _ _ _ _ _ _ ⟨_,hl,rfl⟩ (PySem.F.args_list_remove_2 _ _) key))
end
section
variable {X:Cx}
def Rv:V->s_ V->Hp->VK->Prop:=λx f H Q=>∃(l:Ch) (b:s_ V) (y:V) (a:s_ ja) (d:ja) (j:Nat),x=.ref l/\f=[y]/\H l=P3 (.lst b)/\RVs H a b/\RV H d y/\jE a=q_/\d.canLay0=q_/\d.depth<=100 /\
 (∃c,a[j]?=P3 c/\iF c d=q_)/\(∀m e,m<j->a[m]?=P3 e->iF e d=r_)/\Q .non (A2 H l (.lst (b.eraseIdx j)))
theorem T8{k:Nat}(L:Room k X.A):ZW X "list.remove" Rv:=by
 intro Y s Z H x vs v us Q I M N h;let⟨l,O,y,c,d,j,rfl,rfl,D,o,P,E,R,dd,⟨S,F,p⟩,t,q⟩:=h;cases M;let⟨u,rfl,T⟩:=N.one;let⟨z,a,n,r,hl,e⟩:=I.lstM D;let⟨U,G⟩:=RVs.reads I o r;let⟨bs,V⟩:=RV.reads I P T;have J:=PySem.SeqAt.readsAll_map c a U E G;have b:c.length=a.length:=by rw[←J,No]
 have hu:=L.un;have K:min (im c) d.depth<=d.depth:=kN _ _
 have f:∀m w,c[m]?=P3 w->∀(h:m<a.toArray.size),PySem.SeqAt.readOf s.heap a.toArray[m]=w:=λm w e h=>by
  rw[←J,gR]at e;have W:m<a.length:=by simpa using h
  rw[FM W]at e;have e:=gW e
  simpa using e
 have B:j<a.length:=by rw[←b];exact(ZB.mp F).1
 refine VT l a.toArray n u (λy=>iF (PySem.SeqAt.readOf s.heap y) d) j (by rw[gQ];exact B) (by rw[f j S F];exact p) (λm g C=>?_) (by rw[gQ];omega) e (PySem.SeqAt.items_eqAt (vs:=a.toArray) (by rw[List.toList_toArray];exact G) V E R (by omega)) ?_
 ·have i:m<c.length:=by rw[b];simpa using g
  rw[f m c[m] (FM i) g];exact t m c[m] C (FM i)
 ·refine⟨.non,_,I.lset (t':=s.toks) (its':=a.eraseIdx j) D e ?_ (r.eraseIdx j) ?_,rfl,q⟩
  ·show a.toArray.eraseIdxIfInBounds j=(a.eraseIdx j).toArray
   rw[List.eraseIdxIfInBounds_toArray]
  ·have:=JG O j
   omega
end
end L2
namespace Dp
open L2
def dI(d:D)(b:s_ D)(P:D->D->Prop):Prop:=∃(a:s_ D) (y:D) (j:Nat),d=.lst a/\b=[y]/\Ce (.lst a)/\Ce y/\(∃x,a[j]?=P3 x/\FN x y=q_)/\(∀m x,m<j->a[m]?=P3 x->FN x y=r_)/\P (.lst (a.eraseIdx j)) .non
theorem dR{K:Frag}:bU K Rv dI:=by
 intro M H a d G I P Q m t n w q;let⟨b,y,j,rfl,rfl,⟨o,s,_⟩,⟨v,z,A⟩,⟨x,B,c⟩,f,w⟩:=w;let⟨h,i,k⟩:=t;let⟨u,r,rfl,C,D⟩:=n;cases(show r=[]from D)
 have g:∀(m:Nat) (p:ja),(Be b)[m]?=P3 p->∃x,b[m]?=P3 x/\p=toPy x:=λm p e=>by
  rw[CU,gR]at e;let⟨x,l,rfl⟩:=g0.mp e
  grind
 refine⟨a,h,u,Be b,toPy y,j,rfl,rfl,i,k.rv o,C.rv v,s,z,A,⟨toPy x,by rw[CU,gR,B];rfl,c⟩,λm p E e=>?_,q _ (.lst (b.eraseIdx j)) .non _ ⟨h.eraseIdx j,AX,?_⟩ rfl w⟩
 ·let⟨F,l,rfl⟩:=g m p e
  exact f m F E l
 ·exact(k.eraseIdx j).pres (Dd m i)
def Ke(c:Gg)(i:AY):AY:=λd n a=>∃W:Nat->Nat->s_ Slot->Prop,(∃m,W m n a)/\∀m n a,W m n a->
 c n a λb e=>if b=q_ then ∃N:Nat->s_ Slot->Prop,(∀f g,N f g->∃h,h<m/\W h f g)/\i {d with nx:=N,ct:=N,bk:=d.nx} e a else d.nx e a
section
variable {X:Cx}{κ:Kd}{c:Expr}{body:s_ Stmt}{wc:Gg}{wb:AY}{pos:Pos}
theorem Lb(G:lL (model X.prog X.w) X.A X.env X.xe)(I:DT X c wc)(J:QU X κ body wb):DS X κ (.While c body [] pos) (Ke wc wb):=by
 let⟨tc,O,P⟩:=I;let⟨tb,Q,S⟩:=J;refine⟨_,Vg G O Q,λC M H n T σ y E R L w=>?_⟩;let⟨W,⟨U,V⟩,g⟩:=w;exists λm h t=>∃i j a,Rel X.K C i t j a h/\W m j a,⟨U,M,n,T,R,V⟩;rintro m h t ⟨i,j,a,z,Y⟩;refine P C i t j a h _ _ z (g m j a Y) λb H2 B e f p=>?_;have R2:=z.step e f;cases b with
 | true=>
  rw[if_pos rfl]at p ⊢;let⟨N,Z,p⟩:=p;exists λD F=>∃u k l,Rel X.K C u F k l D/\N k l,λD F ⟨u,k,l,R3,w3⟩=>?_
  ·let⟨m',hm,d⟩:=Z k l w3
   exact⟨m',hm,u,k,l,R3,d⟩
  ·exact S C i H2 B a h {y with nx:=N,ct:=N,bk:=y.nx} _ R2 ⟨λo v q r x s d=>⟨o,q,r,s,d⟩,L.rt,λo v q r x s d=>L.nx o v q r x s d,λo v q r x s d=>⟨o,q,r,s,d⟩⟩ p
 |false=>
  rw[if_neg (by decide)]at p ⊢;exact L.nx i H2 B a h R2 p
theorem Ih{f:E2}{n:Nat}{a:s_ Slot}(I:Nat->Nat->s_ Slot->Prop)(i:Nat)(j:I i n a)
  (k:∀m n a (N:Nat->s_ Slot->Prop),I m n a->(∀c e g,c<m->I c e g->N e g)->wc n a λb d=>if b=q_ then wb {f with nx:=N,ct:=N,bk:=f.nx} d a else f.nx d a)
  (mono:∀n a (P Q:Bool->Nat->Prop),(∀b d,P b d->Q b d)->wc n a P->wc n a Q):Ke wc wb f n a:=by
 refine⟨I,⟨i,j⟩,λm n a h=>?_⟩;refine mono n a _ _ (λb d p=>?_) (k m n a (λe g=>∃c,c<m/\I c e _) h λc e g l o=>⟨c,l,o⟩);cases b with
 |true=>exact⟨_,λ_ _ z=>z,p⟩
 |false=>exact p
end
end Dp
namespace L2
open PySem.W
section
variable {prog:Program}{w:World}{A:Around}{E:Value->Shared->Prop}{R:Result->Shared->Prop}{I:Addr}{fp wr:s_ Addr}{n:Nat}{P:Nat->Value->Prop}{St:Nat->Heap->Prop}
def ZY(prog:gi)(w:gn)(A:gw)(c:CmpOp)(P:Nat->Db->Prop)(d:gf->Prop)(e:Nat->Nat->Bool):Prop:=
 ∀i j a b (s:Go) (Q:Db->Go->Prop) (E:Db->Go->Prop),d s.heap->P i a->P j b->Q (.bool (e i j)) s->wpAny (model prog w) A (richCompare c a b) Q E s
theorem T9(W:Walks prog w A.in1 I fp wr n P St)(D:Nat->Nat->Bool)(G:gf->Prop)(H:ZY prog w A.in1 .Lt P G D)(S:Ch)(J:S∉fp)(g:∀h u:gf,G h->(∀b o,b∉wr->b≠S->h.get? b=P3 o->u.get? b=P3 o)->G u):
  ∀(k j:Nat) (s:Go) (r:Db) (c:Nat),n - (j+1)=k->j+1<=n->St (j+1) s.heap->G s.heap->P (argBest D j) r->
  s.heap.get? S=P3 {cls:=.type "list",dict:=p_,data:=.seq #[r,r] c,slots:=#[]}->
  (∀v u O,P (argBest D (n - 1)) v->(∀b o,b∉wr->b≠S->s.heap.get? b=P3 o->u.get? b=P3 o)->R (.ok (.ret v)) {s with heap:=u,toks:=O})->
  codeAny (model prog w) A (.builtin "min.loop" ⟨[.ref I,.none,.ref S],[]⟩) R s:=by
 have K:S∉wr:=λh=>J (W.sub _ h);have i:(toString "min"++toString ".loop":String)="min.loop":=by decide
 intro k
 induction k with
 |zero=>
  intro j s r c Z hj y L t M Q;have N:j+1=n:=by omega
  refine i9 PySem.F.entry_min_loop ?_;rw[jP PySem.F.plain_min_loop _];show wpAny _ A.in1 (seqItems? (.ref S) >>=_) _ _ s;refine Cn (ir M rfl ?_);show wpAny _ A.in1 (tryCatch (pyNext (.ref I)) _ >>=_) _ _ s;refine Cn (lq (W.done s _ _ (N▸y) λu O a=>?_));have l:=a S _ K M;show wpAny _ A.in1 (updateSeq S (λ_=>#[]) >>=_) _ _ _;refine Cn ?_;refine lc l rfl (Cn (j1 (Sc ?_)));refine Q r _ O (by rw[←N];exact t) λb o d f e=>(gZ _ _ (iM f)).trans (a b o d e)
 | succ k V=>
  intro j s r c Z hj y L t M Q;have z:j+1<n:=by omega
  refine i9 PySem.F.entry_min_loop ?_;rw[jP PySem.F.plain_min_loop _];show wpAny _ A.in1 (seqItems? (.ref S) >>=_) _ _ s;refine Cn (ir M rfl ?_);show wpAny _ A.in1 (tryCatch (pyNext (.ref I)) _ >>=_) _ _ s;refine Cn (lq (W.item (j+1) s _ _ z y λv u O X x a=>?_));have l:=a S _ K M;have m:G u:=g _ _ L λb o h1 _ e=>a b o h1 e;show wpAny _ A.in1 (tryCatch (holding [v,v] (richCompare .Lt v r >>=_)) _ >>=_) _ _ _;refine Cn (lq (iP (Cn (H (j+1) (argBest D j) v r _ _ _ m X t ?_))));refine Cn (iP (jR ?_));refine Cn (j1 (Sc ?_));cases Y:D (j+1) (argBest D j)with
  | true=>
   simp only[if_true];refine Cn ?_;refine lc l rfl (Cn (j1 ?_));rw[i]
   refine Sc ⟨jT PySem.F.plain_min_loop _,V (j+1) _ v _ (by omega) z (W.frame _ _ _ x λb T o e=>?_) (g _ _ m λb o _ h2 e=>(gZ _ _ (iM h2)).trans e) (by simp only[argBest,Y,if_true];exact X) (ii _ l rfl)
    λU B p C q=>?_⟩
   ·exact(gZ _ _ (λh:S=b=>J (by rw[h];exact T))).trans e
   ·exact Q U B p C λb o d f e=>q b o d f ((gZ _ _ (iM f)).trans (a b o d e))
  |false=>
   simp only[jB,if_false];refine Cn (j1 ?_);rw[i];refine Sc ⟨jT PySem.F.plain_min_loop _,V (j+1) _ r c (by omega) z x m (by simp only[argBest,Y,jB,if_false];exact t) l λU B p C q=>?_⟩;exact Q U B p C λb o d f e=>q b o d f (a b o d e)
theorem Q8(W:Walks prog w A.in1 I fp wr n P St)(x:Nat->Nat->Bool)(j:gf->Prop)(k:ZY prog w A.in1 .Lt P j x)(S:Ch)(d:S∉fp)(a:∀h f:gf,j h->(∀b o,b∉wr->b≠S->h.get? b=P3 o->f.get? b=P3 o)->j f)(G:0<n){s:Go}{c:Nat}(y:St 0 s.heap)(z:j s.heap)
  (H:s.heap.get? S=P3 {cls:=.type "list",dict:=p_,data:=.seq #[] c,slots:=#[]})
  (K:∀v f J,P (argBest x (n - 1)) v->(∀b o,b∉wr->b≠S->s.heap.get? b=P3 o->f.get? b=P3 o)->R (.ok (.ret v)) {s with heap:=f,toks:=J}):
  codeAny (model prog w) A (.builtin "min.loop" ⟨[.ref I,.none,.ref S],[]⟩) R s:=by
 have B:S∉wr:=λh=>d (W.sub _ h);have g:(toString "min"++toString ".loop":String)="min.loop":=by decide
 refine i9 PySem.F.entry_min_loop ?_;refine Cn (ir H rfl ?_);refine Cn (lq (W.item 0 s _ _ G y λv f J L l i=>?_));have m:=i S _ B H;have p:j f:=a _ _ z λb o M _ e=>i b o M e;show wpAny _ A.in1 (updateSeq S (λ_=>#[v,v]) >>=_) _ _ _;refine Cn ?_;refine lc m rfl ?_;rw[g];refine Sc ⟨jT PySem.F.plain_min_loop _,T9 W x j k S d a _ 0 _ v _ rfl G (W.frame _ _ _ l λb N o e=>?_) (a _ _ p λb o _ O e=>(gZ _ _ (iM O)).trans e) L (ii _ m rfl) λQ C q D r=>?_⟩
 ·exact(gZ _ _ (λh:S=b=>d (by grind))).trans e
 ·exact K Q C q D λb o t u e=>r b o t u ((gZ _ _ (iM u)).trans (i b o t e))
theorem min_list{s:Go}{l:Ch}{a:Array Db}{Q:Db->Go->Prop}(u:Nat->Nat->Bool)(G:A.handled=p_)(x:s.heap.IsList l a)(H:0<a.size)
  (m:∀i j r t (p:Go) (Q:Db->Go->Prop) (E:Db->Go->Prop),(∀b o,s.heap.get? b=P3 o->p.heap.get? b=P3 o)->a[i]?=P3 r->a[j]?=P3 t->Q (.bool (u i j)) p->wpAny (model prog w) A.in1 (richCompare .Lt r t) Q E p)
  (h:∀v k y,a[argBest u (a.size - 1)]?=P3 v->(∀b o,s.heap.get? b=P3 o->k.get? b=P3 o)->Q v {s with heap:=k,toks:=y}):wpAny (model prog w) A (call (.builtin "min") [.ref l]) Q E s:=by
 have d:(toString "min"++toString ".loop":String)="min.loop":=by decide
 have f:l<s.heap.objs.size:=by let⟨_,e,_⟩:=x;exact UF e
 refine call_function_tree PySem.F.kind_min PySem.F.plain_min PySem.F.entry_min (PySem.F.args_min1 _) ?_;show wpAny _ A.in1 (l9 "min" ["key","default"] 0 ⟨[],[]⟩ >>=_) _ _ s;refine Cn (m_ (show l9 "min" ["key","default"] 0 ⟨[],[]⟩=pure [p_,p_]from rfl) ?_);refine Cn (Sc ?_);refine Cn (iy x ?_);refine Cn (iu ?_);rw[d];have W:=Walks.list (prog:=prog) (w:=w) (A:=A.in1) G s.heap.objs.size l (gg f) a;have g:(s.heap.push {cls:=.type "list_iterator",data:=.fields #[.ref l,.int 0 0]}).objs.size=s.heap.objs.size+1:=iq _ _;refine Sc ⟨jT PySem.F.plain_min_loop _,Q8 W u (λk=>∀b o,s.heap.get? b=P3 o->k.get? b=P3 o) (λi j r t p Q E z C D q=>m i j r t p Q E z C D q) (s.heap.push {cls:=.type "list_iterator",data:=.fields #[.ref l,.int 0 0]}).objs.size (λc=>?_) (λC D z B b o e=>B b o (λc=>?_) ?_ (z b o e)) H ⟨⟨_,Ev _ (XV _ rfl),rfl,rfl⟩,(x.push _).push _⟩ (λb o e=>Ev _ (Ev _ e)) (XV _ rfl) λv k y J B=>?_⟩
 ·rw[g]at c
  rcases TW.mp c with e|c
  ·exact absurd e (Nat.succ_ne_self _)
  ·rw[←Re.mp c]at f
   exact absurd f (ko.mpr (iE _))
 ·rw[Re.mp c]at e
  exact absurd (UF e) (iY _)
 ·rw[g]
  exact gg (iw (UF e))
 ·refine h v k y J λb o e=>B b o (λc=>?_) ?_ (Ev _ (Ev _ e))
  ·rw[Re.mp c]at e
   exact absurd (UF e) (iY _)
  ·rw[g]
   exact gg (iw (UF e))
end
theorem Lr(a:s_ (s_ Key)):∀m:Nat,argBest (λi j=>BJ (a.getD i []) (a.getD j [])) m<=m/\∀i,i<=m->BJ (a.getD i []) (a.getD (argBest (λi j=>BJ (a.getD i []) (a.getD j [])) m) [])=r_
 |0=>⟨On _,λi b=>by
  have:i=0:=by omega
  subst this;exact Bq _⟩
 | m+1=>by
  let⟨f,d⟩:=Lr a m;unfold argBest
  by_cases c:BJ (a.getD (m+1) []) (a.getD (argBest (λi j=>BJ (a.getD i []) (a.getD j [])) m) [])=q_
  ·rw[if_pos c]
   refine⟨On _,λi b=>?_⟩
   by_cases e:i=m+1
   ·subst e;exact Bq _
   ·cases z:BJ (a.getD i []) (a.getD (m+1) [])with
    |false=>rfl
    |true=>
     have:=B7 _ _ _ z c
     rw[d i (by omega)]at this;cases this
  grind
section
variable {X:Cx}
def Y8(K:Frag):s_ V->Hp->VK->Prop:=λc H Q=>∃(p:Ch) (b:s_ V) (a:s_ (s_ Key)),c=[.ref p]/\SqL K H p b/\0<b.length/\KeysAt K H b a /\
 ∀j v,b[j]?=P3 v->(∀i,i<b.length->BJ (a.getD i []) (a.getD j [])=r_)->Q v H
theorem Ue{k:Nat}(U:Room k X.A):Co X (.builtin "min") (Y8 X.K):=by
 intro zH s σ H V us Q I r h;let⟨p,vs,c,rfl,hq,hn,B,q⟩:=h;let⟨u,rfl,rx⟩:=vals1 r;cases rx;let⟨f,E,pl,hz⟩:=I.list hq;have W:=E.length;have Y:=B.tups I E λb o e=>e;have hu:=U.un;refine min_list (λi j=>BJ (c.getD i []) (c.getD j [])) U.hd pl.isList (by rw[gQ];omega) (λi j vi vj s' Q' E' d G J L=>?_) λv h' M N d=>?_
 ·have C:i<c.length:=by rw[←B.len,W];have:=(kT.mp G).1;simpa using this
  have l:j<c.length:=by rw[←B.len,W];have:=(kT.mp J).1;simpa using this
  let⟨a,⟨a1,dd,Z,sl⟩,V,n,m,D,e3,e4,e5⟩:=Y.at_ i c[i] (FM C);let⟨a',⟨a0,O,P,R⟩,S,n',g,t,w,y,T⟩:=Y.at_ j c[j] (FM l);simp only at e3 e4 w y;subst e3 e4 w y;have m:f.toArray[i]?=P3 (.ref a):=by rw[←m];simp
  have g:f.toArray[j]?=P3 (.ref a'):=by rw[←g];simp
  rw[m]at G;rw[g]at J;cases G;cases J;have z:=B.same _ (hV C) _ (hV l);have g1:c.getD i []=c[i]:=by rw[g_,FM C];rfl
  have g2:c.getD j []=c[j]:=by rw[g_,FM l];rfl
  simp only[g1,g2]at L;rw[←Hw _ _ z]at L
  exact richCompare_meets_room (op:=.Lt) ⟨_,d _ _ D,rfl⟩ ⟨_,d _ _ t,rfl⟩ PySem.F.slot_tuple_lt PySem.F.entry_tuple_lt (PySem.F.args_tuple_lt_2 _ _) (Gh a a' V S n n' dd O sl R c[i] c[j] e5 T z)
   ⟨d _ _ D,d _ _ t,show kn (GY c[i] c[j])≠Value.notImplemented/\Q' (.bool (GY c[i] c[j])) s' from⟨(λx=>nomatch x),L⟩⟩ (by show X.A.units+1<cLine;omega)
 ·let⟨b1,b2⟩:=Lr c (f.toArray.size - 1)
  rw[gQ]at N b1 b2;have l:argBest (λi j=>BJ (c.getD i []) (c.getD j [])) (f.length - 1)<vs.length:=by omega
  let⟨u,m,ru⟩:=E.get (FM l);have D:f.toArray[argBest (λi j=>BJ (c.getD i []) (c.getD j [])) (f.length - 1)]?=P3 u:=by rw[←m];simp
  rw[D]at N;cases N;exact⟨_,H,I.kept (t':=M) d,ru,q _ _ (FM l) λi C=>b2 i (by omega)⟩
end
end L2
namespace Dp
open L2
def ZJ(d:s_ D)(P:D->Prop):Prop:=∃a,d=[.lst a]/\0<a.length/\Keyed Cv a/\∀x∈a,(∀y∈a,∀b c,Cv x=P3 b->Cv y=P3 c->BJ c b=r_)->P x
theorem bH{K:Frag}:D7 K .sh (Y8 K) ZJ:=by
 intro U M H D E P Q p F r w q;let⟨e,rfl,G,l,w⟩:=w;let⟨v,rfl,s⟩:=C4 r;let⟨a,t,rfl,_,u,f⟩:=s;let⟨b,x,g⟩:=GL l.1;have c:=f.length;refine⟨a,t,b,rfl,.inl u,by omega,JI (λd k v _=>JJ) f l x g,λj v m z=>?_⟩;have h:j<e.length:=by rw[←c];exact(ZB.mp m).1
 let⟨I,n,A⟩:=f.get (FM h);rw[m]at n;cases n;refine q v H e[j] .refl A (w _ (hV h) λy B J L ex N=>?_);let⟨i,o⟩:=je.mp B;have C:i<e.length:=(ZB.mp o).1;let⟨O,R,S,_⟩:=g i y o;let⟨T,V,W,_⟩:=g j e[j] (FM h)
 grind
end Dp
namespace Nt
open L2 Dp
def KW:W2:=λc n P=>∃m:Nat,c=[.fd,.sh (.int m)]/\1<=m/\m<=26/\11<=n/\∀(a:s_ Str) (b:Nat),a.length=m->(∀x∈a,YH x)->rising a->n - 11<=b->P (.lst (a.map .str)) b
def words:s_ Str:=["a","aa","ab","b","far","in","near","out","place","tie","ties","way"]
def wordAt(i:Nat):Str:=words.getD i "a"
theorem QV:∀i,i<12->YH (wordAt i):=by
 have h:∀i∈gs 12,1<=(wordAt i).length/\(wordAt i).length<=8/\∀c∈cs (wordAt i),97<=c/\c<=122:=by decide +kernel
 exact λi a=>h i (iT.mpr a)
theorem S8:∀i j,i<12->j<12->wordAt i=wordAt j->i=j:=by
 have h:∀i∈gs 12,∀j∈gs 12,cs (wordAt i)=cs (wordAt j)->i=j:=by decide +kernel
 exact λi j a b e=>h i (iT.mpr a) j (iT.mpr b) (congrArg cs e)
def GJ:Str:="abcdefghijklmnopqrstuvwxyz"
theorem LH(i:Nat)(h:i<26):(cs GJ)[i]?=P3 (97+i):=by
 have a:∀i∈gs 26,(cs GJ)[i]?=P3 (97+i):=by decide +kernel
 simp_all
theorem JC{c i:Type}{f:c->i}:∀{l:s_ c},l.Nodup->(∀a∈l,∀b∈l,f a=f b->a=b)->(l.map f).Nodup
 |[],_,_=>h_
 |a::l,h,d=>by
  rw[gk]at h;rw[g7,gk];refine⟨λj=>?_,JC h.2 λx k y m=>d x (Rs _ k) y (Rs _ m)⟩;let⟨b,g,e⟩:=TM.mp j;exact h.1 (d a Op b (Rs _ g) e.symm▸g)
theorem X_{f m j k:Nat}{M:Nat}(d:m<=M)(g:j<m)(i:k<m)(e:(f+j) % M=(f+k) % M):j=k:=by
 have h:∀a b,a<=b->b<m->(f+a) % M=(f+b) % M->a=b:=λa b c l e=>by
  have:=Nat.sub_mod_eq_zero_of_mod_eq e.symm
  rw[Nat.mod_eq_of_lt (by omega)]at this;omega
 rcases Nat.le_total j k with c|c
 ·grind
 grind
theorem IN(a:s_ Str):QO (a.map .str)=P3 a:=by
 induction a with
 |nil=>rfl
 |cons y r b=>
  rw[g7];unfold QO
  grind
theorem YF:∀(a:s_ Str),cs (Txt.join (iG "") a)=a.flatMap cs:=by
 intro a;show cs (Builtin.Str.glued _ a)=_;rw[StrLaws.glued_eq_join]
 induction a with
 |nil=>rfl
 | cons x r b=>
  cases r with
  |nil=>rw[k_,List.flatMap_nil,gq];rfl
  |cons y r=>
   show cs (x++iG ""++Str.join _ _)=_;rw[Lf,Lf,b];show cs x++[]++_=_
   grind
theorem V3{a:s_ Str}(h:∀z∈a,z.length=1):(a.flatMap cs).length=a.length:=by
 induction a with
 |nil=>rfl
 |cons x r b=>
  rw[k_,eq,b λz c=>h z (Rs _ c),EU,h x Op,gS];omega
theorem Oy:∀(a:s_ Str),(∀y∈a,y.length=1)->(a.map (·.length)).sum=a.length
 |[],_=>rfl
 |y::r,h=>by
  rw[g7,nP,Oy r λz b=>h z (Rs _ b),h y Op,gS];omega
theorem drawn{P:s_ D->Nat->Prop}{m n:Nat}{s:Slot}(p:m<=n)(h:∀b:s_ Str,b.length=m->(∀z∈b,z.length=1/\∀c∈cs z,97<=c/\c<=122)->P (b.map .str) (n - m)):
  C5 (Ae 2) DB (AV BC (AC 0) (AQ BG (AB (Az 1) (AB (AG (wC (D.int 26))) AO)))) P (Dq 0 m) [] n [.sh (.str GJ),.fd,s]:=by
 refine Mb (λk g e i=>k<=m/\g=n - (m - k)/\(∃b:s_ Str,e=b.map .str/\b.length=m - k/\∀z∈b,z.length=1/\∀c∈cs z,97<=c/\c<=122)/\∃s,i=[.sh (.str GJ),.fd,s]) ?_ ?_ _ _ _ _ ?_
 ·grind
 ·rintro k d g e i t ⟨u,rfl,⟨b,rfl,v,j⟩,s,rfl⟩ f
  refine⟨26,rfl,by decide,by decide,by omega,λr w x=>?_⟩;obtain⟨q,rfl⟩:∃q:Nat,r=(q:Int):=⟨r.toNat,by omega⟩;have l:q<26:=by omega
  refine⟨97+q,AL (LH q l),f _ _ _ ⟨by omega,by clear v w x l;omega,⟨b++[⟨#[97+q]⟩],by rw[hX];rfl,by grind,λz a=>?_⟩,_,rfl⟩⟩
  rcases gP.mp a with a|a
  ·exact j z a
  ·rw[Re.mp a]
   refine⟨rfl,λc o=>?_⟩
   have:c=97+q:=by simpa [cs]using o
   omega
 ·rw[CZ]
  simp_all
theorem Ut(i:Nat)(h:i<12):words[i]?=P3 (wordAt i):=by
 have a:i<words.length:=h;unfold wordAt
 simp_all
theorem Df{b:BW}{g:AY}{l:E2}{all:s_ D}(I:s_ D->Nat->s_ Slot->Prop)(i:∀n c,I all n c->l.nx n c)
  (f:∀(a:s_ D) (d:D) (j:s_ D) (n:Nat) (c:s_ Slot) (nx:Nat->s_ Slot->Prop),all=a++d::j->I a n c->(∀m o,I (a++[d]) m o->nx m o)->b d c λp=>g {l with nx:=nx,ct:=nx,bk:=l.nx} n p):
  ∀(k a:s_ D) (n:Nat) (c:s_ Slot),all=a++k->I a n c->BP b g l k n c
 |[],a,n,c,e,h=>by
  rw[gq]at e;subst e;exact i n c h
 |d::k,a,n,c,e,h=>f _ d k n c _ e h λm o q=>Df I i f k _ m _ (by grind) q
theorem NX{c:Int}{n:Nat}{a b:s_ D}{d:D}(h:Dq c n=a++d::b):d=.int (c+(a.length:Int))/\a.length<n:=by
 have f:=congrArg kY h;rw[CZ]at f;have e:(Dq c n)[a.length]?=P3 d:=by grind
 unfold Dq at e
 simp_all
theorem c5{r:Int}(h:r=0\/r=1):MulOk "z" r/\(Txt.mul "z" r).length<=1/\∀c∈cs (Txt.mul "z" r),97<=c/\c<=122:=by
 rcases h with rfl|rfl
 ·exact⟨⟨rfl,⟨λh=>absurd (by decide) h,λh=>absurd (by decide) h⟩⟩,by decide,by decide⟩
 ·exact⟨⟨rfl,⟨λ_ h=>absurd h (by decide),λ_ h=>absurd h (by decide)⟩⟩,by decide,by decide⟩
def nameAt(x:Str)(a f k:Nat):Str:=Txt.slice x p_ (P3 (a:Int))++⟨#[97+(f+k) % 26]⟩++Txt.slice x (P3 ((a:Int)+1)) (P3 7)++Txt.mul "z" ((k:Int) % 2)
theorem JD{x:Str}{a f k:Nat}(c:x.length=8)(d:a<7):cs (nameAt x a f k)=(cs x).take a++(97+(f+k) % 26)::(((cs x).drop (a+1)).take (6 - a)++cs (Txt.mul "z" ((k:Int) % 2))):=by
 unfold nameAt;rw[Lf,Lf,Lf,ZP (by omega) (by omega),bB (by omega) (by omega) (by omega)];have b:(7 - ((a:Int)+1)).toNat=6 - a:=by omega
 rw[b,iA,iA];rfl
theorem Pg{x:Str}{a f k:Nat}(b:x.length=8)(j:∀c∈cs x,97<=c/\c<=122)(d:a<7):YH (nameAt x a f k):=by
 have e:=JD (f:=f) (k:=k) b d;let⟨_,g,i⟩:=c5 (r:=k % 2) (by omega)
 have l:(nameAt x a f k).length=7+(Txt.mul "z" (k % 2)).length:=by
  rw[←EU,e,eq,gS,eq,jA,jA,mV,EU,EU,Nat.min_eq_left (by omega),Nat.min_eq_left (by omega)];omega
 refine⟨by omega,by omega,λc h=>?_⟩
 grind
theorem Q7{x:Str}{a f m j k:Nat}(b:x.length=8)(c:a<7)(i:m<=26)(n:j<m)(o:k<m)(e:nameAt x a f j=nameAt x a f k):j=k:=by
 have d:=congrArg cs e;rw[JD b c,JD b c]at d;have g:((cs x).take a).length=a:=by rw[jA,EU];omega
 have h:=congrArg (λl=>l[a]?) d;rw[iC (by omega),iC (by omega),g]at h
 grind
theorem TZ{ss:s_ Slot}{n:Nat}{F:D->Nat->Prop}(h:KW ss n F):Gs {nx:=λn _=>Kd.fr=.sh/\F .non n,rt:=F} n (ss++Uf 9 .no):=by
 let⟨m,rfl,a3,W,hn,p⟩:=h;unfold Gs;refine⟨3,rfl,by decide,by decide,by omega,λG a4 a5=>⟨(by decide:12<=sizeLine),?_⟩⟩;have A:∀(L:Nat),n - 1<=L->(Ad (Ay 5 (wC (D.str "abcdefghijklmnopqrstuvwxyz")))
 (Ad (Ay 6 (d8 "str" WW (wC (D.str "")) (AF (Bp [P3 5,P3 0,p_] (Eb (AF (wC (D.int 8)) AU)) (Ae 2) DB (AV BC (AC 0) (AQ BG (AB (Az 1) (AB (AG (wC (D.int 26))) AO))))) AU)))
 (Ad (BK (Kf (AW (AV (HL r_) (AC 2) (wC (D.int 1)))) (AW (AV Fn (AC 1) (wC (D.int 9))))) (Au (Bp [P3 6,p_] (Eb (AF (AC 1) AU)) (Ae 1) DB (MO ER (AC 0) Bj (Bx (AV A0 (wC (D.int 1)) (AC 1)))))) Aw)
 (Ad (Ay 7 (AQ BG (AB (Az 0) (AB (AG (wC (D.int 7))) AO))))
 (Ad (Ay 4 (AQ BG (AB (Az 0) (AB (AG (wC (D.int 26))) AO))))
 (Ad (C3 8 (DZ AU))
 (Ad (D9 (Eb (AF (AC 1) AU)) (Ae 9) (Ad (Ay 10 (AV BC (AC 5) (AV (QS (λ_ j=>0<j) λi j=>D.int (i % j)) (AV A0 (AC 4) (AC 9)) (wC (D.int 26)))))
 (Od 8 "list" Fp (AF (AV A0 (AV A0 (AV A0 (MO ER (AC 6) Bj (Bx (AC 7))) (AC 10)) (MO ER (AC 6) (Bx (AV A0 (AC 7) (wC (D.int 1)))) (Bx (wC (D.int 7))))) (AV Cf (wC (D.str "z")) (AV (QS (λ_ j=>0<j) λi j=>D.int (i % j)) (AC 9) (wC (D.int 2))))) AU))))
 (Au (Cp LV (AF (Av 8) AU)))))))))) {nx:=λn _=>Kd.fr=.sh/\F .non n,rt:=F} L [.fd,.sh (.int m),.sh (.int G),.sh (.lst (words.map .str)),.no,.no,.no,.no,.no,.no,.no]:=by
  intro L a6;refine⟨rfl,8,rfl,⟨by decide,by decide⟩,by rw[CZ];decide,?_⟩;refine drawn (m:=8) (by omega) λB O P=>?_;have C:∀z∈B,z.length=1:=λz X=>(P z X).1;have u:=YF B;have v:(Txt.join (iG "") B).length=8:=by rw[←EU,u,V3 C,O]
  have N:∀c∈cs (Txt.join (iG "") B),97<=c/\c<=122:=λc N=>by
   rw[u]at N;let⟨z,X,Y⟩:=jF.mp N;exact(P z X).2 c Y
  refine⟨_,_,B,rfl,rfl,IN B,by rw[Oy B C,show(iG "").length=0 from rfl];omega,by omega,?_⟩;generalize Txt.join (iG "") B=x at v N;have Q:(cs x).length=8:=by rw[EU,v]
  have E:∀(U:Nat),L - 8<=U->(Ad (Ay 7 (AQ BG (AB (Az 0) (AB (AG (wC (D.int 7))) AO))))
 (Ad (Ay 4 (AQ BG (AB (Az 0) (AB (AG (wC (D.int 26))) AO))))
 (Ad (C3 8 (DZ AU))
 (Ad (D9 (Eb (AF (AC 1) AU)) (Ae 9) (Ad (Ay 10 (AV BC (AC 5) (AV (QS (λ_ j=>0<j) λi j=>D.int (i % j)) (AV A0 (AC 4) (AC 9)) (wC (D.int 26)))))
 (Od 8 "list" Fp (AF (AV A0 (AV A0 (AV A0 (MO ER (AC 6) Bj (Bx (AC 7))) (AC 10)) (MO ER (AC 6) (Bx (AV A0 (AC 7) (wC (D.int 1)))) (Bx (wC (D.int 7))))) (AV Cf (wC (D.str "z")) (AV (QS (λ_ j=>0<j) λi j=>D.int (i % j)) (AC 9) (wC (D.int 2))))) AU))))
 (Au (Cp LV (AF (Av 8) AU))))))) {nx:=λn _=>Kd.fr=.sh/\F .non n,rt:=F} U [.fd,.sh (.int m),.sh (.int G),.sh (.lst (words.map .str)),.no,.sh (.str GJ),.sh (.str x),.no,.no,.no,.no]:=by
   intro U a7;refine⟨7,rfl,by decide,by decide,by omega,λa a8 a9=>⟨26,rfl,by decide,by decide,by omega,λfirst b0 b1=>⟨(by decide:0<=sizeLine),(m:Int),rfl,⟨by omega,by omega⟩,?_⟩⟩⟩;obtain⟨a,rfl⟩:∃q:Nat,a=(q:Int):=⟨a.toNat,by omega⟩;obtain⟨f,rfl⟩:∃q:Nat,first=(q:Int):=⟨first.toNat,by omega⟩
   have R:a<7:=by omega
   refine Df (all:=Dq 0 ((m:Int)).toNat) (λl Z t=>Z=U - 1 - 1/\∃s9 H,t=[.fd,.sh (.int m),.sh (.int G),.sh (.lst (words.map .str)),.sh (.int f),.sh (.str GJ),.sh (.str x),.sh (.int a),.ow (.lst (((gs l.length).map λk=>nameAt x a f k).map .str)),s9,H]) ?_ ?_ _ [] _ _ rfl ⟨rfl,_,_,rfl⟩
   ·rintro Z t ⟨rfl,s9,H,rfl⟩
    have el:(Dq 0 ((m:Int)).toNat).length=m:=by rw[CZ];omega
    refine⟨_,_,rfl,IN _,by rw[No,jS,el];omega,λI o hs=>p I _ ?_ ?_ ?_ (by omega)⟩
    ·rw[o.length_eq,No,jS,el]
    ·intro y hy
     let⟨k,_,rfl⟩:=TM.mp (o.mem_iff.mp hy);exact Pg v N R
    ·refine Gi hs (o.nodup_iff.mpr (JC List.nodup_range λj u k b e=>?_))
     rw[el]at u b;exact Q7 v R W (iT.mp u) (iT.mp b) e
   ·rintro l d a1 Z t nx S ⟨rfl,s9,H,rfl⟩ J
    let⟨rfl,b⟩:=NX S;have T:(l++[D.int (0+(l.length:Int))]).length=l.length+1:=by rw[eq,gl]
    rw[T]at J;generalize l.length=k at b J ⊢;have K:(f+k) % 26<26:=mQ _ (by decide);have ei:((f:Int)+(0+(k:Int))) % 26=(((f+k) % 26:Nat):Int):=by omega
    have ek:(0+(k:Int)) % 2=(k:Int) % 2:=by omega
    let⟨a0,O,_⟩:=c5 (r:=(0+(k:Int)) % 2) (by omega);have l1:=Txt.slice_le x p_ (P3 (a:Int));have l2:=Txt.slice_le x (P3 ((a:Int)+1)) (P3 7);have la:=mJ (Txt.slice x p_ (P3 (a:Int))) ⟨#[97+(f+k) % 26]⟩;have lb:=mJ (Txt.slice x p_ (P3 (a:Int))++⟨#[97+(f+k) % 26]⟩) (Txt.slice x (P3 ((a:Int)+1)) (P3 7));have ls:(⟨#[97+(f+k) % 26]⟩:Str).length=1:=rfl;have b2:=PySem.sizeLine_eq;refine⟨by show(0:Int)<26;decide,97+(f+k) % 26,by rw[ei];exact AL (LH _ K),?_⟩;refine⟨_,rfl,rfl,by omega,by omega,by show(0:Int)<2;decide,a0,by omega,by omega,?_⟩;refine⟨_,_,rfl,rfl,by rw[No,No,jS];omega,J _ _ ⟨rfl,.sh (.int (0+(k:Int))),.sh (.str ⟨#[97+(f+k) % 26]⟩),?_⟩⟩;rw[ek,List.range_succ,hX,hX];rfl
  refine CB (λc1=>CB (λw=>?_) λw=>E _ (On _)) λc1=>CB (λw=>absurd w (by decide)) λ_=>E _ (On _)
  have b3:m<9:=by
   have:(m:Int)<9:=of_decide_eq_true w
   omega
  refine⟨(m:Int),rfl,⟨by omega,by omega⟩,by rw[CZ];omega,?_⟩;refine HF (g:=λd=>match d with|.int k=>.str (Txt.slice x p_ (P3 (1+k)))|_=>.non) (λt=>∃s,t=[.sh (.str x),s]) ?_ _ _ _ _ ?_ ⟨_,rfl⟩ ?_
  ·rintro d t ⟨s,rfl⟩
   exact⟨_,rfl⟩
  ·rintro d hd t L P' ⟨s,rfl⟩ o
   let⟨k,b,rfl⟩:=O6 hd;exact o
  ·have e:[]++(Dq 0 ((m:Int)).toNat).map (λd=>match d with|.int k=>D.str (Txt.slice x p_ (P3 (1+k)))|_=>.non)=((gs m).map λk:Nat=>Txt.slice x p_ (P3 (1+(k:Int)))).map .str:=by
    unfold Dq;rw[gy,ij,ij,j8];refine kZ λk _=>?_
    have:(0+(k:Int))=k:=by omega
    simp only[Function.comp,this]
   have V:∀k:Nat,k<m->cs (Txt.slice x p_ (P3 (1+(k:Int))))=(cs x).take (1+k):=λk b=>by
    rw[ZP (by omega) (by omega),show(1+(k:Int)).toNat=1+k by omega]
   rw[e];refine p _ _ (by rw[No,jS]) ?_ ?_ (by omega)
   ·intro y hy
    let⟨k,b,rfl⟩:=TM.mp hy;have b:=iT.mp b
    have hl:(Txt.slice x p_ (P3 (1+(k:Int)))).length=1+k:=by
     rw[←EU,V k b,jA,Q];omega
    exact⟨by omega,by omega,λc h=>N c (kO (by rw[←V k b];exact h))⟩
   ·unfold rising
    rw[kA];refine mh ?_ List.pairwise_lt_range;intro i j hi u b4;rw[V i (iT.mp hi),V j (iT.mp u)];exact Rn _ _ _ (by omega) (by rw[Q];have:=iT.mp u;omega)
 refine CB (λc1=>CB (λw=>?_) λw=>A _ (On _)) λc1=>CB (λw=>absurd w (by decide)) λ_=>A _ (On _)
 have a2:m<13:=by
  have:(m:Int)<13:=of_decide_eq_true w
  omega
 refine⟨12,rfl,by decide,by decide,by omega,λfirst h0 h1=>?_⟩;obtain⟨f,rfl⟩:∃f:Nat,first=(f:Int):=⟨first.toNat,by omega⟩
 refine⟨(m:Int),rfl,⟨by omega,by omega⟩,by rw[CZ];omega,?_⟩;refine HF (g:=λd=>match d with|.int k=>.str (wordAt ((f+k.toNat) % 12))|_=>.non) (λt=>∃s,t=[.sh (.lst (words.map .str)),.sh (.int f),s]) ?_ _ _ _ _ ?_ ⟨_,rfl⟩ ?_
 ·rintro d t ⟨s,rfl⟩
  exact⟨_,rfl⟩
 ·rintro d hd t L P' ⟨s,rfl⟩ o
  let⟨k,b,rfl⟩:=O6 hd;exists by show(0:Int)<12;decide,D.str (wordAt ((f+k) % 12)),?_
  ·have K:(f+k) % 12<12:=mQ _ (by decide)
   have ei:((f:Int)+(0+(k:Int))) % 12=(((f+k) % 12:Nat):Int):=by omega
   rw[ei];exact AL (by rw[gR,Ut _ K];rfl)
  ·have e:(0+(k:Int)).toNat=k:=by omega
   simp only[e]at o;exact o
 ·have e:[]++(Dq 0 ((m:Int)).toNat).map (λd=>match d with|.int k=>D.str (wordAt ((f+k.toNat) % 12))|_=>.non)=((gs m).map λk=>wordAt ((f+k) % 12)).map .str:=by
   unfold Dq;rw[gy,ij,ij,j8];refine kZ λk _=>?_
   have:(0+(k:Int)).toNat=k:=by omega
   simp only[Function.comp,this]
  refine⟨_,(gs m).map λk=>wordAt ((f+k) % 12),rfl,by rw[e];exact IN _,by rw[No,jS];omega,λI o hs=>p I _ ?_ ?_ ?_ (by omega)⟩
  ·rw[o.length_eq,No,jS]
  ·intro x hx
   let⟨k,_,rfl⟩:=TM.mp (o.mem_iff.mp hx);exact QV _ (mQ _ (by decide))
  ·refine Gi hs (o.nodup_iff.mpr (JC List.nodup_range λj u k b e=>?_))
   exact X_ (M:=12) (by omega) (iT.mp u) (iT.mp b) (S8 _ _ (mQ _ (by decide)) (mQ _ (by decide)) e)
structure Aq where
 a:Str
 b:Str
 len:Int
structure Net where
 ps:List Str
 ts:List Aq
def Ai(t:Aq):D:=.tup [.str t.a,.str t.b,.int t.len]
def enc(N:Net):D:=.tup [.tup (N.ps.map .str),.tup (N.ts.map Ai)]
def CG(s t:Aq):Prop:=cs s.a<cs t.a\/(s.a=t.a/\cs s.b<cs t.b)
structure Net.Ok (N:Net):Prop where
 names:∀x∈N.ps,YH x
 rise:rising N.ps
 tin:∀t∈N.ts,t.a∈N.ps/\t.b∈N.ps/\cs t.a<cs t.b/\1<=t.len/\t.len<=1000000
 trise:N.ts.Pairwise CG
def Yn:W2:=λd n P=>∃a b:Nat,d=[.fd,.sh (.int a),.sh (.int b)]/\1<=a/\a<=26/\1500<=n/\∀(N:Net) (c:Nat),N.Ok->1<=N.ps.length->N.ps.length<=a->N.ts.length<=b->n - 1500<=c->P (enc N) c
def Lq:AY:=(Ad (Ay 3 (AQ KW (AB (Az 0) (AB (AG (AV A0 (wC (D.int 1)) (AQ BG (AB (Az 0) (AB (AG (AC 1)) AO))))) AO))))
 (Ad (Ay 4 (AV A0 (wC (D.int 1)) (AQ BG (AB (Az 0) (AB (AG (wC (D.int 3))) AO)))))
 (Ad (Ay 5 (AQ BG (AB (Az 0) (AB (AG (wC (D.int 4))) AO))))
 (Ad (C3 6 (DZ AU))
 (Ad (D9 (Eb (AF (Cp Gb (AF (AC 3) AU)) AU)) (Ae 7) (D9 (Ys (AF (AV A0 (AC 7) (wC (D.int 1))) (AF (Cp Gb (AF (AC 3) AU)) AU))) (Ae 8) (BK (Kf (AW (AV WV (AQ BG (AB (Az 0) (AB (AG (wC (D.int 4))) AO))) (AC 4))) (AW (AV Fn (Cp Gb (AF (Av 6) AU)) (AC 2)))) (Od 6 "list" Fp (AF (Bc (AF (AV BC (AC 3) (AC 7)) (AF (AV BC (AC 3) (AC 8)) (AF (AQ Yo (AB (Az 0) (AB (AG (AC 5)) AO))) AU)))) AU)) Aw)))
 (Au (Bc (AF (Cp BY (AF (AC 3) AU)) (AF (Cp BY (AF (Av 6) AU)) AU)))))))))
structure Ix where
 i:Nat
 j:Nat
 len:Int
def Ix.tie(a:s_ Str)(t:Ix):Aq:=⟨a.getD t.i "",a.getD t.j "",t.len⟩
def aT(s t:Ix):Prop:=s.i<t.i\/(s.i=t.i/\s.j<t.j)
theorem getD_at{a:s_ Str}{i:Nat}(h:i<a.length):a[i]?=P3 (a.getD i ""):=by
 simp_all
theorem getD_mem{a:s_ Str}{i:Nat}(h:i<a.length):a.getD i ""∈a:=iS (getD_at h)
theorem NZ{a:s_ Str}(h:rising a){i j:Nat}(b:i<j)(c:j<a.length):cs (a.getD i "")<cs (a.getD j ""):=by
 have d:=mP.mp h i j (by omega) c b;have e:a.getD i ""=a[i]:=by rw[g_,FM _];rfl
 simp_all
theorem aJ{a:s_ Str}{b:s_ Ix}(k:∀x∈a,YH x)(c:rising a)(d:∀t∈b,t.i<t.j/\t.j<a.length/\1<=t.len/\t.len<=1000000)(l:b.Pairwise aT):Net.Ok ⟨a,b.map (Ix.tie a)⟩:=by
 exists k,c,λt h=>?_
 ·let⟨u,m,rfl⟩:=TM.mp h
  let⟨g,e,n,o⟩:=d u m;exact⟨getD_mem (show u.i<a.length by omega),getD_mem e,NZ c g e,n,o⟩
 ·show(b.map (Ix.tie a)).Pairwise CG
  rw[kA];refine mh (λ{s t} p f h=>?_) l;let⟨g,e,_⟩:=d s p;let⟨v,q,_⟩:=d t f
  rcases h with h|⟨h,r⟩
  ·exact .inl (NZ c h (by omega))
  ·refine .inr ⟨?_,NZ c r q⟩
   show a.getD s.i ""=a.getD t.i "";rw[h]
theorem Zy{Q:s_ Slot}{n:Nat}{J:D->Nat->Prop}(h:Yn Q n J):Lq {nx:=λn _=>Kd.sh=.sh/\J .non n,rt:=J} n (Q++Uf 6 .no):=by
 let⟨k,a,rfl,U,V,hn,p⟩:=h;unfold Lq;refine⟨_,rfl,by omega,by omega,by omega,λr h0 u=>?_⟩;refine⟨(1+r).toNat,by rw[show(((1+r).toNat:Nat):Int)=1+r by omega],by omega,by omega,by omega,λe R hl W X Y=>?_⟩;refine⟨3,rfl,by decide,by decide,by omega,λx f0 f1=>⟨4,rfl,by decide,by decide,by omega,λf s0 s1=>⟨(by decide:0<=sizeLine),?_⟩⟩⟩;have K:(e.map D.str).length=e.length:=No ..;exists _,_,rfl,rfl,_,rfl,⟨by omega,by omega⟩
 refine Df (all:=Dq 0 (((e.map D.str).length:Int)).toNat) (λc m y=>R<=m+2+52*c.length/\∃(b:s_ Ix) (L z:Slot),(∀t∈b,t.i<t.j/\t.j<e.length/\1<=t.len/\t.len<=1000000)/\b.Pairwise aT/\b.length<=a/\(∀t∈b,t.i<c.length)/\b.length<=26*c.length /\
  y=[.fd,.sh (.int k),.sh (.int a),.sh (.lst (e.map .str)),.sh (.int (1+x)),.sh (.int f),.ow (.lst ((b.map (Ix.tie e)).map Ai)),L,z]) ?_ ?_ _ [] _ _ rfl ⟨by simp;omega,[],_,_,(λ_ h=>by cases h),nk,Tk _,(λ_ h=>by cases h),Tk _,rfl⟩
 ·rintro m y ⟨v,b,L,z,u,w,A,o,B,rfl⟩
  have Z:(Dq 0 (((e.map D.str).length:Int)).toNat).length=e.length:=by rw[CZ];omega
  rw[Z]at v;refine⟨(by decide:2<=sizeLine),p ⟨e,b.map (Ix.tie e)⟩ m (aJ W X u w) (by show 1<=e.length;omega) (by show e.length<=k;omega) (by show(b.map (Ix.tie e)).length<=a;rw[No];exact A) (by omega)⟩
 ·rintro c d S m y nx F ⟨v,b,L,z,u,w,A,o,B,rfl⟩ C
  let⟨rfl,M⟩:=NX F;have G:(c++[D.int (0+(c.length:Int))]).length=c.length+1:=by rw[eq,gl]
  rw[G]at C;generalize c.length=one at M C v o B ⊢;rw[K]at M;have j:e.length<=26/\1400<=R:=(by omega);clear hn Y hl U V f0 f1;exists _,_,rfl,rfl,_,_,rfl,⟨by omega,by omega,by omega,by omega⟩
  refine Df (all:=Dq (0+(one:Int)+1) ((((e.map D.str).length:Int)) - (0+(one:Int)+1)).toNat) (λc m y=>R<=m+2+52*one+2*c.length/\∃(b:s_ Ix) (z:Slot),(∀t∈b,t.i<t.j/\t.j<e.length/\1<=t.len/\t.len<=1000000)/\b.Pairwise aT/\b.length<=a/\(∀t∈b,t.i<one\/(t.i=one/\t.j<one+1+c.length))/\b.length<=26*one+c.length /\
   y=[.fd,.sh (.int k),.sh (.int a),.sh (.lst (e.map .str)),.sh (.int (1+x)),.sh (.int f),.ow (.lst ((b.map (Ix.tie e)).map Ai)),.sh (.int (0+(one:Int))),z]) ?_ ?_ _ [] _ _ rfl ⟨by simpa using v,b,_,u,w,A,λt g=>.inl (o t g),by simpa using B,rfl⟩
  ·rintro m y ⟨v,b,z,u,w,A,o,B,rfl⟩
   rw[CZ]at v B;refine C _ _ ⟨by omega,b,_,_,u,w,A,λt g=>?_,by omega,rfl⟩
   rcases o t g with h|h <;>omega
  ·rintro H d2 N m y O E ⟨v,b,z,u,w,A,o,B,rfl⟩ l
   let⟨rfl,P⟩:=NX E;rw[eq,gl]at l;generalize H.length=q at P l v o B ⊢;have T:one+1+q<e.length:=by omega
   have skip:O (m - 1) [.fd,.sh (.int k),.sh (.int a),.sh (.lst (e.map .str)),.sh (.int (1+x)),.sh (.int f),.ow (.lst ((b.map (Ix.tie e)).map Ai)),.sh (.int (0+(one:Int))),.sh (.int (0+(one:Int)+1+(q:Int)))]:=by
    refine l _ _ ⟨by omega,b,_,u,w,A,λt g=>?_,by omega,rfl⟩
    rcases o t g with h|h
    ·exact .inl h
    ·exact .inr (by omega)
   refine⟨4,rfl,by decide,by decide,by omega,λdr d0 d1=>?_⟩;refine CB (λc1=>⟨_,_,rfl,rfl,CB (λI=>?_) λI=>skip⟩) λc1=>CB (λI=>absurd I (by decide)) λ_=>skip
   have a0:b.length<a:=by
    have:(((b.map (Ix.tie e)).map Ai).length:Int)<(a:Int):=of_decide_eq_true I
    rw[No,No]at this;omega
   refine⟨_,rfl,rfl,D.str (e.getD one ""),?_,D.str (e.getD (one+1+q) ""),?_,f,rfl,by omega,λlen l1 l2=>⟨(by decide:3<=sizeLine),_,_,rfl,rfl,?_,?_⟩⟩
   ·rw[show(0+(one:Int))=((one:Nat):Int) by omega]
    exact AL (by rw[gR,getD_at M];rfl)
   ·rw[show(0+(one:Int)+1+(q:Int))=((one+1+q:Nat):Int) by omega]
    exact AL (by rw[gR,getD_at T];rfl)
   ·rw[No,No,PySem.sizeLine_eq];omega
   ·refine l _ _ ⟨by omega,b++[⟨one,one+1+q,len⟩],.sh (.int (0+(one:Int)+1+(q:Int))),λt g=>?_,?_,by rw[eq,gl];omega,λt g=>?_,by rw[eq,gl];omega,?_⟩
    ·rcases gP.mp g with g|g
     ·exact u t g
     ·rw[Re.mp g]
      exact⟨by show one<one+1+q;omega,T,l1,l2⟩
    ·rw[kP]
     refine⟨w,k7 _ _,λs hs t g=>?_⟩;rw[Re.mp g]
     rcases o s hs with h|h
     ·exact .inl h
     ·exact .inr h
    ·rcases gP.mp g with g|g
     ·rcases o t g with h|h
      ·exact .inl h
      ·exact .inr (by omega)
     ·rw[Re.mp g]
      exact .inr ⟨rfl,by show one+1+q<one+1+(q+1);omega⟩
    ·rw[hX,hX]
     rfl
def EY(c:s_ Aq)(p:Str):s_ (Str×Int):=c.flatMap λt=>(if t.a=p then [(t.b,t.len)]else [])++(if t.b=p then [(t.a,t.len)]else [])
def XH(a:s_ Aq)(p:Str):D:=.fdi ((EY a p).map λx=>.inr x.1) ((EY a p).map λx=>.int x.2)
def FQ(N:Net):D:=.dic (N.ps.map .inr) (N.ps.map (XH N.ts))
def Oa:W2:=λa n P=>∃N:Net,a=[.sh (enc N)]/\N.Ok/\N.ps.length<=1000/\N.ts.length<=1000/\P (FQ N) n
def kv(x:Str×Int):Key×V:=(.inr x.1,.int x.2)
structure Stp (H:Hp) (d:Ch) (as:List (Str×Ch)) (tb:Str->List (Key×V)) (H':Hp):Prop where
 old:∀b o,H b=P3 o->H' b=P3 o
 new:H d=p_
 top:H' d=P3 (.dK (as.map λx=>(.inr x.1,.ref x.2)))
 inn:∀x∈as,H x.2=p_/\x.2≠d/\H' x.2=P3 (.dK (tb x.1))
 ads:(as.map (·.2)).Nodup
 nms:(as.map (·.1)).Nodup
theorem J_{b:s_ (Str×Ch)}(c:(b.map (·.1)).Nodup){p:Str}{a:Ch}(h:(p,a)∈b):FK (b.map λx=>((.inr x.1:Key),V.ref x.2)) (.inr p)=P3 (.ref a):=by
 induction b with
 |nil=>cases h
 | cons x r d=>
  rw[g7,gk]at c
  rcases TW.mp h with e|h
  ·rw[←e]
   exact FO rfl
  ·exact(FP λe=>c.1 (by rw[jn e];exact TM.mpr ⟨_,h,rfl⟩)).trans (d c.2 h)
theorem Qs{a:s_ (Str×Ch)}{p:Str}{v:V}(h:p∉a.map (·.1)):putK (a.map λx=>((.inr x.1:Key),V.ref x.2)) (.inr p) v=(a.map λx=>((.inr x.1:Key),V.ref x.2))++[(.inr p,v)]:=by
 unfold putK
 simp_all
theorem Rz{a:s_ (Str×Int)}{p:Str}{l:Int}(h:p∉a.map (·.1)):putK (a.map kv) (.inr p) (.int l)=(a++[(p,l)]).map kv:=by
 unfold putK;rw[if_neg,hX]
 ·rfl
 ·rw[kQ]
  rintro⟨y,b,e⟩;let⟨x,c,rfl⟩:=TM.mp b;exact h (TM.mpr ⟨x,c,jn (of_decide_eq_true e)⟩)
theorem Stp.more{H m:Hp}{d q:Ch}{l:s_ (Str×Ch)}{n:Str->s_ (Key×V)}{p:Str}(s:Stp H d l n m)(i:m q=p_)(v:p∉l.map (·.1))(A:n p=[]):
  Stp H d (l++[(p,q)]) n (A2 (A2 m q (.dK [])) d (.dK (putK (l.map λx=>((.inr x.1:Key),V.ref x.2)) (.inr p) (.ref q)))):=by
 have w:q≠d:=λe=>by rw[e,s.top]at i;cases i
 have k:H q=p_:=by
  cases c:H q with
  |none=>rfl
  |some o=>rw[s.old q o c]at i;cases i
 exists λb o e=>?_,s.new,?_,λx f=>?_,?_
 ·have B:b≠d:=λz=>by rw[z,s.new]at e;cases e
  have r:b≠q:=λz=>by rw[z,k]at e;cases e
  rw[AT B,AT r];exact s.old b o e
 ·rw[AX,Qs v,hX];rfl
 ·rcases gP.mp f with f|f
  ·let⟨y,t,j⟩:=s.inn x f
   have r:x.2≠q:=λz=>by rw[z,i]at j;cases j
   exact⟨y,t,by rw[AT t,AT r];exact j⟩
  ·rw[Re.mp f]
   exact⟨k,w,by rw[AT w,AX,A]⟩
 ·rw[hX,iB]
  refine⟨s.ads,gk.mpr ⟨(λh=>by cases h),h_⟩,λa u b g e=>?_⟩;let⟨x,f,rfl⟩:=TM.mp u;have g:b=q:=Re.mp g;let⟨y,t,j⟩:=s.inn x f;rw[e,g,i]at j;cases j
 ·rw[hX,iB]
  refine⟨s.nms,gk.mpr ⟨(λh=>by cases h),h_⟩,λa u b g e=>?_⟩;have g:b=p:=Re.mp g;exact v (by rw[←g,←e];exact u)
theorem T5{c:s_ (Str×Ch)}(d:(c.map (·.1)).Nodup){p:Str}{a b:Ch}(e:(p,a)∈c)(f:(p,b)∈c):a=b:=by
 have:=(J_ d e).symm.trans (J_ d f)
 grind
theorem T4{b:s_ (Str×Ch)}(c:(b.map (·.2)).Nodup){p q:Str}{a:Ch}(e:(p,a)∈b)(f:(q,a)∈b):p=q:=by
 induction b with
 |nil=>cases e
 | cons x r i=>
  rw[g7,gk]at c
  rcases TW.mp e with j|g
  ·rcases TW.mp f with h|d
   ·grind
   ·exact absurd (TM.mpr ⟨_,d,by rw[←j]⟩) c.1
  ·rcases TW.mp f with h|d
   ·exact absurd (TM.mpr ⟨_,g,by rw[←h]⟩) c.1
   ·exact i c.2 g d
theorem Stp.put{H g:Hp}{d a:Ch}{c:s_ (Str×Ch)}{h tb2:Str->s_ (Key×V)}{p:Str}{kvs:s_ (Key×V)}(s:Stp H d c h g)(f:(p,a)∈c)(i:tb2 p=kvs)(j:∀q,q≠p->tb2 q=h q):
  Stp H d c tb2 (A2 g a (.dK kvs)):=by
 let⟨u,k,v⟩:=s.inn _ f;refine⟨λb o e=>?_,s.new,?_,λx l=>?_,s.ads,s.nms⟩
 ·have m:b≠a:=λz=>by grind
  rw[AT m];exact s.old b o e
 ·rw[AT (iM k)]
  exact s.top
 ·let⟨n,r,t⟩:=s.inn x l
  exists n,r
  by_cases e:x.2=a
  ·have:=T4 s.ads (show(x.1,a)∈c by grind) f
   rw[e,AX,this,i]
  ·have:x.1≠p:=λz=>e (T5 s.nms (show(p,x.2)∈c by grind) f)
   rw[AT e,j _ this];exact t
theorem Pf(c:s_ Aq)(t:Aq)(p:Str):EY (c++[t]) p=EY c p++((if t.a=p then [(t.b,t.len)]else [])++(if t.b=p then [(t.a,t.len)]else [])):=by
 unfold EY
 simp_all
theorem N5{d:s_ Aq}{p q:Str}(h:q∈(EY d p).map (·.1)):∃t∈d,(t.a=p/\t.b=q)\/(t.b=p/\t.a=q):=by
 let⟨x,c,rfl⟩:=TM.mp h;let⟨t,e,c⟩:=jF.mp c;exists t,e
 rcases gP.mp c with c|c
 ·simp_all
 simp_all
theorem SH(c:s_ Aq)(p:Str):(EY c p).length<=2*c.length:=by
 induction c with
 |nil=>exact Tk _
 |cons t r d=>
  unfold EY at d ⊢;rw[k_,eq,eq];have e:(if t.a=p then [(t.b,t.len)]else []).length<=1:=by grind
  grind
theorem Wd{d:s_ Aq}{t:Aq}(i:(d++[t]).Pairwise CG)(f:∀s∈d++[t],cs s.a<cs s.b):t.b∉(EY d t.a).map (·.1)/\t.a∉(EY d t.b).map (·.1):=by
 rw[kP]at i
 have g:∀s∈d,¬((s.a=t.a/\s.b=t.b)\/(s.b=t.a/\s.a=t.b)):=λs c e=>by
  have j:=i.2.2 s c t (Re.mpr rfl);have m:=f s (iJ _ c);have n:=f t (f8 _ (Re.mpr rfl))
  rcases e with⟨k,l⟩|⟨k,l⟩
  ·unfold CG at j
   grind
  grind
 refine⟨λh=>?_,λh=>?_⟩
 ·let⟨s,c,e⟩:=N5 h
  exact g s c e
 ·let⟨s,c,e⟩:=N5 h
  exact g s c (e.elim (λz=>.inr ⟨z.2,z.1⟩) λz=>.inl ⟨z.2,z.1⟩)
theorem NY{c:s_ Str}(h:rising c):c.Nodup:=h.imp λ{a b} d e=>by grind
theorem Q6{a:s_ Str}(h:a.Nodup){i:Nat}(c:i<a.length):a[i]∉a.take i:=by
 have e:a=a.take i++a[i]::a.drop (i+1):=by
  simp_all
 intro b;rw[e,iB]at h;exact h.2.2 _ b _ Op rfl
theorem Stp.at_{K:Frag}{M:Ch->Prop}{H q:Hp}{d:Ch}{c:s_ (Str×Ch)}{N:Net}(t:∀a,M a->∃o,H a=P3 o)(s:Stp H d c (λp=>(EY N.ts p).map kv) q)(u:c.map (·.1)=N.ps)(f:Ch->Obj):At K M (Ga q (c.map (·.2)) f) (FQ N) (.ref d):=by
 have v:∀b,H b=p_->¬M b:=λb e m=>by let⟨o,h⟩:=t b m;rw[h]at e;cases e
 have i:∀c:s_ (Str×Ch),(c.map λx=>((.inr x.1:Key),V.ref x.2))=((c.map (·.1)).map (.inr:Str->Key)).zip (c.map λx=>V.ref x.2):=λc=>by
  grind
 refine⟨d,c.map λx=>.ref x.2,rfl,⟨v d s.new,by rw[Du (λw=>by let⟨x,j,e⟩:=TM.mp w;exact(s.inn x j).2.1 e),s.top,i,u]⟩,by rw[No,No],?_⟩;rw[←u]
 have z:∀k:s_ (Str×Ch),(∀x∈k,x∈c)->Ats K M (Ga q (c.map (·.2)) f) ((k.map (·.1)).map (XH N.ts)) (k.map λx=>V.ref x.2):=λk=>by
  induction k with
  |nil=>intro _;rfl
  | cons x r l=>
   intro j;refine⟨.ref x.2,r.map λx=>V.ref x.2,rfl,?_,l λy A=>j y (Rs _ A)⟩;let⟨B,D,C⟩:=s.inn x (j x Op)
   have n:∀g:s_ (Str×Int),g.map kv=(g.map λx=>(.inr x.1:Key)).zip (g.map λx=>V.int x.2):=λg=>by
    induction g with
    |nil=>rfl
    |cons x r l=>rw[g7,l];rfl
   refine⟨x.2,(EY N.ts x.1).map λx=>V.int x.2,rfl,⟨f x.2,v _ B,by rw[OA (TM.mpr ⟨x,j x Op,rfl⟩) C,n]⟩,by rw[No,No],?_⟩;generalize EY N.ts x.1=g
   induction g with
   |nil=>rfl
   |cons x r l=>exact⟨.int x.2,_,rfl,rfl,l⟩
 exact z c λ_ h=>h
end Nt
namespace L2
def fZ(d:Ch)(o:Obj)(a:s_ (Key×V)):It:=
 ⟨λi H=>H d=P3 (.frz o (.dK a))/\i<a.length,λi H x b=>∃T p,x=.ref T/\H T=p_/\a[i]?=P3 p/\b=A2 H T (.tup [kV p.1,p.2]),λi H=>H d=P3 (.frz o (.dK a))/\a.length<=i⟩
theorem WE{P:gi}{w:gn}{k:Key}{u:Db}(h:(BO P w).is k u=q_):RelV (kV k) u:=by
 rcases BS h with⟨i,t,rfl,rfl⟩|⟨x,t,rfl,rfl⟩
 ·exact⟨t,rfl⟩
 ·exact⟨t,rfl⟩
theorem GO{X:Cx}{k:s_ (Ch×Obj)}{l:L2.St}{H:Hp}{s:Go}{d:Ch}{o:Obj}{a:s_ (Key×V)}{c:Array DictEntry}{e:Nat}(I:Inv X k l H s)(h:H d=P3 (.frz o (.dK a)))(f:o.data=.dict c e):
  ∃b,KV a b/\s.heap.DictAt (BO X.prog X.w) d b e:=by
 let⟨g,_,_,b,m,t,n,p,i,q,j,r⟩:=(I.hok d _ h);rw[g]at i;cases i;rw[f]at j;cases j;exact⟨b,m,o,c,g,q,f,r⟩
theorem Qa{P:gi}{w:gn}{K:Frag}{L:s_ gj}{j:Nat}{pos:Pos}(d l:Ch)(o:Obj)(f:s_ (Key×V))(es:Array DictEntry)(Z:Nat)(m:o.data=.dict es Z):
  Turn P w K (.Tuple L j pos) (fZ d o f) [l] l (λi h=>∃ok n,IsItemIter h l d i f.length Z ok n) where
 mem:=by simp
 obj:=λi h ⟨ok,n,b⟩ c a=>by
  rw[Re.mp a];exact⟨_,b,λv q=>by cases q⟩
 keep:=λi h h' ⟨ok,n,b⟩ k=>⟨ok,n,k l (by simp) _ b⟩
 item:=by
  intro X M N O a i zH s σ H E I C b R;subst M N O;let⟨S,hi⟩:=R;let⟨ok,n,b⟩:=b;let⟨F,G,D⟩:=GO I S m
  have J:=G.length;have T:i<F.length:=by omega
  rw[J]at b;obtain⟨k,v,U⟩:∃k v,F[i]=(k,v):=⟨_,_,rfl⟩;have hx:F[i]?=P3 (k,v):=by rw[FM T,U]
  have hp:f[i]?=P3 f[i]:=FM hi;let⟨Y,rv⟩:=K7 G hp hx;have Y:f[i].1=k:=Y;refine wpAny_pyNext_items_item b D hx λp h' r t u a0 x=>⟨_,rfl,?_⟩;refine wpAny_letOwnedTupleGo_items t λh2 y g=>?_;have hT:H s.heap.objs.size=p_:=I.hok.fresh (On _);have B:s.heap.objs.size≠l:=jY (UF b)
  have kk:∀c o,c∉[l]->s.heap.get? c=P3 o->h2.get? c=P3 o:=λc o a e=>by
   have a:c≠l:=λz=>a (by rw[z];exact Re.mpr rfl);exact(g.2 c a).trans (x c o a e)
  have I2:Inv X zH σ (A2 H s.heap.objs.size (.tup [kV f[i].1,f[i].2])) {s with heap:=h2}:=by
   refine I.turnLaid (t':=s.toks) (ch:=[l]) (λc a=>C c a) kk (On _) ?_;exact⟨by show 2<=sizeLine;decide,[p,v],.cons (WE (by rw[Y];exact r)) (.cons rv .nil),⟨_,(g.2 _ B).trans u,rfl,_,rfl,rfl,rfl⟩⟩
  refine⟨.ref s.heap.objs.size,_,I2,rfl,⟨_,_,rfl,hT,hp,rfl⟩,⟨p,v,by rw[J];exact y⟩,λc a=>?_⟩;rw[Re.mp a,AT (iM B)];exact(C l (by simp)).1
 done:=by
  intro X M N O a i zH s σ H E I C b R;subst M N O;let⟨S,hi⟩:=R;let⟨ok,n,b⟩:=b;let⟨F,G,D⟩:=GO I S m
  have J:=G.length;rw[J]at b;refine wpAny_pyNext_items_end (I.ok.hd a) b D (lN (by omega)) λh' ext=>⟨rfl,?_⟩;exact I.turnedL (t':=s.toks) (ch:=[l]) (λc a=>C c a) λc o a e=>ext c o (λz=>a (by rw[z];exact Re.mpr rfl)) e
 self:=λA i s Q E ⟨ok,n,b⟩ h=>PySem.W.kcp_self b h
def aX(c:TE):TI:=λe H R=>c e H λx b=>∃d o a,x=.ref d/\b d=P3 (.frz o (.dK a))/\∀r,b r=p_->R (fZ d o a) (A2 b r (.ext λh=>h.IsItemsView r d))
theorem Vl{X:Cx}{e:gj}{z:s_ gj}{j:Nat}{p g i:Pos}{G:TE}(Q:PE X e G)(m:attributeBase e "items" X.env (eval e X.env)=eval e X.env:=by rfl)(n:(g.endLine==i.line)=q_:=by rfl):
  PI X (.Tuple z j p) (.Call (.Attribute e "items" g) [] [] i) (aX G):=by
 intro J s K H R I h;refine wpAny_Call_method0_late m n (thn (Q J s K H _ I h) λv a ⟨x,u,r,S,d,o,f,ex,t,q⟩=>?_);subst ex;cases S;let⟨L,M,T⟩:=RG r (.inl ⟨f,.inr ⟨o,t⟩⟩);let⟨_,_,N,U,D⟩:=Gp r.hok (.inr ⟨o,t⟩);refine⟨"dict","dict.items",PySem.F.plainAttrs_dict,PySem.F.slot_dict_items,PySem.F.type_dict_items,L,M,jX rfl (PySem.evalArgs_none ?_)⟩;refine lU PySem.F.slot_dict_items D.typeIs PySem.F.entry_dict_items (PySem.F.args_dict_items_1 _) (meets_dict_items (BO X.prog X.w) d T) ⟨⟨N,D⟩,?_⟩;have O:u a.heap.objs.size=p_:=r.fresh;have P:(a.heap.push {cls:=.type "dict_items",data:=.fields #[.ref d]}).IsItemsView a.heap.objs.size d:=⟨_,XV _ rfl,rfl,rfl⟩
 have y:Inv X J K (A2 u a.heap.objs.size (.ext λh=>h.IsItemsView a.heap.objs.size d)) {a with heap:=a.heap.push {cls:=.type "dict_items",data:=.fields #[.ref d]}}:=
  r.laid (t':=a.toks) (λb o e=>Ev _ e) (On _) ⟨P,⟨_,XV _ rfl⟩,λL M ⟨o,e,c⟩ k=>⟨o,k o e,c⟩⟩
 have A:(A2 u a.heap.objs.size (.ext λh=>h.IsItemsView a.heap.objs.size d)) d=P3 (.frz o (.dK f)):=by rw[AT (Ax t O)];exact t
 obtain⟨B,C,l⟩:∃B C,o.data=.dict B C:=by
  let⟨e0,_,_,N,U,o',V,W,e1,e2,e3,e4⟩:=(show ObjOk X.prog X.w u a.heap d (.frz o (.dK f))from r.hok d _ t)
  grind
 let⟨Y,E,Z⟩:=GO y A l
 have hl:=E.length;refine wpAny_pyIter_items (s:={a with heap:=a.heap.push {cls:=.type "dict_items",data:=.fields #[.ref d]}}) P Z ?_;refine⟨_,[(a.heap.push {cls:=.type "dict_items",data:=.fields #[.ref d]}).objs.size],_,fZ d o f,_,rfl,y.kept (t':=a.toks) (λb o e=>Ev _ e),Qa d _ o f B C l,⟨.none,.none,by rw[hl];exact XV _ rfl⟩,λc hc=>?_,q _ O⟩;rw[Re.mp hc];exact y.fpOk (On _) y.fresh
end L2
namespace Dp
open L2
def wItems(c:DW):D8:=λn e P=>c n e λd f=>∃a b,d=.fdi a b/\(∀k∈a,N8 k)/\P (Ea (a.map XJ) b) f
theorem WF(k:Key):kV k=kOf k:=by cases k <;>rfl
section
variable {X:Cx}{a:Expr}{zU:Kd}{wa:DW}{els:s_ Expr}{j:Nat}{tpos apos cpos:Pos}
theorem Wh(V:DE X a zU wa)(c:attributeBase a "items" X.env (eval a X.env)=eval a X.env:=by rfl)(f:(apos.endLine==cpos.line)=q_:=by rfl):DI X (.Tuple els j tpos) (.Call (.Attribute a "items" apos) [] [] cpos) (wItems wa):=by
 let⟨t,W,Y⟩:=V;refine⟨_,Vl W c f,λC M H n Z σ P Rr R w q=>?_⟩;refine Y C M H n Z σ _ _ R w λv l d n1 I J r1 p=>?_;let⟨b,m,rfl,s,p⟩:=p;have R1:=R.step I J;obtain⟨D,k,rfl,⟨o,nM,L⟩,N,O⟩:∃a k,v=.ref a/\NdF M l a b k/\b.length=m.length/\Ats X.K M l m k:=r1.tpOf R.dom R.vM;have hl:=O.length;refine⟨D,o,_,rfl,L,λr hr=>?_⟩;have g:Grow l (A2 l r (.ext λh=>h.IsItemsView r D)):=Ar hr;refine q _ _ _ n1 (I.trans g.ext) (J.grow g) (λi Q E pr F=>?_) p;have u:Pres M l Q E:=g.pres.trans pr;have z:E D=P3 (.frz o (.dK (b.zip k))):=(u.nd nM L).2;have zl:(b.zip k).length=b.length:=by rw[mz];omega
 have zd:(Ea (b.map XJ) m).length=b.length:=by unfold Ea;rw[List.length_zipWith,No];omega
 refine⟨λe B=>?_,λa0=>⟨z,by omega⟩⟩;have G:i<b.length:=by rw[←zd];exact(ZB.mp B).1
 have A:i<m.length:=by omega
 refine⟨⟨z,by omega⟩,λx H2 y=>?_⟩;let⟨T,pp,rfl,S,U,rfl⟩:=y;let⟨v',e1,h1⟩:=(O.pres u).get (FM A)
 have e2:(b.zip k)[i]?=P3 (b[i],v'):=by
  rw[mR];exact⟨FM G,e1⟩
 rw[e2]at U;cases U
 have e3:e=.tup [XJ b[i],m[i]]:=by
  unfold Ea at B;rw[lM,gR,FM G,FM A]at B;exact(gW B).symm
 subst e3;refine⟨Ar S,C7 F S ⟨_,_,rfl,?_,_,_,rfl,h1,rfl⟩⟩;show At X.K Q E (XJ b[i]) (kV b[i]);rw[WF];exact Wo (s _ (hV G))
end
section
variable {K:Frag}{C:Fm}{M:Addr->Prop}{H:Hp}{n:Nat}{ρ:s_ Slot}{σ:L2.St}
theorem Rel.hold(R:Rel K C M H n ρ σ){p:Ch}{o:HO}(h:H p=p_):Rel K C (λb=>M b\/b=p) (A2 H p o) n ρ σ:=by
 have g:Grow H (A2 H p o):=Ar h;have j:Pres M H _ (A2 H p o):=Dv h;refine⟨R.len,λa z=>.inl (R.sub a z),λa z=>?_,R.ext.trans g.ext,R.fU,R.uV,λa z=>.inl (R.vM a z),(R.feed.grow g).more p λf k q=>?_,λi s q=>(R.sl i s q).pres j (λ_ z=>.inl z) g.ext R.uV,λq c=>(R.pin q c).trans j,R.br0,R.new,R.two,λq c=>?_⟩
 ·rcases z with z|z
  ·let⟨u,d⟩:=R.dom a z
   exact⟨u,g.all a u d⟩
  ·rw[z];exact⟨o,AX⟩
 ·let⟨_,_,_,_,_,e,_⟩:=R.feed f k
  have:=e.2
  grind
 ·let⟨d,l,e,m⟩:=R.kept q c
  exact⟨g.all _ _ d,.inl l,e,m⟩
end
def LQ(a:s_ Key)(k:Key):Bool:=a.any λb=>decide (b=k)
theorem hasK_iff{a:s_ Key}{k:Key}:LQ a k=q_↔k∈a:=by
 unfold LQ
 simp_all
def DP(a:s_ Key)(k:Key):s_ Key:=if LQ a k=q_ then a else a++[k]
def Dr{a:Type}(b:s_ Key)(c:s_ a)(k:Key)(d:a):s_ a:=if LQ b k=q_ then ki (λe f=>if e=k then d else f) b c else c++[d]
theorem Yj{c:s_ Key}{d:s_ V}(j:c.length=d.length)(k:Key):((c.zip d).any λf=>decide (f.1=k))=LQ c k:=by
 rw[iN,kQ,hasK_iff];constructor
 ·rintro⟨⟨a,b⟩,g,e⟩
  have e:=of_decide_eq_true e;rw[←e];exact(lR g).1
 ·intro h
  let⟨i,l,e⟩:=List.mem_iff_getElem.mp h;exact⟨(c[i],d[i]'(by omega)),List.mem_iff_getElem.mpr ⟨i,by grind,by grind⟩,by grind⟩
theorem Vd{c:s_ Key}{d:s_ V}(f:c.length=d.length)(k:Key)(v:V):putK (c.zip d) k v=(DP c k).zip (Dr c d k v):=by
 unfold putK DP Dr;rw[Yj f]
 by_cases h:LQ c k=q_
 ·have l:∀(c:s_ _) (d:s_ V),((c.zip d).map λe=>if e.1=k then(e.1,v)else e)=c.zip (ki (λg i=>if g=k then v else i) c d):=by
   intro c
   induction c with
   |nil=>intro d;rfl
   | cons a c j=>
    intro d;cases d with
    |nil=>rfl
    |cons b d=>
     show(if a=k then(a,v)else(a,b))::_=(a,if a=k then v else b)::_;exact List.cons_eq_cons.mpr ⟨by split <;>rfl,j d⟩
  simp_all
 ·rw[if_neg h,if_neg h,if_neg h,List.zip_append f]
  rfl
theorem Ats.put{K:Frag}{M:Ch->Prop}{H:Hp}{k:Key}{d:D}{v:V}(j:At K M H d v):∀{c:s_ Key}{f:s_ D}{b:s_ V},Ats K M H f b->Ats K M H (ki (λg i=>if g=k then d else i) c f) (ki (λg i=>if g=k then v else i) c b)
 |[],f,b,h=>rfl
 |a::c,[],b,h=>by cases(h);rfl
 |a::c,e::f,b,h=>by
  let⟨u,r,rfl,m,l⟩:=h;refine⟨_,_,rfl,?_,Ats.put j l⟩
  grind
theorem Ats.putX{K:Frag}{M:Ch->Prop}{H:Hp}{k:Key}{d:D}{v:V}{a:s_ Key}{b:s_ D}{c:s_ V}(e:At K M H d v)(h:Ats K M H b c):Ats K M H (Dr a b k d) (Dr a c k v):=by
 unfold Dr
 split
 ·exact Ats.put e h
 ·exact h.append (Ats.one e)
theorem Ry{b:Type}{a:s_ Key}{c:s_ b}{k:Key}{d:b}(e:a.length=c.length):(DP a k).length=(Dr a c k d).length:=by
 unfold DP Dr
 grind
theorem MQ:∀{b:s_ Key}{ds:s_ D}{k:Key},k∉b->BR b ds k=p_
 |[],ds,k,_=>by rfl
 |a::b,[],k,_=>rfl
 |a::b,d::ds,k,h=>by
  unfold BR;rw[if_neg (λe=>h (by grind))];exact MQ λz=>h (Rs _ z)
theorem Ij:∀{b:s_ Key}{ds:s_ D}{k:Key},b.length=ds.length->k∈b->∃z,BR b ds k=P3 z
 |[],ds,k,_,h=>by cases h
 |a::b,[],k,h,_=>by cases h
 | a::b,d::ds,k,c,h=>by
  unfold BR
  by_cases e:a=k
  ·simp_all
  ·rw[if_neg e]
   exact Ij (by simp_all) ((TW.mp h).resolve_left λz=>e z.symm)
theorem U7{b:s_ Key}{c:s_ D}{k:Key}{d:D}(g:b.length=c.length)(j:Key):BR (DP b k) (Dr b c k d) j=if j=k then P3 d else BR b c j:=by
 unfold DP Dr
 by_cases i:LQ b k=q_
 ·have h:=hasK_iff.mp i
  rw[if_pos i,if_pos i]
  have n:∀(b:s_ Key) (c:s_ D),b.length=c.length->(j=k->k∈b)->BR b (ki (λp q=>if p=k then d else q) b c) j=if j=k then P3 d else BR b c j:=by
   intro b
   induction b with
   |nil=>
    intro c _ l
    by_cases e:j=k
    ·exact absurd (l e) gU
    ·rw[if_neg e];cases c <;>rfl
   | cons a b o=>
    intro c g l;cases c with
    |nil=>cases g
    | cons e c=>
     show(if a=j then P3 (if a=k then d else e)else BR b _ j)=if j=k then P3 d else if a=j then P3 e else BR b c j
     by_cases f:a=j
     ·rw[if_pos f,if_pos f]
      by_cases m:j=k
      ·rw[if_pos m,if_pos (f.trans m)]
      ·rw[if_neg m,if_neg (λz=>m (f.symm.trans z))]
     ·rw[if_neg f,if_neg f]
      refine o c (by simpa using g) λz=>(TW.mp (l z)).resolve_left λw=>f (w.symm.trans z.symm)
  exact n b c g λ_=>h
 ·have h:k∉b:=λz=>i (hasK_iff.mpr z)
  rw[if_neg i,if_neg i]
  have n:∀(b:s_ Key) (c:s_ D),b.length=c.length->k∉b->BR (b++[k]) (c++[d]) j=if j=k then P3 d else BR b c j:=by
   intro b
   induction b with
   | nil=>
    intro c g _;cases c with
    |nil=>
     show(if k=j then P3 d else p_)=if j=k then P3 d else p_
     by_cases e:j=k
     ·rw[if_pos e,if_pos e.symm]
     ·rw[if_neg e,if_neg (λz=>e z.symm)]
    |cons e c=>cases g
   | cons a b o=>
    intro c g l;cases c with
    |nil=>cases g
    |cons e c=>
     show(if a=j then P3 e else BR (b++[k]) (c++[d]) j)=if j=k then P3 d else if a=j then P3 e else BR b c j
     rw[o c (by simpa using g) λz=>l (Rs _ z)]
     by_cases f:a=j
     ·rw[if_pos f,if_pos f,if_neg (λz=>l (by rw[←z,←f];exact Op))]
     ·rw[if_neg f,if_neg f]
  exact n b c g h
section
variable {X:Cx}{a b e:Expr}{κ zU zL:Kd}{wa wb:DW}{pos pos':Pos}
def QX(f g:DW):DW:=λn e P=>f n e λk h=>g h e λd i=>∃c,keyOf k=P3 c/\P (.dic [c] [d]) i
theorem P8(L:DE X a zU wa)(N:DE X b zL wb)(O:zL≠.tp:=by intro z;cases z):DE X (.Dict [P3 a] [b] pos) .fr (QX wa wb):=by
 let⟨t,S,T⟩:=L;let⟨u,V,W⟩:=N;refine⟨_,Xz (Vh S V Xu) rfl rfl (jG _ _) (by show 1<=15;decide),λC M H n E F P Q R w q=>λp i=>?_⟩;have j:=R.hold (o:=.dK []) i
 have r:¬C.U p:=λz=>by
  let⟨o,w⟩:=R.dom p (R.vM p (R.uV p z));rw[i]at w;cases w
 refine T C _ _ n E F _ _ j w λx H2 k Y s Z r1 p1=>?_;have R2:=j.step s Z;refine W C _ _ Y E F _ _ R2 p1 λy v d n2 A G r2 B=>?_;let⟨e,h,B⟩:=B;have R3:=R2.step A G;have D:At X.K (λb=>M b\/b=p) v d y:=r2.shOf R2.dom O;have g:v p=P3 (.dK []):=A.keep (s.keep AX r) r;have hx:x=kV e:=Ds h (r1.tpOf j.dom j.vM);refine⟨g,[(e,y)],by rw[hx];rfl,by show 1<=15;decide,?_⟩;show Q (.ref p) (A2 v p (.dK [(e,y)]));refine q _ _ (.dic [e] [d]) n2 (λb o c=>?_) ?_ ⟨p,rfl,i,[y],AX,rfl,?_⟩ B
 ·have l:b≠p:=Ax c i
  let⟨o1,z1,k1,I⟩:=s b o (by rw[AT l];exact c);let⟨o2,z2,k2,t2⟩:=A b o1 z1;exact⟨o2,by rw[AT l];exact z2,λJ=>(k2 J).trans (k1 J),λm z=>(t2 m ((I m z).trans z)).trans (I m z)⟩
 ·refine G.pres ⟨λb o c l=>by rw[AT (λz=>l (.inr z))];exact c,λb z=>.inl (.inl z),λb m c=>by rw[AT (λz=>by rw[z,g]at c;cases c)];exact c⟩ λf o hf c=>?_
  rw[AT (λz=>r (by rw[←z];exact R.fU f hf))];exact c
 ·exact⟨y,[],rfl,D.pres (Dd (.inr rfl) g),rfl⟩
def Hb(i:Nat)(h j:DW):AY:=λl n e=>∃f g,e[i]?=P3 (.ow (.dic f g))/\j n e λd m=>h m e λk o=>∃c,keyOf k=P3 c/\f.length<sizeLine/\l.nx o (e.set i (.ow (.dic (DP f c) (Dr f g c d))))
theorem OH{i k:Nat}{x:gj}(P:Room k X.A)(Q:PE X x (B3 i))(S:DE X a zU wa)(T:DE X b zL wb)(U:zL≠.tp:=by intro z;cases z)
  (V:swapsWith b (P3 (.Subscript x a pos')) pos.line X.env=pure r_:=by rfl):DS X κ (.Assign [.Subscript x a pos'] b pos) (Hb i wa wb):=by
 let⟨t,W,Y⟩:=S;let⟨u,Z,g2⟩:=T;refine⟨_,KG (LP P) Q W Z V,λC M H n F o D2 E R L w=>?_⟩;let⟨l,ds,q,w⟩:=w;refine g2 C M H n F o _ _ R w λv H1 d n1 e1 f1 r1 p=>?_;have f:=R.step e1 f1;let⟨G,r,m,nv,tt⟩:=f.sl i _ q;exists .ref G,getD_some r;refine Y C M H1 n1 F o _ _ f p λy H2 kk n2 I f2 r2 p=>?_;let⟨c,g,a0,p⟩:=p;have R2:=f.step I f2;let⟨a1,h,m',a2,s⟩:=R2.sl i _ q;rw[r]at h;cases h;let⟨J,N,O,j⟩:=s;have B:At X.K M H2 d v:=(r1.shOf R.dom U).pres (f.pres I);have D:l.length=J.length:=by rw[O,j.length]
 refine⟨G,_,rfl,by rw[Ds g (r2.tpOf f.dom f.vM)];exact DPut.k N (by rw[mz];omega),L.nx M _ n2 _ o (R2.mut (e:=.dic (DP l c) (Dr l ds c d)) q r ⟨Dr l J c v,by rw[AX,Vd D],Ry O,(j.putX B).pres (Dd m' N)⟩) p⟩
def b7:D->t_ Bool
 |.lst c=>P3 (!c.isEmpty)
 |.tup c=>P3 (!c.isEmpty)
 |.bl b=>P3 b
 |.non=>P3 r_
 |_=>p_
def Zd(wa:DW):Gg:=λn e P=>wa n e λd f=>∃c,b7 d=P3 c/\P c f
theorem M8{K:Frag}{M:Ch->Prop}{H:Hp}{c:s_ D}{d:s_ V}(h:Ats K M H c d):d.isEmpty=c.isEmpty:=by
 have:=h.length
 cases d <;>cases c <;>first|rfl|cases this
theorem Zk{U M:Ch->Prop}{H:Hp}{K:Frag}{d:D}{x:V}{c:Bool}(h:AtT K U M H d x)(e:b7 d=P3 c):bN K x H c:=by
 cases d with
 |lst j=>cases e;let⟨a,f,rfl,_,g,i⟩:=h;exact .inl ⟨f,.inl g,by rw[M8 i]⟩
 |tup j=>cases e;let⟨a,f,rfl,g,i⟩:=h;exact .inr (.inl ⟨f,.inl (.inl g),by rw[M8 i]⟩)
 |bl b=>cases e;rw[h.bl];exact rfl
 |non=>cases e;rw[h];exact rfl
 |_=>cases e
theorem al(h:DE X e κ wa)(g:∀f,isTrue e X.env f=(do let v ←f;standAt e.pos;holding [v] (truthy v)):=by intro _;rfl):DT X e (Zd wa):=by
 let⟨t,i,j⟩:=h;refine⟨_,Ve i g,λC M H n k l P Q R w q=>?_⟩;refine j C M H n k l _ _ R w λv m d o r s u p=>?_;let⟨c,x,p⟩:=p;exact⟨c,Zk (u.tpOf R.dom R.vM) x,q c m o r s p⟩
def Fo(c:Bool)(d e:D)(P:D->Prop):Prop:=e=.non/\P (.bl (if c then !Gm d else Gm d))
theorem QP{K:Frag}:GW K .sh (λx y H Q=>y=.non/\Q (.bl (decide (x=.non))) H) (Fo r_):=λU M H d e x y P Q c h f g w q=>by
 let⟨rfl,w⟩:=w;exact⟨g,q _ H _ .refl (by rw[Pt f];rfl) w⟩
theorem Ls{K:Frag}:GW K .sh (λx y H Q=>y=.non/\Q (.bl (!decide (x=.non))) H) (Fo q_):=λU M H d e x y P Q c h f g w q=>by
 let⟨rfl,w⟩:=w;exact⟨g,q _ H _ .refl (by rw[Pt f];rfl) w⟩
variable {apos cpos:Pos}{f:Expr}{κf:Kd}{wf:DW}
def Rg(wa i:DW):DW:=λn e P=>wa n e λd j=>∃g h,Ld d=P3 (g,h)/\i j e λk l=>∃c,keyOf k=P3 c/\P ((BR g h c).getD .non) l
def Rf(wa i j:DW):DW:=λn e P=>wa n e λd l=>∃g h,Ld d=P3 (g,h)/\i l e λk m=>j m e λz o=>∃c,keyOf k=P3 c/\P ((BR g h c).getD z) o
theorem U5{U M:Ch->Prop}{H:Hp}{K:Frag}{d z:D}{x v:V}{ks:s_ Key}{g:s_ D}{key:Key}(e:Ld d=P3 (ks,g))(h:AtT K U M H d x)(l:At K M H z v):∃a o,x=.ref a/\DGet H a (kV key) o/\At K M H ((BR ks g key).getD z) (o.getD v):=by
 let⟨a,m,rfl,i,j⟩:=Lc e h;exists a,_,rfl,KO i;have h:=Hd (k:=key) (ks:=ks) j;cases c:BR ks g _ with
 |none=>simp_all
 |some y=>rw[c]at h;let⟨u,n,p⟩:=h;grind
theorem WN{U M:Ch->Prop}{H:Hp}{K:Frag}{d:D}{x:V}{c:s_ Key}{g:s_ D}(e:Ld d=P3 (c,g))(h:AtT K U M H d x):∃a,x=.ref a/\eO H a:=by
 let⟨a,j,rfl,i,k⟩:=Lc e h;exact⟨a,rfl,.inl ⟨_,i⟩⟩
theorem Yg{k:Nat}(D:Room k X.A)(E:DE X a zU wa)(F:DE X b zL wb)(m:M1 X a "get" apos b cpos:=by exact⟨rfl,rfl,rfl,rfl⟩):DE X (.Call (.Attribute a "get" apos) [b] [] cpos) .sh (Rg wa wb):=by
 let⟨t,G,I⟩:=E;let⟨u,J,K⟩:=F;refine⟨_,Vu (LP D) G J m,λC M H n j l P Q R w q=>?_⟩;refine I C M H n j l _ _ R w λv L d N r O s p=>?_;let⟨Z,ds,x,p⟩:=p;have c:=R.step r O;let⟨S,rfl,T⟩:=WN x (s.tpOf R.dom R.vM);exists S,rfl,T;refine K C M L N j l _ _ c p λy H2 kk U h B V p=>?_;let⟨key,e,p⟩:=p;have R2:=c.step h B;have i:=(s.tpOf R.dom R.vM).pres (c.pres h) h R.uV;let⟨W,o,ex,g,Y⟩:=U5 (key:=key) x i (z:=.non) (v:=.non) rfl;cases ex;exact⟨o,by rw[Ds e (V.tpOf c.dom c.vM)];exact g,q _ H2 _ U (r.trans h) B Y p⟩
theorem Yf{k:Nat}(E:Room k X.A)(F:DE X a zU wa)(G:DE X b zL wb)(I:DE X f κf wf)(J:κf≠.tp:=by intro z;cases z)(m:M2 X a "get" apos b f cpos:=by exact⟨rfl,rfl,rfl,rfl⟩):DE X (.Call (.Attribute a "get" apos) [b,f] [] cpos) .sh (Rf wa wb wf):=by
 let⟨t,K,L⟩:=F;let⟨u,N,O⟩:=G;let⟨u2,S,T⟩:=I;refine⟨_,Vt (LP E) K N S m,λC M H n j l P Q R w q=>?_⟩;refine L C M H n j l _ _ R w λv U d V s W x p=>?_;let⟨ks,ds,B,p⟩:=p;have e:=R.step s W;let⟨Y,rfl,Z⟩:=WN B (x.tpOf R.dom R.vM);exists Y,rfl,Z;refine O C M U V j l _ _ e p λy H2 kk n2 i f2 r2 p=>?_;have R2:=e.step i f2;refine T C M H2 n2 j l _ _ R2 p λz H3 dz n3 c D r3 p=>?_;let⟨key,h,p⟩:=p;have R3:=R2.step c D;have r:=((x.tpOf R.dom R.vM).pres (e.pres i) i R.uV).pres (R2.pres c) c R.uV;have hy:=(r2.tpOf e.dom e.vM).pres (R2.pres c) c R.uV;let⟨a0,o,ex,g,hz⟩:=U5 (key:=key) B r (r3.shOf R2.dom J);cases ex;exact⟨o,by rw[Ds h hy];exact g,q _ H3 _ n3 ((s.trans i).trans c) D hz p⟩
end
end Dp
namespace L2
open AutoSeq1 (wpAny_loadPart')
theorem T3:typeLookup (.type "list_reverseiterator") "__len__"=pure p_:=by kernel_rfl
theorem WO:typeLookup (.type "list_reverseiterator") "__length_hint__"=pure (P3 (.builtin "list_reverseiterator.__length_hint__")):=by kernel_rfl
theorem boot_reversed:bootBuiltins "reversed"=P3 (.type "reversed"):=by decide +kernel
section
variable {prog:Program}{w:World}{A:Around}{E:Value->Shared->Prop}{s:Shared}{I:Addr}{fp wr:s_ Addr}{G:Array GenState->Array GenState->Prop}{n:Nat}{P:Nat->Value->Prop}{St:Nat->Shared->Prop}
theorem QD{Q:s_ Db->Go->Prop}
  (W:WalksS prog w A.in1 I fp wr G n P St) (m:∀i s,St i s->s.TypeIs (.ref I) "list_reverseiterator") (p:St 0 s) (q:∀b∈fp,b<s.heap.objs.size) (v:I∈fp)
  (x:∀d f,Moved wr G s d->ItemsOf P f n->Q f.toList d) (hn:n<=sizeLine):wpAny (model prog w) A (collect (.ref I)) Q E s:=by
 have g:s.heap.objs.size∉fp:=λr=>iY _ (q _ r);have t:s.heap.objs.size≠I:=λe=>g (e▸v);unfold collect;refine Cn (wpAny_runValue (i9 F.entry_proto_collect ?_));rw[jP F.plain_proto_collect _];show wpAny _ A.in1 (newList [] >>=λl=>again (.builtin "list.__iadd__" ⟨[l,.ref I],[]⟩)) _ _ s;refine Cn (iu ?_);refine Sc ⟨jT F.plain_list_iadd _,i9 F.entry_list_iadd ?_⟩;rw[jP F.plain_list_iadd _];have a:=W.frame 0 s (s.heap.push {cls:=.type "list",data:=.seq ([]:s_ Db).toArray}) s.toks p (On _) λb _ o e=>Ev _ e;have c:(s.heap.push {cls:=.type "list",data:=.seq ([]:s_ Db).toArray}).get? s.heap.objs.size=P3 {cls:=.type "list",data:=.seq ([]:s_ Db).toArray}:=XV _ rfl;have y:mi (.ref s.heap.objs.size) (.ref I)=r_:=by simp[mi,t]
 show wpAny _ A.in1 (jc (.ref s.heap.objs.size) (.ref I) (.ref s.heap.objs.size)) _ _ _;unfold jc;refine Cn (kH (m 0 _ a) ?_);rw[if_neg (by rw[y];decide)];refine Cn (W.self 0 _ _ _ a ?_);refine Cn (iP ?_);unfold Builtin.List.listLengthHint;refine Cn (mw (m 0 _ a) T3 ?_);show wpAny _ A.in1 (specialOf (gY I) (iG "__length_hint__") >>=_) _ _ _;refine Cn (mw (m 0 _ a) WO ?_)
 (generalize h:("list_reverseiterator.__length_hint__":String)=id0;wp_delta;rw[show splitId id0=P3 ("list_reverseiterator","__length_hint__")from by subst h;decide +kernel];subst h)
 refine Cn (wpAny_isInstance (b:=q_) (m 0 _ a) (by rw[isSubtype_type];kernel_rfl) ?_);refine Sc ?_;rw[if_neg (by decide)];refine Sc ⟨jT F.plain_extend_loop _,codeAny_extend_loopS W hn _ g _ n 0 _ _ _ rfl (Tk _) a c (ItemsOf.nil P) λd j z r u k=>?_⟩;show wpAny _ A (load s.heap.objs.size >>=_) _ _ d;refine Cn (wpAny_load u ?_);exact Sc (x d j (Moved.drop_new (o:={cls:=.type "list",data:=.seq ([]:s_ Db).toArray}) (tk:=s.toks) r (On _)) k)
theorem Lg{Q₁:Db->Go->Prop}(W:WalksS prog w A.in1.in1 I fp wr G n P St)(hT:∀i s,St i s->s.TypeIs (.ref I) "list_reverseiterator")(hst:St 0 s)(hfp:∀b∈fp,b<s.heap.objs.size)(hI:I∈fp)
  (h:∀s' acc,Moved wr G s s'->ItemsOf P acc n->Q₁ (.ref s'.heap.objs.size) {s' with heap:=s'.heap.push {cls:=.type "tuple",data:=.seq acc}}) (hsz:n<=sizeLine):
  codeAny (model prog w) A (.call (.builtin "tuple.__new__") ⟨[.type "tuple",.ref I],[]⟩) (wants Q₁ E) s:=by
 refine mx ?_;show wpAny _ A.in1 (do checkBuiltinCall "tuple.__new__" ⟨[.type "tuple",.ref I],[]⟩;again (.builtin "tuple.__new__" ⟨[.type "tuple",.ref I],[]⟩)) _ _ s;refine Cn (m_ (F.newCall_tuple_1 _) (Sc ⟨jT F.plain_tuple_new _,i9 F.entry_tuple_new ?_⟩));rw[jP F.plain_tuple_new _];have hsub:=sub_tuple_self;have hinit:=init_tuple_lookup;have hmh:=madeHere_tuple;have hTI:=hT 0 s hst
 wp_walk using kH hTI,QD (hn:=hsz) W hT hst hfp hI
 intro s' acc hm hacc;show wpAny _ _ (jp acc.toList.toArray >>=λv=>ret v) _ _ _;unfold jp;refine Cn (iu ?_ (by show acc.toList.toArray.size<=sizeLine;simp only[Array.toArray_toList];rw[hacc.1];exact hsz));refine Sc ?_;have e:acc.toList.toArray=acc:=by simp
 rw[e];exact h s' acc hm hacc
theorem Lk{Q:Db->Go->Prop}(W:WalksS prog w A.in1.in1.in1 I fp wr G n P St)(k:∀i s,St i s->s.TypeIs (.ref I) "list_reverseiterator")(h:St 0 s)(j:∀b∈fp,b<s.heap.objs.size)(l:I∈fp)
  (m:∀e d,Moved wr G s e->ItemsOf P d n->Q (.ref e.heap.objs.size) {e with heap:=e.heap.push {cls:=.type "tuple",data:=.seq d}}) (hsz:n<=sizeLine):
  wpAny (model prog w) A (call (.type "tuple") [.ref I]) Q E s:=callType_codes (Q₁:=λf c=>c.TypeIs f _/\Q _ _) nH (F.typeCall_tuple_1 _) F.entry_object_init
  (Lg (hsz:=hsz) W k h j l λe d o g=>⟨⟨_,XV _ rfl,rfl⟩,m e _ o g⟩) λf c a=>⟨a.1,F.args_object_init_2 _ _,object_init_meets nH.init.lookup nH.made (by decide) _ w _ _ _ ⟨a.1,rfl,a.2⟩⟩
end
section
variable {X:Cx}{e:Expr}{te:TE}{p1 p2 q1 q2:Pos}
def Xd(K:Frag)(te:TE):TE:=λc H Q=>te c H λx a=>∃l b,x=.ref l/\SqL K a l b/\∀r,a r=p_->Q (.ref r) (A2 a r (.tup b.reverse))
theorem Tp(B:X.calm=q_)(he:PE X e te)(C:Gl X "tuple")(D:X.mg "tuple"=p_)(E:Gl X "reversed")(F:X.mg "reversed"=p_)(S:starEach [nj (.Name "reversed" p2) [e] [] q2] X.env=[(r_,eval (nj (.Name "reversed" p2) [e] [] q2) X.env)]:=by rfl)
  (T:starEach [e] X.env=[(r_,eval e X.env)]:=by rfl):PE X (.Call (.Name "tuple" p1) [.Call (.Name "reversed" p2) [e] [] q2] [] q1) (Xd X.K te):=by
 intro y s G H Q I h;refine ia (EQ I C D jQ ?_);refine iW ?_ S rfl;rw[S];refine jI ?_;refine ia (EQ I E F boot_reversed ?_);refine iW ?_ T rfl;rw[T];refine jI (thn (he y s G H _ I h) λu d ⟨x,k,m,r1,l,J,ex,hq,q⟩=>ji ?_);subst ex;cases r1;let⟨a,U,pl,V⟩:=m.list hq;have n:=U.length;have L:d.heap.IsList l a.toArray:=pl.isList;have p:l<d.heap.objs.size:=by let⟨_,e,_⟩:=id L;exact UF e
 refine call_reversed_list L (ji ?_);have M:k d.heap.objs.size=p_:=m.fresh;have I2:Inv X y G k {d with heap:=d.heap.push (revObj l ((a.toArray.size:Int) - 1))}:=m.kept (t':=d.toks) λb o e=>Ev _ e;have N:Ge X y k d.heap.objs.size:=m.fpOk (On _) M;refine Lk (s:={d with heap:=d.heap.push (revObj l ((a.toArray.size:Int) - 1))}) (Walks.listRev (A:=X.A.in1.in1.in1) (m.ok.hd B) d.heap.objs.size l (gg p) a.toArray).toS (λi W hs=>hs.2.1.typeIs) ⟨Tk _,⟨_,XV _ rfl,rfl,by show Data.fields _=_;simp[revObj]⟩,L.push _⟩ (λb r=>?_) Op (λW g z t=>?_) (by rw[gQ,←n];exact V)
 ·rcases TW.mp r with rfl|r
  ·exact UF (XV _ rfl)
  ·obtain rfl:=Re.mp r
   exact gv p (by show d.heap.objs.size<=(d.heap.push _).objs.size;rw[size_push'];exact iE _)
 ·let⟨h',g',d',j,O⟩:=W
  have e1:g'=d.gens:=z.gens;have e2:d'=d.drawn:=z.drawn;have e3:O=d.os:=z.os;subst e1 e2 e3;have P:=I2.turnedL (h':=h') (t':=j) (ch:=[d.heap.objs.size]) (λc B=>by rw[Re.mp B];exact N) λb o r e=>z.heap b o r e;have Y:Inv X y G k {d with heap:=h',toks:=j}:=P
  have hv:g.toList=a.reverse:=by
   refine List.ext_getElem? λi=>?_;let⟨Z,a2⟩:=t;have e0:g.toList[i]?=g[i]?:=by simp
   rw[e0]
   by_cases hi:i<a.length
   ·have v:i<g.size:=by rw[Z,gQ];exact hi
    have a3:=a2 i g[i] (jl v);rw[List.getElem?_reverse hi,jl v,←a3,gQ];simp
   ·rw[lN (by rw[ju];omega)]
    exact Array.getElem?_eq_none (by rw[Z,gQ];omega)
  have R:g=a.reverse.toArray:=by rw[←hv]
  have rr:Vals J.reverse a.reverse:=U.reverse;refine⟨.ref h'.objs.size,A2 k h'.objs.size (.tup J.reverse),Y.laid (t':=j) (λb o e=>Ev _ e) (On _) (show ObjOk X.prog X.w _ _ _ (.tup J.reverse)from⟨by rw[ju];exact V,a.reverse,rr,by rw[R];exact IsTupN.new _ _⟩),rfl,q _ (Y.hok.fresh (On _))⟩
end
end L2
namespace Dp
open L2
def Rc(b:DW):DW:=λn c P=>b n c λd e=>∃a,d=.lst a/\P (.tup a.reverse) e
section
variable {X:Cx}{a:Expr}{zU:Kd}{wa:DW}{p1 p2 q1 q2:Pos}
theorem UZ(m:X.calm=q_)(o:DE X a zU wa)(b:Gl X "tuple")(c:X.mg "tuple"=p_)(e:Gl X "reversed")(f:X.mg "reversed"=p_)(s:starEach [nj (.Name "reversed" p2) [a] [] q2] X.env=[(r_,eval (nj (.Name "reversed" p2) [a] [] q2) X.env)]:=by rfl)
  (u:starEach [a] X.env=[(r_,eval a X.env)]:=by rfl):DE X (.Call (.Name "tuple" p1) [.Call (.Name "reversed" p2) [a] [] q2] [] q1) .sh (Rc wa):=by
 let⟨t,x,y⟩:=o;refine⟨_,Tp m x b c e f s u,λC M H n z A P Q R w q=>?_⟩;refine y C M H n z A _ _ R w λv h d B i j D p=>?_;let⟨J,rfl,p⟩:=p;have E:=R.step i j;let⟨F,k,rfl,K,G,I⟩:=D.tpOf R.dom R.vM;refine⟨F,k,rfl,.inl G,λr l=>?_⟩;have g:Grow h (A2 h r (.tup k.reverse)):=Ar l;exact q _ _ (.tup _) B (i.trans g.ext) (j.grow g) (C7 E.dom l (I.reverse)) p
end
section
theorem TR{k n:Nat}(h:k<n):seqIndex? (k:Int) n=P3 k:=by
 refine(N9 ?_).1;unfold WG
 grind
end
def Yt(i:Nat)(c:DW):AY:=λe n a=>∃b,a[i]?=P3 (.ow (.lst b))/\c n a λd f=>∃(k:Nat) (x:D),d=.int (k:Int)/\b[k]?=P3 x/\k<2 ^ 60/\e.nx f (a.set i (.ow (.lst (b.eraseIdx k))))
section
variable {X:Cx}{κ zT:Kd}{e:Expr}{we:DW}{pos p apos cpos:Pos}{x:Str}{i:Nat}
theorem YZ(h:PE X (.Name x p) (B3 i))(K:DE X e zT we)
  (c:attributeBase (.Name x p) "pop" X.env (eval (.Name x p) X.env)=eval (.Name x p) X.env:=by rfl)
  (g:((backTo cpos (starEach [e] X.env)).all (λx=>!x.1)&&(backToKw cpos (keywordEach [] X.env)).all (λx=>x.1.isSome)
   && decide ([e].length+([]:s_ jJ).length+(if([]:s_ jJ).isEmpty then 0 else 1)<30))=q_:=by rfl)
  (f:(apos.endLine==cpos.line)=q_:=by rfl) (j:starEach [e] X.env=(r_,eval e X.env)::starEach [] X.env:=by rfl) (b:(backTo cpos (starEach [] X.env)).any (·.1)=r_:=by rfl)
  (s:swapsWith (.Call (.Attribute (.Name x p) "pop" apos) [e] [] cpos) p_ pos.line X.env=pure r_:=by rfl):
  DS X κ (.Expr (.Call (.Attribute (.Name x p) "pop" apos) [e] [] cpos) pos) (Yt i we):=by
 let⟨t,N,O⟩:=K;refine⟨_,KD (PM PySem.F.plainAttrs_list PySem.F.slot_list_pop PySem.F.type_list_pop V5 h (BF N B6 j) c g f j b) s,λC M H n P B D2 E R L w=>?_⟩;let⟨D,u,w⟩:=w;let⟨a,z,m,Q,S⟩:=R.sl i _ u;exists .ref a,getD_some z,LL (show eF "list" (.lst D)from rfl) (S.att Q);refine O C M H n P B _ _ R w λv H1 d T U V W p=>?_;let⟨k,y,rfl,Y,hk,p⟩:=p;have G:=R.step U V;let⟨a',l,Z,a0,r,I,q⟩:=G.sl i _ u;rw[z]at l;cases l;let⟨v',J,hv⟩:=q.get Y;have A:k<r.length:=(ZB.mp J).1;exists a,r,(k:Int),k,v',rfl,by rw[LO W],I,by omega,by omega,TR A,J;exact L.nx M _ T _ B (G.mut (e:=.lst (D.eraseIdx k)) u z (o:=.lst (r.eraseIdx k)) ⟨r.eraseIdx k,AX,(q.eraseIdx k).pres (Dd Z I)⟩) p
end
end Dp
namespace L2
end L2
namespace Dp
open L2
end Dp
namespace L2
open AutoSeq1 (wpAny_loadPart')
theorem boot_enumerate:bootBuiltins "enumerate"=P3 (.type "enumerate"):=by decide +kernel
section
variable {prog:Program}{w:World}{A:Around}{E:Value->Shared->Prop}{s:Shared}
theorem UX{κ:Bool}(m:A.handled=p_)(f l:Ch)(g:l≠f)(c:Array Db):Draws prog w A f [f,l] c.size (λi v=>c[i]?=P3 v) (λi h=>ItAt κ h f l i/\SqAt κ h l c) where
 live:=λ_ _ d=>let ⟨o,n,_⟩:=d.1.lies;⟨o,n⟩
 frame:=λ_ _ _ d k=>⟨d.1.mv λo e=>k f (by simp) o e,d.2.mv λo e=>k l (by simp) o e⟩
 item:=λi s Q E j d p=>GN d.1 d.2 (x:=c[i]) (by simp[j]) λq a b=>p _ q s.toks (by simp[j]) ⟨a,d.2.eb b.extBut g⟩ b
 done:=λs Q E d r=>IC m d.1 d.2 (by simp) r
theorem RO{κ:Bool}(d:A.handled=p_)(c l:Ch)(a:Array Db)(k:Nat)(f:a[k]?=p_):Draws prog w A c [c,l] k (λ_ _=>True) (λi h=>ItAt κ h c l i/\SqAt κ h l a/\i=k) where
 live:=λ_ _ b=>let ⟨o,g,_⟩:=b.1.lies;⟨o,g⟩
 frame:=λ_ _ _ b k=>⟨b.1.mv λo e=>k c (by simp) o e,b.2.1.mv λo e=>k l (by simp) o e,b.2.2⟩
 item:=λi s Q E j b n=>absurd b.2.2 (gg j)
 done:=λs Q E b m=>IC d b.1 b.2.1 f m
theorem V4(κ:Bool)(l:Ch)(items:Array Db):Meets (kI.«enumerate.__new__» ⟨[.type "enumerate",.ref l],[]⟩) (λ_ R s=>SqAt κ s.heap l items /\
   R (.ok (.ret (.ref (s.heap.push (Jd κ l)).objs.size))) {s with heap:=(s.heap.push (Jd κ l)).push {cls:=.type "enumerate",data:=.fields #[.none,.bool r_,.ref s.heap.objs.size,rawInt 0,.none,.none]}}):=
 .of_wp λprog w A R s h=>by
  let⟨hp,g,d,tk,os⟩:=s;let⟨hl,h⟩:=h
  have hsub:=sub_enumerate;cases κ with
  | true=>
   have hL:nB (j6 ⟨hp,g,d,tk,os⟩) l items:=hl;let⟨⟨c,dct,dt,sl⟩,ho,hc,n,hd⟩:=id hL;replace hc:c=.type "list":=hc;replace hd:dt=.seq items n:=hd;subst hc hd
   wp_walk using iU ho
   refine wpAny_stack_any λst=>Sc ?_
   split
   ·rename_i c _ _ _ _ _
    cases(c==jW "enumerate") <;>(wp_walk using iU ho,iy hL;exact⟨_,rfl,h⟩)
   ·(wp_walk using iU ho,iy hL;exact⟨_,rfl,h⟩)
  | false=>
   have hL:md (j6 ⟨hp,g,d,tk,os⟩) l items:=hl;let⟨⟨c,dct,dt,sl⟩,ho,hc,n,hd⟩:=id hL;replace hc:c=.type "tuple":=hc;replace hd:dt=.seq items n:=hd;subst hc hd
   wp_walk using iU ho
   refine wpAny_stack_any λst=>Sc ?_
   split
   ·rename_i c _ _ _ _ _
    cases(c==jW "enumerate") <;>(wp_walk using iU ho,i_ hL;exact⟨_,rfl,h⟩)
   ·(wp_walk using iU ho,i_ hL;exact⟨_,rfl,h⟩)
theorem MI{c:Bool}{l:Ch}{a:Array Db}{Q:Db->Go->Prop}(j:SqAt c s.heap l a)
  (h:∀d,IsEnum d (s.heap.objs.size+1) s.heap.objs.size 0 .none->ItAt c d s.heap.objs.size l 0->(∀b o,s.heap.get? b=P3 o->d.get? b=P3 o)->Q (.ref (s.heap.objs.size+1)) {s with heap:=d}):
  wpAny (model prog w) A (call (.type "enumerate") [.ref l]) Q E s:=by
 refine callType_new F.called_enumerate (by decide) (F.typeCall_enumerate_1 _) (F.newCall_enumerate_1 _) (λf=>F.args_object_init_2 f _) F.entry_enumerate_new (V4 c l a) ⟨j,?_⟩;have g:(s.heap.push (Jd c l)).objs.size=s.heap.objs.size+1:=iq ..;have i:((s.heap.push (Jd c l)).push {cls:=.type "enumerate",data:=.fields #[.none,.bool r_,.ref s.heap.objs.size,rawInt 0,.none,.none]}).get? (s.heap.push (Jd c l)).objs.size=P3 _:=XV _ rfl;rw[g]at i;exists⟨_,by rw[g];exact i,rfl⟩;rw[g];exact h _ i ((LK c s.heap l).mv λo e=>Ev _ e) λb o e=>Ev _ (Ev _ e)
end
def bo(K:Frag)(c:Bool)(a:Ch)(b:s_ V):It:=
 ⟨λi H=>SqK c K H a b/\i<b.length,λi H x d=>∃T p,x=.ref T/\H T=p_/\d=A2 H T (.tup [.int i,p])/\b[i]?=P3 p,λi H=>SqK c K H a b/\b.length<=i⟩
structure bY (κ:Bool) (e it a:Ch) (k:Nat) (h:gf):Prop where
 e:∃old,IsEnum h e it (k:Int) old
 i:ItAt κ h it a k
theorem TD{P:gi}{w:gn}{K:Frag}{es:s_ gj}{j:Nat}{pos:Pos}(κ:Bool)(e f a:Ch)(S:s_ V)(r:e≠f)(ae:a≠e)(ai:a≠f):
  Turn P w K (.Tuple es j pos) (bo K κ a S) [e,f] e (bY κ e f a) where
 mem:=by simp
 obj:=λi h d c b=>by
  simp only[TW,gU,or_false]at b
  rcases b with rfl|rfl
  ·let⟨o,q⟩:=d.e
   exact⟨_,q,λv q=>by cases q⟩
  ·exact d.i.lies
 keep:=λi h T d k=>by
  let⟨o,q⟩:=d.e;exact⟨⟨o,k e (by simp) _ q⟩,d.i.mv λo e=>k f (by simp) o e⟩
 item:=by
  intro X t y B b i U s W H E I m d C;subst t y B;let⟨D,F⟩:=C;let⟨n,p,G⟩:=D.at I;let⟨u,hu,ru⟩:=p.get (FM F);let⟨l,g⟩:=d.e;have l1:=p.length;refine wpAny_pyNext_enum_itemD (UX (κ:=κ) (A:=X.A.in1) (I.ok.hd b) f a ai n.toArray) g ⟨d.i,G⟩ (by simp;omega) r (by simp[r,ae.symm]) λx T J hp a1 a2 a3 a4 a5=>⟨_,rfl,?_⟩
  have L:x=u:=by
   have Y:n[i]?=P3 x:=by simpa using hp
   rw[hu]at Y;exact(gW Y).symm
  subst L;refine wpAny_letOwnedTupleGo_enum a1 λZ b1 M=>?_;have hT:H s.heap.objs.size=p_:=I.hok.fresh (On _)
  have N:∀c o,c∉[e,f]->s.heap.get? c=P3 o->Z.get? c=P3 o:=λc o b z=>by
   simp only[TW,gU,or_false,not_or]at b;exact M.extBut _ _ b.1 (a5 c o b.1 b.2 z)
  have I2:Inv X U W (A2 H s.heap.objs.size (.tup [.int i,S[i]])) {s with heap:=Z,toks:=J+1}:=by
   refine I.turnLaid (t':=J+1) (ch:=[e,f]) m N (On _) ?_;have nT:s.heap.objs.size≠e:=jY (UF g);exact⟨by show 2<=sizeLine;decide,[.int i J,x],.cons ⟨_,rfl⟩ (.cons ru .nil),⟨_,M.extBut _ _ nT a3,rfl,_,rfl,rfl,rfl⟩⟩
  refine⟨.ref s.heap.objs.size,_,I2,rfl,⟨_,_,rfl,hT,rfl,FM F⟩,⟨⟨_,b1⟩,a2.1.eb M.extBut r.symm⟩,λc b=>?_⟩;have O:H c=p_:=(m c b).1
  have R:c≠s.heap.objs.size:=λz=>by
   obtain⟨o,ho⟩:∃o,s.heap.get? c=P3 o:=by
    simp only[TW,gU,or_false]at b
    rcases b with rfl|rfl
    ·exact⟨_,g⟩
    ·let⟨o,q,_⟩:=d.i.lies;exact⟨o,q⟩
   rw[z]at ho;exact iY _ (UF ho)
  rw[AT R];exact O
 done:=by
  intro X t y B b i U s W H E I m d C;subst t y B;let⟨D,F⟩:=C;let⟨n,p,G⟩:=D.at I;let⟨l,g⟩:=d.e;have l1:=p.length;refine wpAny_pyNext_enum_endD (RO (κ:=κ) (A:=X.A.in1) (I.ok.hd b) f a n.toArray i (by simp;omega)) g ⟨d.i,G,rfl⟩ λT N=>⟨rfl,?_⟩;refine I.turnedL (t':=s.toks) (ch:=[e,f]) m λc o b e=>?_;simp only[TW,gU,or_false,not_or]at b;exact N c o b.2 e
 self:=λA i s Q E d h=>by
  let⟨l,g⟩:=d.e;exact wpAny_pyIter_enum g h
section
variable {X:Cx}{e1:Expr}{es:s_ Expr}{j:Nat}{tpos p pos:Pos}{te:TE}
def c_(K:Frag)(te:TE):TI:=λe H R=>te e H λv b=>∃c a d,v=.ref a/\SqK c K b a d/\R (bo K c a d) b
theorem Xy(t:Gl X "enumerate")(v:X.mg "enumerate"=p_)(w:PE X e1 te)(g:starEach [e1] X.env=[(r_,eval e1 X.env)]:=by rfl):
  PI X (.Tuple es j tpos) (.Call (.Name "enumerate" p) [e1] [] pos) (c_ X.K te):=by
 intro y s z H R I h;refine ia (EQ I t v boot_enumerate ?_);refine iW ?_ g rfl;rw[g];refine jI (thn (w y s z H _ I h) λu b ⟨x,A,f,B,i,a,k,ex,C,q⟩=>ji ?_);subst ex;cases B;let⟨G,D,l⟩:=C.at f;have m:a<b.heap.objs.size:=by let⟨o,e⟩:=l.lies;exact UF e
 refine MI l λJ n E F=>?_;refine wpAny_pyIter_enum n ?_;refine⟨b.heap.objs.size+1,[b.heap.objs.size+1,b.heap.objs.size],_,bo X.K i a k,A,rfl,f.kept (t':=b.toks) F,TD i _ _ a k (by show(_:Nat)≠(_:Nat);omega) (gg (iw m)) (gg m),⟨⟨_,n⟩,E⟩,λc r=>?_,q⟩
 have d:b.heap.objs.size<=c:=by
  simp only[TW,gU,or_false]at r
  rcases r with rfl|rfl
  ·exact iE _
  ·exact On _
 exact f.fpOk d (f.hok.fresh d)
end
end L2
namespace Dp
open L2
def Fq:Nat->s_ D->s_ D
 |_,[]=>[]
 |k,x::r=>.tup [.int (k:Int),x]::Fq (k+1) r
theorem Mn:∀(k:Nat) (a:s_ D),(Fq k a).length=a.length
 |_,[]=>rfl
 |k,x::r=>by show(Fq (k+1) r).length+1=r.length+1;rw[Mn (k+1) r]
theorem Mo:∀(k:Nat) (a:s_ D) (i:Nat),(Fq k a)[i]?=(a[i]?).map λx=>.tup [.int ((k+i:Nat):Int),x]
 |_,[],i=>by simp[Fq]
 |k,x::r,0=>rfl
 |k,x::r,i+1=>by
  show(Fq (k+1) r)[i]?=(r[i]?).map _;rw[Mo (k+1) r i,show k+1+i=k+(i+1) by omega]
section
variable {K:Frag}
theorem P0{M:Ch->Prop}{H:Hp}{g:Bool}{a:Ch}{c:s_ V}{e:s_ D}(m:Ats K M H e c){i:Nat}{j:Ch->Prop}{b:Hp}(s:Pres M H j b)(n:SqK g K b a c)(k:∀a,j a->∃o,b a=P3 o):
  (∀d,(Fq 0 e)[i]?=P3 d->(bo K g a c).go i b/\∀x H2,(bo K g a c).yld i b x H2->Grow b H2/\At K j H2 d x)/\((Fq 0 e).length<=i->(bo K g a c).stop i b):=by
 have z:=m.length;refine⟨λd f=>?_,λt=>⟨n,by rw[Mn]at t;omega⟩⟩;rw[Mo,Nat.zero_add]at f;cases h:e[i]? with
 |none=>rw[h]at f;cases f
 |some u=>
  rw[h]at f;have l:D.tup [.int (i:Int),u]=d:=gW f;have A:i<e.length:=(ZB.mp h).1;refine⟨⟨n,by omega⟩,λx H2 y=>?_⟩;let⟨T,p,rfl,q,rfl,v⟩:=y;let⟨B,r,w⟩:=(m.pres s).get h;rw[v]at r;cases r;subst l;exact⟨Ar q,C7 k q ⟨.int (i:Int),[p],rfl,rfl,p,[],rfl,w,rfl⟩⟩
end
section
variable {X:Cx}{e1:Expr}{es:s_ Expr}{j:Nat}{tpos p pos:Pos}{κ:Kd}{wa:DW}
def U3(wa:DW):D8:=λn b P=>wa n b λd c=>∃a,Ip d=P3 a/\P (Fq 0 a) c
theorem Sj(g:Gl X "enumerate")(k:X.mg "enumerate"=p_)(h:DE X e1 κ wa)(l:κ≠.tp:=by intro z;cases z)(m:starEach [e1] X.env=[(r_,eval e1 X.env)]:=by rfl):
  DI X (.Tuple es j tpos) (.Call (.Name "enumerate" p) [e1] [] pos) (U3 wa):=by
 let⟨t,o,r⟩:=h;refine⟨_,Xy g k o m,λC M H n s u P K R w q=>?_⟩;refine r C M H n s u _ _ R w λv c d x y A B p=>?_;let⟨L,D,p⟩:=p;let⟨E,a,F,rfl,G,e⟩:=Qf (B.shOf R.dom l) D;exact⟨E,a,F,rfl,e M c (Pres.refl _ _),q _ c _ x y A (λi I J f b=>P0 G f (e I J f) b) p⟩
end
def Yw(i:Nat)(b:BW)(a:AY):AY:=λf n c=>∃d e,c[i]?=P3 (.br d)/\Ip d=P3 e/\BP b a f e n c
section
variable {X:Cx}{κ:Kd}{tg:Expr}{body:s_ Stmt}{b:BW}{wb:AY}{pos p:Pos}{x:Str}{i:Nat}
theorem Rel.lessKp{K:Frag}{C:Fm}{q:Ch×HO}{M:Ch->Prop}{H:Hp}{n:Nat}{a:s_ Slot}{c:L2.St}(R:Rel K {C with kp:=q::C.kp} M H n a c):Rel K C M H n a c:=
 ⟨R.len,R.sub,R.dom,R.ext,R.fU,R.uV,R.vM,R.feed,R.sl,R.pin,R.br0,R.new,R.two,λp d=>R.kept p (Rs _ d)⟩
theorem Ya(hp:lL (model X.prog X.w) X.A X.env X.xe)(hc:X.calm=q_)(h:PE X (.Name x p) (B3 i))(hg:DG X tg b)(hb:QU X κ body wb)
  (hs:∀y,foldedSetIterable (.Name x p) X.env y=pure y:=by intro _;rfl):DS X κ (.For tg (.Name x p) body [] pos) (Yw i b wb):=by
 let⟨g,g1,g2⟩:=hg;let⟨tb,b1,b2⟩:=hb;refine⟨_,K3 hp hc (Qw h) g1 b1 hs,λC M H n U Z G E R L w=>?_⟩;let⟨d,f,hi,hd,w⟩:=w;let⟨v,e1,a2⟩:=R.sl i _ hi;cases d with
 | tup a3=>
  cases hd;let⟨a,I,rfl,hn,J⟩:=a2;refine⟨.ref a,getD_some e1,.inr (.inl ⟨a,rfl,⟨I,hn.sq⟩,?_⟩)⟩;obtain⟨c,ek⟩:∃c,c=C.kp:=⟨_,rfl⟩;have R1:Rel X.K {C with kp:=c} M H n U Z:=by rw[ek];exact R
  have B:∀{M H n U Z},Rel X.K {C with kp:=c} M H n U Z->Rel X.K C M H n U Z:=λR=>by rw[ek]at R;exact R
  have st:∀l k r s t,Rel X.K {C with kp:=c,zH:=(M,H)::C.zH} l k r s t->SqT X.K k a I:=λl k r s t D=>(hn.pres (D.pin (M,H) Op)).sq;exists λi m t k=>m=f.length - i/\i<=f.length/\∃l r s,Rel X.K {C with kp:=c,zH:=(M,H)::C.zH} l k r s t/\BP b wb G (f.drop i) r s,⟨f.length,by simp,Tk _,M,n,U,R1.pinned,w⟩;rintro i m t k ⟨rfl,a4,l,r,s,D,V⟩;have pr:Pres M H l k:=D.pin (M,H) Op;have N:=st l k r s t D
  by_cases F:i<f.length
  ·have ed:f.drop i=f[i]::f.drop (i+1):=ic F
   rw[ed]at V;let⟨v,ev,hv⟩:=(J.pres pr).get (FM F);refine .inr ⟨⟨I,v,N,ev⟩,λzP H2=>∃M2 W Y,Rel X.K {C with kp:=c,zH:=(M,H)::C.zH} M2 H2 W Y zP/\BP b wb G (f.drop (i+1)) W Y,λzP H2 ⟨M2,W,Y,a0,w2⟩=>⟨f.length - (i+1),by omega,rfl,F,M2,W,Y,a0,w2⟩,λy H2 hy=>?_⟩;let⟨e2,hy⟩:=hy;subst e2
   have:P3 v=P3 y:=ev.symm.trans (hy I N)
   cases this;refine g2 _ l H2 r s t f[i] v _ _ D hv V λzN zV R3 w3=>?_;refine b2 _ l H2 r zN zV {G with nx:=BP b wb G (f.drop (i+1)),ct:=BP b wb G (f.drop (i+1)),bk:=G.nx} _ R3 ⟨λO H4 P Q zQ S T=>⟨O,P,Q,S,T⟩,L.rt,λO H4 P Q zQ S T=>L.nx O H4 P Q zQ (B S.unpin) T,λO H4 P Q zQ S T=>⟨O,P,Q,S,T⟩⟩ w3
  ·have e:i=f.length:=by omega
   subst e;rw[jr]at V;exact .inl ⟨⟨I,N,by rw[J.length];exact On _⟩,L.nx l k r s t (B D.unpin) V⟩
 | lst a3=>
  cases hd;let⟨a,I,rfl,nV,hH,J⟩:=a2
  obtain⟨o,ho,a1⟩:∃o,H a=P3 o/\∀k:Hp,k a=P3 o->SqL X.K k a I:=by
   rcases hH with z|⟨u,z⟩
   ·exact⟨_,z,λk e=>.inl (.inl e)⟩
   ·exact⟨_,z,λk e=>.inl (.inr ⟨u,e⟩)⟩
  refine⟨.ref a,getD_some e1,.inl ⟨a,rfl,⟨I,a1 H ho⟩,?_⟩⟩
  obtain⟨c,R1,B,st⟩:∃c,Rel X.K {C with kp:=c} M H n U Z/\(∀{M H n U Z},Rel X.K {C with kp:=c} M H n U Z->Rel X.K C M H n U Z)/\(∀l k r s t,Rel X.K {C with kp:=c,zH:=(M,H)::C.zH} l k r s t->SqL X.K k a I):=by
   by_cases hM:M a
   ·refine⟨(a,o)::C.kp,⟨R.len,R.sub,R.dom,R.ext,R.fU,R.uV,R.vM,R.feed,R.sl,R.pin,R.br0,R.new,R.two,λq N=>?_⟩,λR=>R.lessKp,λl k r s t D=>a1 k (D.kept (a,o) Op).1⟩
    rcases TW.mp N with rfl|N
    ·refine⟨ho,hM,nV,λj e q z=>?_⟩
     let⟨u,hu⟩:=R.br0 i _ a hi e1
     have:=(R.new j _ a q rfl z).2
     rw[hu]at this;cases this
    ·exact R.kept q N
   ·exact⟨C.kp,R,λR=>R,λl k r s t D=>a1 k ((D.pin (M,H) Op).1 a o ho hM)⟩
  exists λi m t k=>m=f.length - i/\i<=f.length/\∃l r s,Rel X.K {C with kp:=c,zH:=(M,H)::C.zH} l k r s t/\BP b wb G (f.drop i) r s,⟨f.length,by simp,Tk _,M,n,U,R1.pinned,w⟩;rintro i m t k ⟨rfl,a4,l,r,s,D,V⟩;have pr:Pres M H l k:=D.pin (M,H) Op;have N:=st l k r s t D
  by_cases F:i<f.length
  ·have ed:f.drop i=f[i]::f.drop (i+1):=ic F
   rw[ed]at V;let⟨v,ev,hv⟩:=(J.pres pr).get (FM F);refine .inr ⟨⟨I,v,N,ev⟩,λzP H2=>∃M2 W Y,Rel X.K {C with kp:=c,zH:=(M,H)::C.zH} M2 H2 W Y zP/\BP b wb G (f.drop (i+1)) W Y,λzP H2 ⟨M2,W,Y,a0,w2⟩=>⟨f.length - (i+1),by omega,rfl,F,M2,W,Y,a0,w2⟩,λy H2 hy=>?_⟩;let⟨e2,hy⟩:=hy;subst e2
   have:P3 v=P3 y:=ev.symm.trans (hy I N)
   cases this;refine g2 _ l H2 r s t f[i] v _ _ D hv V λzN zV R3 w3=>?_;refine b2 _ l H2 r zN zV {G with nx:=BP b wb G (f.drop (i+1)),ct:=BP b wb G (f.drop (i+1)),bk:=G.nx} _ R3 ⟨λO H4 P Q zQ S T=>⟨O,P,Q,S,T⟩,L.rt,λO H4 P Q zQ S T=>L.nx O H4 P Q zQ (B S.unpin) T,λO H4 P Q zQ S T=>⟨O,P,Q,S,T⟩⟩ w3
  ·have e:i=f.length:=by omega
   subst e;rw[jr]at V;exact .inl ⟨⟨I,N,by rw[J.length];exact On _⟩,L.nx l k r s t (B D.unpin) V⟩
 |_=>cases hd
end
end Dp
namespace L2
open PySem.W
end L2
namespace Dp
open L2
end Dp
namespace L2
def fY(d:Ch)(o:Obj)(a:s_ (Key×V)):It:=
 ⟨λi H=>H d=P3 (.frz o (.dK a))/\i<a.length,λi H x b=>b=H/\∃p,a[i]?=P3 p/\x=kV p.1,λi H=>H d=P3 (.frz o (.dK a))/\a.length<=i⟩
theorem TC{P:gi}{w:gn}{K:Frag}{tg:gj}(d n:Ch)(o:Obj)(a:s_ (Key×V))(es:Array DictEntry)(U:Nat)(g:o.data=.dict es U):
  Turn P w K tg (fY d o a) [n] n (λi h=>h.IsKeyIter n d i a.length U) where
 mem:=by simp
 obj:=λi h f c j=>by
  rw[Re.mp j];let⟨u,B,_,hd⟩:=f;exact⟨u,B,λv q=>by rw[hd]at q;cases q⟩
 keep:=λi h C f k=>f.at λu e=>k n (by simp) u e
 item:=by
  intro X F G J j i W s Y H E I r f L;subst F G J;let⟨M,Z⟩:=L;let⟨t,x,D⟩:=GO I M g
  have y:=x.length;have N:i<t.length:=by omega
  rw[y]at f;obtain⟨k,v,O⟩:∃k v,t[i]=(k,v):=⟨_,_,rfl⟩;have hx:t[i]?=P3 (k,v):=by rw[FM N,O]
  have hp:a[i]?=P3 a[i]:=FM Z;let⟨R,rv⟩:=K7 x hp hx;have R:a[i].1=k:=R;refine wpAny_pyNext_dict_item f D hx λa0 C l p m=>⟨_,rfl,?_⟩;let⟨u,B,S,T⟩:=id p;refine Pw B S T (by decide) ?_;have I2:Inv X W Y H {s with heap:=C}:=I.turnedL (t':=s.toks) (ch:=[n]) r λc o j e=>m.extBut c o (λz=>j (by rw[z];exact Re.mpr rfl)) e;exact⟨_,H,I2,WE (by rw[←R]at l;exact l),⟨rfl,_,hp,rfl⟩,by rw[y];exact p,λb hb=>(r b hb).1⟩
 done:=by
  intro X F G J j i W s Y H E I r f L;subst F G J;let⟨M,Z⟩:=L;let⟨t,x,D⟩:=GO I M g
  have y:=x.length;rw[y]at f;refine wpAny_pyNext_dict_end (I.ok.hd j) f D (lN (by omega)) λC ext=>⟨rfl,?_⟩;exact I.turnedL (t':=s.toks) (ch:=[n]) r λc o j e=>ext c o (λz=>j (by rw[z];exact Re.mpr rfl)) e
 self:=λA i s Q E f h=>wpAny_pyIter_keyiter f h
def c9(c:TE):TI:=λe H R=>c e H λx b=>∃d o a,x=.ref d/\b d=P3 (.frz o (.dK a))/\R (fY d o a) b
theorem Xx{X:Cx}{e y:gj}{p:TE}(z:PE X e p):PI X y e (c9 p):=by
 intro A s B H R I h;refine thn (z A s B H _ I h) λu i ⟨x,r,g,C,d,o,f,ex,j,q⟩=>?_;subst ex;cases C;let⟨_,E,_⟩:=Gp g.hok (.inr ⟨o,j⟩)
 obtain⟨k,l,a⟩:∃k l,o.data=.dict k l:=by
  let⟨F,_,_,G,t,M,m,n,v,N,J,O⟩:=(show ObjOk X.prog X.w r i.heap d (.frz o (.dK f))from g.hok d _ j);rw[F]at v;cases v;exact⟨m,n,J⟩
 let⟨G,t,D⟩:=GO g j a
 have K:=t.length;refine wpAny_pyIter_dict E D ?_;refine⟨i.heap.objs.size,[i.heap.objs.size],_,fY d o f,r,rfl,g.kept (t':=i.toks) λb o e=>Ev _ e,TC d _ o f k l a,⟨_,XV _ rfl,rfl,by rw[K];rfl⟩,λc L=>?_,q⟩;rw[Re.mp L];exact g.fpOk (On _) (g.hok.fresh (On _))
end L2
namespace Dp
open L2
section
variable {X:Cx}{a tg:Expr}{zU:Kd}{wa:DW}
def Yv(wa:DW):D8:=λn c P=>wa n c λd e=>∃b f,d=.fdi b f/\(∀k∈b,N8 k)/\P (b.map XJ) e
theorem Yd(D:DE X a zU wa):DI X tg a (Yv wa):=by
 let⟨t,E,F⟩:=D;refine⟨_,Xx E,λC M H n G I P W R w q=>?_⟩;refine F C M H n G I _ _ R w λv l d J m r L p=>?_;let⟨b,s,rfl,f,p⟩:=p;have Y:=R.step m r;obtain⟨u,c,rfl,⟨o,N,z⟩,A,O⟩:∃a c,v=.ref a/\NdF M l a b c/\b.length=s.length/\Ats X.K M l s c:=L.tpOf R.dom R.vM;have Z:=O.length;refine⟨u,o,_,rfl,z,q _ _ _ J m r (λi M' Q S T=>?_) p⟩;have g:Q u=P3 (.frz o (.dK (b.zip c))):=(S.nd N z).2;have zl:(b.zip c).length=b.length:=by rw[mz];omega
 refine⟨λe h=>?_,λj=>⟨g,by rw[No]at j;omega⟩⟩;have k:i<b.length:=by have:=(ZB.mp h).1;rw[No]at this;exact this
 refine⟨⟨g,by omega⟩,λx H2 y=>?_⟩;let⟨rfl,pp,B,rfl⟩:=y
 have U:(b.zip c)[i]?=P3 (b[i],c[i]'(by omega)):=by
  rw[mR];exact⟨FM k,FM (by omega)⟩
 rw[U]at B;cases B
 have V:e=XJ b[i]:=by
  rw[gR,FM k]at h;exact(gW h).symm
 subst V;exists .refl;rw[WF];exact Wo (f _ (hV k))
def U2(wa:DW):DW:=λn e P=>wa n e λd f=>∃c b,d=.dic c b/\Cd b=q_/\P (.fdi c b) f
mutual
theorem At.frz{K:Frag}{M:Ch->Prop}{H:Hp}{a:Ch}{f:Ch->Obj}{kvs:s_ (Key×V)}(ha:H a=P3 (.dK kvs)):∀{d:D}{v:V},FF d=q_->At K M H d v->At K M (Ga H [a] f) d v
 |.non,v,_,h=>h
 |.bl b,v,_,h=>h
 |.int i,v,_,h=>h
 |.str x,v,_,h=>h
 |.tup ds,v,hn,h=>by
  let⟨b,vs,e,n2,hs⟩:=h;refine⟨b,vs,e,?_,Ats.frz ha hn hs⟩;unfold NdT at n2 ⊢;rw[Du λz=>by rw[Re.mp z,ha]at n2;cases n2];exact n2
 |.lst ds,v,hn,h=>by
  let⟨b,vs,e,⟨n1,n2⟩,hs⟩:=h;refine⟨b,vs,e,⟨n1,?_⟩,Ats.frz ha hn hs⟩;rw[Du λz=>by rw[Re.mp z,ha]at n2;cases n2];exact n2
 |.dic _ _,v,hn,h=>by cases hn
 |.fdi _ _,v,hn,h=>by cases hn
 |.dit _ _,v,hn,h=>by cases hn
theorem Ats.frz{K:Frag}{M:Ch->Prop}{H:Hp}{a:Ch}{f:Ch->Obj}{kvs:s_ (Key×V)}(ha:H a=P3 (.dK kvs)):∀{ds:s_ D}{vs:s_ V},Cd ds=q_->Ats K M H ds vs->Ats K M (Ga H [a] f) ds vs
 |[],vs,_,h=>h
 |d::ds,vs,hn,h=>by
  let⟨v,r,e,h1,h2⟩:=h;have hn:(FF d&&Cd ds)=q_:=hn;rw[gX]at hn;exact⟨v,r,e,At.frz ha hn.1 h1,Ats.frz ha hn.2 h2⟩
end
theorem Wn(A:DE X a .fr wa):DE X a .sh (U2 wa):=by
 let⟨t,B,D⟩:=A;refine⟨_,Vs B,λC M H n E F P Q R w q=>?_⟩;refine D C M H n E F _ _ R w λv u d G I J K p=>?_;let⟨L,N,rfl,l,p⟩:=p;let⟨b,rfl,x,O,j,S,T⟩:=K;refine⟨[b],λc U=>by rw[Re.mp U];exact⟨_,j⟩,λf=>?_⟩;have V:¬M b:=λz=>by let⟨o,w⟩:=R.dom b z;rw[x]at w;cases w
 have e:∀{c:Ch},c≠b->Ga u [b] f c=u c:=λh=>Du λz=>h (Re.mp z);refine q _ _ (.fdi L N) G (λc o y=>?_) ?_ ⟨b,O,rfl,⟨f b,V,OA (Re.mpr rfl) j⟩,S,Ats.frz j l ?_⟩ p
 ·have W:c≠b:=Ax y x
  let⟨Y,Z,k1⟩:=I c o y;exact⟨Y,by rw[e W];exact Z,k1⟩
 ·intro g hg
  let⟨m,k,i,r,h2,⟨n3,s⟩,h4⟩:=J g hg;exact⟨m,k,i,by rw[e λz=>by rw[z,j]at r;cases r];exact r,h2,⟨n3,by rw[e λz=>by rw[z,j]at s;cases s];exact s⟩,h4⟩
 ·exact T.pres (Pres.less (M':=M) λ_ z=>.inl z)
end
end Dp
namespace L2
open PySem.W
structure gN (prog:gi) (w:gn) (A:gw) (I d:Ch) (n:Nat) (base:gf) (key:Nat->Ch) (val:Nat->Db) (ch:Ch->Prop) (St:Nat->gf->Prop):Prop where
 new:∀b,ch b->base.get? b=p_
 item:∀(i:Nat) (s:Go) (Q:Option Db->Go->Prop) (E:Db->Go->Prop),i<n->St i s.heap->(∀b o,base.get? b=P3 o->s.heap.get? b=P3 o)->(∃o,s.heap.get? d=P3 o)->
  (∀h' tk a o c,h'.get? a=P3 o->o.cls=.type "tuple"->o.data=.seq #[.ref (key i),val i] c->St (i+1) h'->(∀b o,¬ch b->s.heap.get? b=P3 o->h'.get? b=P3 o)->Q (P3 (.ref a)) {s with heap:=h',toks:=tk})->wpAny (model prog w) A (pyNext (.ref I)) Q E s
 done:∀(s:Go) (Q:Option Db->Go->Prop) (E:Db->Go->Prop),St n s.heap->(∀b o,base.get? b=P3 o->s.heap.get? b=P3 o)->(∀h' tk,(∀b o,¬ch b->s.heap.get? b=P3 o->h'.get? b=P3 o)->Q p_ {s with heap:=h',toks:=tk})->wpAny (model prog w) A (pyNext (.ref I)) Q E s
 frame:∀i h h',St i h->kF d h h'->St i h'
 dch:¬ch d
end L2
namespace Dp
open L2
end Dp
namespace L2
end L2
namespace Dp
open L2
end Dp
namespace L2
end L2
namespace Dp
open L2
end Dp
namespace L2
end L2
namespace Dp
open L2
end Dp
namespace L2
end L2
namespace Dp
open L2
end Dp
namespace L2
end L2
namespace Dp
open L2
section
variable {X:Cx}{κ:Kd}{e:Expr}{pos p:Pos}{i:Nat}{x:Str}
def Uy(i:Nat)(w:Nat->s_ Slot->(D->Nat->Prop)->PX->Prop):Yq:=λb c n a=>w n a (λd e=>b.nx e (a.set i (.sh d))) c
theorem Sg{b:Kd}{w:Nat->s_ Slot->(D->Nat->Prop)->PX->Prop}{a:Pos}(c:X.N.Nodup)(f:X.N[i]?=P3 x)(g:Loc X.env.scope x)(h:eQ X e b w)(j:b≠.tp:=by intro z;cases z)(k:swapsWith e (P3 (.Name x a)) pos.line X.env=pure r_:=by rfl)
  (m:X.fn x=q_\/X.env.scope.names.lookup x=P3 .local:=by first|exact .inl rfl|exact .inr rfl|assumption):d6 X κ (.Assign [.Name x a] e pos) (Uy i w):=by
 let⟨t,o,q⟩:=h;refine⟨_,Xt c f g o k m,λC M H n s u J E R y r L l w=>?_⟩;exact q C M H n s u _ _ R y r l w λv A d B F G I p=>L.nx M A B _ _ ((r.step F G).set (I.shOf r.dom j)) p
end
section
variable {X:Cx}{κ:Kd}{tg iter:Expr}{src:D8}{body:s_ Stmt}{pos:Pos}{b:BW}{wb:AY}
theorem Sh{v:Fm->Prop}(I:∀C p,v C->v {C with zH:=p})(V:lL (model X.prog X.w) X.A X.env X.xe)(W:X.calm=q_)(P:DI X tg iter src)(Y:DG X tg b)(Z:QR v X κ body wb)
  (hs:∀x,foldedSetIterable iter X.env x=pure x:=by intro _;rfl):bq v X κ (.For tg iter body [] pos) (D9 src b wb):=by
 let⟨wi,a1,a2⟩:=P;let⟨g,g1,g2⟩:=Y;let⟨tb,b1,b2⟩:=Z;refine⟨_,K3 V W a1 g1 b1 hs,λC M H n Q σ h E hC R L w=>?_⟩;refine a2 C M H n Q σ _ _ R w λJ z a n1 e1 f1 y w1=>?_;have R1:=R.step e1 f1;exists λi m B j=>m=a.length - i/\i<=a.length/\∃c k o,Rel X.K {C with zH:=(M,z)::C.zH} c j k o B/\BP b wb h (a.drop i) k o,⟨a.length,by simp,Tk _,M,n1,Q,R1.pinned,w1⟩;rintro i m B j ⟨rfl,P,c,k,o,l,D⟩;have S:Pres M z c j:=l.pin (M,z) Op
 by_cases d:i<a.length
 ·have ed:a.drop i=a[i]::a.drop (i+1):=ic d
  rw[ed]at D;let⟨go,yl⟩:=(y i c j S l.dom).1 a[i] (FM d);refine .inr ⟨go,λT H2=>∃M2 F G,Rel X.K {C with zH:=(M,z)::C.zH} M2 H2 F G T/\BP b wb h (a.drop (i+1)) F G,λT H2 ⟨M2,F,G,f,w2⟩=>⟨a.length - (i+1),by omega,rfl,d,M2,F,G,f,w2⟩,λx H2 hy=>?_⟩;let⟨U,hx⟩:=yl x H2 hy;have f:=l.step U.ext (l.feed.grow U);refine g2 _ c H2 k o B a[i] x _ _ f hx D λzN zV R3 w3=>?_;refine b2 _ c H2 k zN zV {h with nx:=BP b wb h (a.drop (i+1)),ct:=BP b wb h (a.drop (i+1)),bk:=h.nx} _ (I C _ hC) R3 ⟨λq N r s O t u=>⟨q,r,s,t,u⟩,L.rt,λq N r s O t u=>L.nx q N r s O t.unpin u,λq N r s O t u=>⟨q,r,s,t,u⟩⟩ w3
 ·have e:i=a.length:=by omega
  subst e;rw[jr]at D;exact .inl ⟨(y _ c j S l.dom).2 (On _),L.nx c j k o B l.unpin D⟩
end
end Dp
namespace L2
section
variable {X:Cx}{a b:Expr}{te:ZV}{tb:TE}{pos np:Pos}{x nm:Str}{b₀:Stmt}{suite:s_ Stmt}{rest:s_ ExceptHandler}{Dc U:Addr}{th:TH}{ts:Addr->TS}
def ef(r:R2)(te:ZV)(tb:TE):ZV:=λR c H Q=>te R c H λx d=>tb c d λy H2=>r x y H2 Q
theorem Vo{c:CmpOp}{r:R2}(e:OpR X (compareOp c) r)(f:df X a te)(g:PE X b tb)(i:behindInMarks c b=r_):df X (.Compare a [c] [b] pos) (ef r te tb):=λw s d H Q R I h=>
 wpAny_Compare1 (thn (f _ s d H _ R I h) λv j ⟨x,k,l,m,n⟩=>thn (be (g _ j d k _ l n)) λu o ⟨y,H2,p,q,t⟩=>be (e _ o d H2 x y v u Q p m q t)) i
def Zn(K:Frag)(Dc:Ch)(ts:Ch->TS)(th:TH):TH:=λD C d c H=>∃nm U,XC K nm C U/\((C=Dc\/U=Dc)/\(∀a,ts a D c H)\/C≠Dc/\U≠Dc/\th D C d c H)
theorem Vm(y:Gl X x)(E:X.mg x=P3 (.ref Dc))(F:bp X.K Dc)(G:X.stack=X.env::X.outer)(L:X.env.frame=P3 X.env.locals)
  (M:∀a,PSs (X.hush (X.A.mark (P3 (.ref a)))) (b₀::suite) (ts a)) (d:PH X rest th) (O:(x==("__debug__":Str))=r_:=by decide):
  PH X (.ExceptHandler (P3 (.Name x np)) p_ (b₀::suite) pos::rest) (Zn X.K Dc ts th):=by
 intro p r D a C P B Q R H s I c h;let⟨nm,U,S,h⟩:=h;have J:=c.inv I;have l:(X.A.mark (P3 (.ref a))).frames=P3 X.stack:=I.ok.frames;have T:=J.hush l;refine wpAny_handleBy_cons (codeAny_handlers_test ?_) (by intro q;cases q);refine GK (X:=X.hush (X.A.mark (P3 (.ref a)))) T y E ?_ O;let⟨V,q',N',W,Y,Z,a0,t,a1,w,a2,l0,l1,l2,l3,l5,eD,hB⟩:=F;let⟨q,N,bs,sn,a3,ab,a4,dd,k0,k1,k2,k3,k5,eC⟩:=S.obj;let⟨vs,sl,tb,hx,h2,h1,hT⟩:=c.fly.obj;let⟨hh,g,dr,tk,os⟩:=s;refine UU (J.kIn _ _ eC) (J.kIn _ _ eD) hB hx rfl ?_;rw[QA]
 rcases h with⟨n,h⟩|⟨n1,n2,h⟩
 ·have e:(decide (C=Dc)||decide (U=Dc))=q_:=by rcases n with z|z <;>simp[z]
  rw[e];refine codeAny_handlers_suite ?_;refine HJ (s:=⟨hh,g,dr,tk,os⟩) c.fly λh' f' u'=>?_;have c2:=c.step f' u';have J2:=c2.inv I;have o:=M a p _ r H _ (J2.hush l) (h a);refine g9 o (λf s5 m=>?_) λe s5 z=>z.elim;cases f with
  |next=>
   let⟨i,j,k,q⟩:=m;exact⟨i,j,k.unhush I.ok,q⟩
  |brk=>
   let⟨i,j,k,q⟩:=m;exact⟨i,j,k.unhush I.ok,q⟩
  |cont=>
   let⟨i,j,k,q⟩:=m;exact⟨i,j,k.unhush I.ok,q⟩
  |ret u=>
   let⟨v,i,j,k,rv,q⟩:=m;exact⟨v,i,j,k.unhush I.ok,rv,q⟩
 ·have e:(decide (C=Dc)||decide (U=Dc))=r_:=by simp[n1,n2]
  rw[e];exact d p r D a C P B Q R H _ I c h
end
end L2
namespace Dp
open L2
section
variable {X:Cx}{κ zL:Kd}{a b:Expr}{pos np:Pos}{wb:DW}
def Zf(f:D->D->(D->Prop)->Prop)(w:Nat->s_ Slot->(D->Nat->Prop)->PX->Prop)(wb:DW):Nat->s_ Slot->(D->Nat->Prop)->PX->Prop:=λn c P g=>w n c (λd h=>wb h c λe i=>f d e λz=>P z i) g
theorem Sk{h:CmpOp}{r:R2}{f:D->D->(D->Prop)->Prop}{w:Nat->s_ Slot->(D->Nat->Prop)->PX->Prop}(s:OpR X (compareOp h) r)(x:GW X.K .sh r f)(A:eQ X a .sh w)(B:DE X b zL wb)(E:behindInMarks h b=r_):eQ X (.Compare a [h] [b] pos) .sh (Zf f w wb):=by
 let⟨t,F,G⟩:=A;let⟨tb,I,J⟩:=B;refine⟨_,Vo s F I E,λC M H n j k P Q R L c l w q=>?_⟩;refine G C M H n j k _ _ R L c l w λv N d O i S T p=>?_;have e:=c.step i S;refine J C M N O j k _ _ e p λu H2 U V g m W Y=>?_;have R2:=e.step g m;exact x _ M H2 d U v u _ _ R2.dom R2.vM ((T.tpOf c.dom c.vM).pres (e.pres g) g c.uV) (W.tpOf e.dom e.vM) Y λz Z y o r3 p3=>q z Z y V ((i.trans g).trans o.ext) (m.grow o) (VR.back (i.trans g) r3) p3
def QW(c:Str)(g:Ch->AY)(h:bZ):bZ:=λd e i j n f=>if e=c\/c="ThinError" then ∀a,g a d n f else h d e i j n f
theorem Wi{f:Str}{g:gm}{d:s_ gm}{l:s_ kU}{m:Ch}{p:Ch->AY}{D:bZ}(J:Gl X f)(N:X.mg f=P3 (.ref m))(F:nsIn X.K mainGlobals f=P3 (P3 (.ref m)))
  (s:f="ThinError"/\bp X.K m\/f ≠ "ThinError"/\∃U,XC X.K f m U) (u:X.stack=X.env::X.outer) (v:X.env.frame=P3 X.env.locals)
  (x:∀a,QU (X.hush (X.A.mark (P3 (.ref a)))) κ (g::d) (p a)) (O:DH X κ l D) (P:(f==("__debug__":Str))=r_:=by decide):
  DH X κ (.ExceptHandler (P3 (.Name f np)) p_ (g::d) pos::l) (QW f p D):=by
 let⟨th,Q,R⟩:=O;have y:∀a,∃t,PSs (X.hush (X.A.mark (P3 (.ref a)))) (g::d) t/\∀(C:Fm) (M:Ch->Prop) (H:Hp) (n:Nat) (i:s_ Slot) (j:L2.St) (k:E2) (E:Ends),Rel X.K C M H n i j->GF X.K C κ k E->p a k n i->t E j H:=x;refine⟨_,Vm (ts:=λa=>(y a).choose) J N (s.elim (λz=>z.2) fun⟨_,U,c⟩=>c.isX) u v (λa=>(y a).choose_spec.1) Q P,λC M H n i j k E o S G T V W Y r L h xd B l w=>⟨o,G,h,?_⟩⟩;unfold QW at w
 by_cases e:o=f\/f="ThinError"
 ·rw[if_pos e]at w
  refine .inl ⟨?_,λa=>(y a).choose_spec.2 C M H n i j k E r L (w a)⟩
  rcases s with⟨z,_⟩|⟨z,U,c⟩
  ·subst z
   have q:=h.atU.symm.trans F;cases q;exact .inr rfl
  ·rcases e with e|e
   ·subst e
    have q:=h.at_.symm.trans F;cases q;exact .inl rfl
   ·exact absurd e z
 ·rw[if_neg e]at w
  have Z:o≠f:=λz=>e (.inl z);have I:f ≠ "ThinError":=λz=>e (.inr z)
  rcases s with⟨z,_⟩|⟨_,U,c⟩
  ·exact absurd z I
  ·refine .inr ⟨λz=>?_,λz=>?_,R C M H n i j k E o S G T V W Y r L h xd B l w⟩
   ·subst z
    exact Z (h.name c)
   ·subst z
    exact I (h.nameU c)
end
section
variable {X:Cx}{zT:Kd}{tg elt iter:Expr}{ifs:s_ Expr}{sc:Scope}{pos:Pos}{src:D8}{b:BW}{tt:Gg}{te:DW}
theorem Wf{r:Kd}{i:Nat}{x:Str}{c e:Pos}(t:X.N.Nodup)(k:X.N[i]?=P3 x)(u:Loc X.env.scope x)(m:X.calm=q_)(f:s_ Str)(j:s_ (t_ Nat))(y:ZX X tg iter src)(A:∀g C s H h,DG (A8 X sc f g C s H h) tg b)(B:∀g C s H h,ba (A8 X sc f g C s H h) ifs tt)(D:∀g C s H h,DE (A8 X sc f g C s H h) elt zT te)
  (o:IF sc X.env.scope X.N f j=q_) (l:swapsWith (.ListComp elt [⟨tg,iter,ifs,0⟩] sc pos) (P3 (.Name x c)) e.line X.env=pure q_:=by rfl) (F:zT≠.tp:=by intro z;cases z)
  (q:∀x,foldedSetIterable iter X.env x=pure x:=by intro _;rfl)
  (G:X.fn x=q_\/X.env.scope.names.lookup x=P3 .local:=by first|exact .inl rfl|exact .inr rfl|assumption):DS X r (.Assign [.Name x c] (.ListComp elt [⟨tg,iter,ifs,0⟩] sc pos) e) (C3 i (Bp j src b tt te)):=by
 let⟨Y,I,J⟩:=QB m f j y A B D o F q;refine⟨_,R6 m f j I o t k u l q G,λC M H n K O Z E R L w=>?_⟩;refine J C M H n K O _ _ R w λv P d Q S T U p=>?_;let⟨a,rfl,V,W⟩:=U;exact L.nx _ P Q _ _ (R.setOw S T V W) p
end
abbrev Fu(K:Frag)(x:Str)(a:gm)(f:Ch)(fd:hU):Prop:=Fun K x x a f fd
theorem EZ{P:gi}{w:gn}{K:Frag}{j:Str->t_ Db}{a:gf}{x:Str}{c:gm}{f:Ch}{fd:hU}{N d:s_ Str}{k:Nat}{g:Kd}{W:W2}{l:AY}(F:Fu K x c f fd)(S:Ac N d (AM c))
  (m:∀{e:Db}{A:gw}{b:s_ Env}{s:Go}{H:Hp}{E:XK},Room k (A.deeper (envOfC x (AM c) s.heap.objs.size f e))->QU (HN CA P w K j a N x (AM c) f e A b s H E).nox g (Bl c) l)
  (o:∀{ss n Pd},W ss n Pd->l {nx:=λn _=>g=.sh/\Pd .non n,rt:=Pd} n (ss++Uf (N.length - d.length) .no)) (i:d.length<=N.length:=by decide):
  A3 P w K j a CA (k+1) f fd d (DC K g W d.length):=fL F S i (λ_ _ _ _ _ _ h=>m h) (λ_ _ _ _ h=>o h)
section
variable {X:Cx}
theorem cg{m:Nat}(g:Room m X.A){e:gj}{a:s_ gj}{k:Nat}{h:s_ Str}{f:Kd}{W:W2}{x:Str}{p pos:Pos}{b:XN}(G:Got X.prog X.w X.K X.mg X.base x k h f W)(i:bd X (e::a) b)(j:k<=m:=by decide)(l:Gl X x:=by rfl)
  (c:(x==("__debug__":Str))=r_:=by decide) (n:starEach (e::a) X.env=(r_,eval e X.env)::starEach a X.env:=by rfl) (d:(backTo pos (starEach a X.env)).any (·.1)=r_:=by rfl):DE X (.Call (.Name x p) (e::a) [] pos) f (AQ W b):=BI G (g.mono j) l i c n d
variable {tg iter elt:Expr}{ifs:s_ Expr}{sc:Scope}{pos:Pos}{b:BW}{tt:Gg}{te:DW}{zT:Kd}{src:D8}
theorem QT(a:s_ Str)(c:s_ (t_ Nat))(d:ZX X tg iter src)(e:∀{cl C s H fp},DG (A8 X sc a cl C s H fp) tg b)(f:∀{cl C s H fp},ba (A8 X sc a cl C s H fp) ifs tt)(g:∀{cl C s H fp},DE (A8 X sc a cl C s H fp) elt zT te)
  (h:IF sc X.env.scope X.N a c=q_) (i:X.calm=q_:=by rfl) (j:zT≠.tp:=by intro z;cases z) (k:∀x,foldedSetIterable iter X.env x=pure x:=by intro _;rfl):DE X (.ListComp elt [⟨tg,iter,ifs,0⟩] sc pos) .fr (Bp c src b tt te):=Sm i a c d (λ_ _ _ _ _=>e) (λ_ _ _ _ _=>f) (λ_ _ _ _ _=>g) h j k
end
end Dp
namespace K15
open L2 Dp Nt
def top(i:Nat):gm:=PySem.Challenge.pw_thinnet_k15_whole_every_way_within.main.body.getD i (.Pass ⟨0,0,0,0⟩)
def c6(s:gm):gm:=match s with
 |.ClassDef _ _ _ b _ _ _ _ _ _ _=>b.getD 0 (.Pass ⟨0,0,0,0⟩)
 |_=>.Pass ⟨0,0,0,0⟩
abbrev G9:gm:=top 4
abbrev EK:gm:=top 5
abbrev FX:gm:=top 6
abbrev Iu:gm:=top 7
abbrev G6:gm:=top 8
abbrev G5:gm:=top 9
abbrev Qj:gm:=top 10
abbrev FW:gm:=top 11
abbrev Iv:gm:=top 12
abbrev G_:gm:=top 13
abbrev G8:gm:=top 14
abbrev FU:gm:=top 16
abbrev Cs:gm:=top 17
abbrev Et:gm:=top 18
abbrev Eu:gm:=top 19
abbrev Kt:gm:=top 20
abbrev Ew:gm:=top 22
abbrev FS:gm:=top 23
abbrev Iw:gm:=top 24
abbrev EI:gm:=top 25
abbrev FV:gm:=top 27
abbrev Dk:gm:=top 28
abbrev G7:gm:=top 29
abbrev Ir:gm:=top 30
abbrev Dl:gm:=top 31
abbrev Es:gm:=top 32
abbrev FR:gm:=top 34
abbrev Di:gm:=top 35
abbrev Dn:gm:=top 36
abbrev CY:gm:=top 37
abbrev EJ:gm:=top 38
abbrev FT:gm:=top 39
abbrev FZ:gm:=top 41
abbrev EB:gm:=top 42
abbrev EM:gm:=top 43
abbrev EN:gm:=top 44
abbrev HB:gm:=top 45
abbrev Ex:gm:=top 46
abbrev DF:gm:=top 47
abbrev Ez:gm:=top 48
abbrev Do:gm:=top 49
abbrev HA:gm:=top 50
abbrev Fa:gm:=top 51
abbrev Ct:gm:=top 52
abbrev FY:gm:=top 53
abbrev EL:gm:=top 54
abbrev Ey:gm:=top 55
abbrev DD:gm:=top 56
abbrev Ku:gm:=top 57
abbrev B4:gm:=c6 (top 2)
structure Txt (K:Frag) (mg:Str->Option Db):Prop where
 Gap:mg "abs"=p_
 Gag:mg "all"=p_
 Gao:mg "bool"=p_
 Gah:mg "enumerate"=p_
 Gai:mg "int"=p_
 Gaa:mg "isinstance"=p_
 Gac:mg "len"=p_
 Gaf:mg "list"=p_
 Gal:mg "min"=p_
 Gad:mg "range"=p_
 Gak:mg "repr"=p_
 Gaj:mg "reversed"=p_
 Gae:mg "sorted"=p_
 Gam:mg "str"=p_
 Gab:mg "tuple"=p_
 Gan:mg "zip"=p_
 x_NoPaper:∃C U,XC K "NoPaper" C U/\mg "NoPaper"=P3 (.ref C)
 x_ThinError:∃U,bp K U/\mg "ThinError"=P3 (.ref U)/\nsIn K mainGlobals "ThinError"=P3 (P3 (.ref U))
section
variable {P:Program}{w:World}{K:Frag}{mg:Str->t_ Value}{base:Heap}
theorem nt:Ac ["_law_feed_here","_law_many","_law_digit","_law_at","_law_cell","_law_first"] ["_law_feed_here","_law_many"] (AM EB):=⟨rfl,rfl,rfl,by decide +kernel,rfl,by decide +kernel,by decide +kernel⟩
theorem X5{f:Ch}{fd:hU}(F:Fun K "_law_next" "_law_next" EB f fd)(ml:mg "len"=p_):A3 P w K mg base CA 1 f fd ["_law_feed_here","_law_many"] (DC K .sh BG 2):=by
 refine F.ok nt (λvs H Q E h=>h.1) (λa0 A a1 s H vs Q E hr h=>?_);let⟨hl,F0,U,V',M,n,ss,Pd,ra,⟨m,rfl,a8,S,hn,hP⟩,q⟩:=h;let⟨a9,fU,uV,vM,a2,T⟩:=ra;cases T with
 |cons r1 T=>
 cases T with
 |cons r2 T=>
 cases T;let⟨⟨d,c⟩,e0,hF⟩:=r1.1;cases e0;let⟨v2,e2,Z⟩:=r2.1;cases e2;cases(show _=V.int m from Z);let⟨a,r,u,J,L,hc,a3,a4,b0⟩:=a2 (d,c) hF
 have N:∀(W r' z:Int) (y:Hp),(∀b o,H b=P3 o->b≠d->y b=P3 o)->y d=P3 (.lst [.ref c,.int W,.int r'])->0<=W->W<=a+1->0<=z->z<m->Q (.int z) y:=by
  intro W r' z y hk X h0 h1 a5 a6;refine q (.int z) y (.int z) (n - 1) (λb o e=>?_) (λg hg=>?_) rfl (hP z a5 a6)
  ·by_cases v:b=d
   ·subst v
    exact⟨_,X,λnu=>absurd (fU (b,c) hF) nu,λvs z=>by rw[z,J]at e;cases e⟩
   ·exact⟨o,hk b o e v,λ_=>rfl,λ_ _=>rfl⟩
  ·have:g=(d,c):=gW (hg.symm.trans hF)
   subst this;exact⟨W,r',u,X,L,⟨hc.1,hk c _ hc.2 L⟩,a3,h0,by omega⟩
 have hu:(A.deeper (envOfC "_law_next" (AM EB) s.heap.objs.size f a0)).units<cLine:=hr.units0;have l:∀{y:Hp}{xs:s_ V},y d=P3 (.lst xs)->SqL K y d xs:=λh=>SqL.of h;have R:∀z:Int,0<=z % m/\z % m<m:=λz=>⟨Int.emod_nonneg _ (by omega),Int.emod_lt_of_pos _ (by omega)⟩
 exists _,BD (MZ (Hk ZC (DQ ix_list (pv 0) A1 (λ_ _=>rfl)) A1 (Ah _))
   (BD (E4 (i:=2) nt.nd rfl (T0 rfl) (B5 EO (DQ ix_list (pv 0) A1 (λ_ _=>rfl)) (pv 1)))
   (BD (Nh (B5 KI (DQ ix_list (pv 0) A1 (λ_ _=>rfl)) (pv 1)) (Qx (pv 0) A1 set_list))
   (CL (HD (pv 2))))) Hl)
  (BD (E4 (i:=3) nt.nd rfl (T0 rfl) (DQ ix_list (pv 0) A1 (λ_ _=>rfl)))
  (BD (Nh (B5 op_add (pv 3) A1) (Qx (pv 0) A1 set_list))
  (BD (E4 (i:=4) nt.nd rfl (T0 rfl) (PK (Hk (Tu hu) (DQ ix_list (pv 0) A1 (λ_ _=>rfl)) (Iz B6) (Ah _))
   (DQ ix_list (DQ ix_list (pv 0) A1 (λ_ _=>rfl)) (B5 EO (pv 3) (Fc BM rfl ml PySem.boot_len (BF (DQ ix_list (pv 0) A1 (λ_ _=>rfl)) B6))) (λ_ _=>rfl)) A1))
  (BD (MZ (PW.pt (Vb (Hk ZD (pv 4) (B5 Fg A1 A1) (Ah _)) (Rx (Hk op_lt (pv 3) (Fc BM rfl ml PySem.boot_len (BF (DQ ix_list (pv 0) A1 (λ_ _=>rfl)) B6)) (Ah _)))))
   (BD (Nh (B5 KI (pv 4) (pv 1)) (Qx (pv 0) A1 set_list))
   (CL (HD (B5 EO (pv 4) (pv 1))))) Hl)
  (BD (E4 (i:=5) nt.nd rfl (T0 rfl) (B5 EO (B5 op_mul (B5 op_add (B5 op_add (B5 op_add (B5 EO (pv 4) A1) (B5 op_mul (B5 op_mul A1 (pv 3)) (pv 3))) (B5 op_mul A1 (pv 3))) A1) A1) A1))
  (CL (HD (B5 EO (B5 KI (B5 EO (B5 op_mul (B5 op_add (pv 5) (B5 op_mul A1 (pv 3))) A1) A1) A1) (pv 1)))))))))
 exists _,rfl,d,_,2,_,rfl,rfl,l J,rfl,_,_,rfl,rfl,_,rfl;refine CB (λc1=>?_) (λc1=>?_)
 ·exists _,rfl,d,_,2,_,rfl,rfl,l J,rfl,_,rfl,_,_,rfl,rfl,(by show(0:Int)<m;omega)
  exists _,rfl,d,_,2,_,rfl,rfl,l J,rfl,_,rfl,_,_,rfl,rfl,⟨(by show(0:Int)<m;omega),S⟩,_,rfl,d,_,2,2,rfl,rfl,J,rfl;exists _,rfl;exact N a _ _ _ (λb o e v=>by rw[AT v];exact e) AX a4 (by omega) (R _).1 (R _).2
 ·-- at=feed[1];feed[1]=at+1
  exists _,rfl,d,_,1,_,rfl,rfl,l J,rfl;exists _,rfl,_,_,rfl,rfl,_,rfl,d,_,1,1,rfl,rfl,J,rfl;generalize Y:A2 H d (.lst ([V.ref c,V.int a,V.int r].set 1 (V.int (a+1))))=H1;have f1:H1 d=P3 (.lst [.ref c,.int (a+1),.int r]):=by rw[←Y];exact AX
  have k1:∀b o,H b=P3 o->b≠d->H1 b=P3 o:=λb o e v=>by rw[←Y,AT v];exact e
  have B:H1 c=P3 (.lst (u.map V.int)):=k1 c _ hc.2 L
  have D:∀(z:Int) (H2:Hp),(∀b o,H1 b=P3 o->H2 b=P3 o)->
    (TL (cC (cH (VA (Ec (JX λi j=>V.bl (decide (j<=i))) (B3 4) (Ec (rI ML λi j=>V.int (i ^ j.toNat)) (tC (V.int 10)) (tC (V.int 18))))) (VA (Ec (JX λi j=>V.bl (decide (i<j))) (B3 3) (d_ (λxs H Q=>∃x n,xs=[x]/\bW K x H n/\Q (V.int n) H) (Ro (Ec (Z1 K) (B3 0) (tC (V.int 0))) Xi))))) (TL (Ow (Ec (rI XG λi j=>V.int (i / j)) (B3 4) (B3 1)) (dC (B3 0) (tC (V.int 2)) Y4)) (Xe (Ec (rI (λ_ j=>0<j) λi j=>V.int (i % j)) (B3 4) (B3 1)))) Yx) (TL (Ow (Ec (rI (λ_ j=>0<j) λi j=>V.int (i % j)) (Ec (rI CMul λi j=>V.int (i*j)) (Ec (JX λi j=>V.int (i+j)) (Ec (JX λi j=>V.int (i+j)) (Ec (JX λi j=>V.int (i+j)) (Ec (rI (λ_ j=>0<j) λi j=>V.int (i % j)) (B3 4) (tC (V.int 1000003))) (Ec (rI CMul λi j=>V.int (i*j)) (Ec (rI CMul λi j=>V.int (i*j)) (tC (V.int 41)) (B3 3)) (B3 3))) (Ec (rI CMul λi j=>V.int (i*j)) (tC (V.int 17)) (B3 3))) (tC (V.int 3))) (tC (V.int 51749))) (tC (V.int 999917))) (Je 5)) (Xe (Ec (rI (λ_ j=>0<j) λi j=>V.int (i % j)) (Ec (rI XG λi j=>V.int (i / j)) (Ec (rI (λ_ j=>0<j) λi j=>V.int (i % j)) (Ec (rI CMul λi j=>V.int (i*j)) (Ec (JX λi j=>V.int (i+j)) (B3 5) (Ec (rI CMul λi j=>V.int (i*j)) (tC (V.int 8111)) (B3 3))) (tC (V.int 39373))) (tC (V.int 2097143))) (tC (V.int 3))) (B3 1)))))
     {nx:=λ_ y=>Q .non y,rt:=Q} [P3 (.ref d),P3 (.int m),p_,P3 (.int a),P3 (.int z),p_] H2:=by
   intro z H2 k2;have f2:=k2 _ _ f1;have c2:=k2 _ _ B
   have t:∀H3:Hp,H3=H2->(TL (Ow (Ec (rI (λ_ j=>0<j) λi j=>V.int (i % j)) (Ec (rI CMul λi j=>V.int (i*j)) (Ec (JX λi j=>V.int (i+j)) (Ec (JX λi j=>V.int (i+j)) (Ec (JX λi j=>V.int (i+j)) (Ec (rI (λ_ j=>0<j) λi j=>V.int (i % j)) (B3 4) (tC (V.int 1000003))) (Ec (rI CMul λi j=>V.int (i*j)) (Ec (rI CMul λi j=>V.int (i*j)) (tC (V.int 41)) (B3 3)) (B3 3))) (Ec (rI CMul λi j=>V.int (i*j)) (tC (V.int 17)) (B3 3))) (tC (V.int 3))) (tC (V.int 51749))) (tC (V.int 999917))) (Je 5)) (Xe (Ec (rI (λ_ j=>0<j) λi j=>V.int (i % j)) (Ec (rI XG λi j=>V.int (i / j)) (Ec (rI (λ_ j=>0<j) λi j=>V.int (i % j)) (Ec (rI CMul λi j=>V.int (i*j)) (Ec (JX λi j=>V.int (i+j)) (B3 5) (Ec (rI CMul λi j=>V.int (i*j)) (tC (V.int 8111)) (B3 3))) (tC (V.int 39373))) (tC (V.int 2097143))) (tC (V.int 3))) (B3 1))))
     {nx:=λ_ y=>Q .non y,rt:=Q} [P3 (.ref d),P3 (.int m),p_,P3 (.int a),P3 (.int z),p_] H3:=by
    intro H3 e3;subst e3;have v:CMul (41*a) a:=.inr ⟨by omega,by omega⟩;exists _,rfl,_,_,rfl,rfl,(by show(0:Int)<1000003;decide),_,rfl,_,_,rfl,rfl,.inl ⟨by decide,by decide⟩,_,rfl,_,_,rfl,rfl,v,_,_,rfl,rfl,_,rfl,_,_,rfl,rfl,.inl ⟨by decide,by decide⟩,_,_,rfl,rfl,_,_,rfl,rfl,_,_,rfl,rfl,.inr ⟨by decide,by decide⟩,_,_,rfl,rfl,(by show(0:Int)<999917;decide);exists _,rfl,_,rfl,_,_,rfl,rfl,.inl ⟨by decide,by decide⟩,_,_,rfl,rfl,_,_,rfl,rfl,.inr ⟨by decide,by decide⟩,_,_,rfl,rfl,(by show(0:Int)<2097143;decide),_,_,rfl,rfl,⟨by decide,by decide⟩,_,rfl,_,_,rfl,rfl,(by show(0:Int)<m;omega);exact N (a+1) r _ _ (λb o e v=>k2 b o (k1 b o e v)) f2 (by omega) (by omega) (R _).1 (R _).2
   exists _,rfl,_,_,rfl,rfl,⟨by decide,by decide,by decide⟩,_,_,rfl,rfl,_,rfl;refine CB (λc3=>?_) (λc3=>?_)
   ·exists _,rfl,_,rfl,d,_,0,_,rfl,rfl,l f2,rfl,_,_,rfl,.inl ⟨_,SqL.of c2,rfl⟩,_,_,rfl,rfl,_,rfl
    refine CB (λc4=>?_) (λc4=>t H2 rfl);exists _,rfl,_,rfl,_,_,rfl,rfl,⟨(by show(0:Int)<m;omega),S⟩,_,rfl,d,_,2,2,rfl,rfl,f2,rfl;exists _,rfl,_,rfl,_,_,rfl,rfl,(by show(0:Int)<m;omega);exact N (a+1) _ _ _ (λb o e v=>by rw[AT v];exact k2 b o (k1 b o e v)) AX (by omega) (by omega) (R _).1 (R _).2
   ·refine CB (λc4=>absurd c4 (by simp)) (λ_=>t H2 rfl)
  refine⟨_,rfl,d,_,0,_,rfl,rfl,l f1,rfl,(by show 0<=sizeLine;decide),λp hp=>?_⟩;have O:∀b o,H1 b=P3 o->A2 H1 p (.lst []) b=P3 o:=λb o e=>by rw[AT (Ax e hp)];exact e
  exists c,p,_,rfl,rfl,SqL.of (O _ _ B),SqL.of AX,_,rfl;cases u with
  |nil=>exact CS (D 0 _ O)
  | cons G C=>
   refine CQ ?_;have a7:(((G::C).map V.int).length:Int)=(C.length:Int)+1:=by simp
   have I:(0:Int)<(((G::C).map V.int).length:Int):=by omega
   obtain⟨z,hz⟩:∃z,atI ((G::C).map V.int) (a % (((G::C).map V.int).length:Int))=P3 (.int z):=by
    have h1:=Int.emod_nonneg a (show(((G::C).map V.int).length:Int)≠0 by omega);have Z:=Int.emod_lt_of_pos a I;generalize a % (((G::C).map V.int).length:Int)=j at h1 Z;obtain⟨k,rfl⟩:∃k:Nat,j=(k:Int):=⟨j.toNat,by omega⟩;have hk:k<(G::C).length:=by rw[No]at Z;omega
    refine⟨(G::C)[k],AL ?_⟩;rw[gR,FM hk];rfl
   exists _,rfl,d,_,0,_,rfl,rfl,l (O _ _ f1),rfl,_,rfl,_,rfl,d,_,0,_,rfl,rfl,l (O _ _ f1),rfl,_,_,rfl,.inl ⟨_,SqL.of (O _ _ B),rfl⟩,_,_,rfl,rfl,I,c,_,_,_,rfl,rfl,SqL.of (O _ _ B),hz;exact D z _ O
end
end K15
namespace Nt
open L2 Dp
abbrev EE(a:D->Nat->Prop):E2:={nx:=λn _=>Kd.sh=.sh/\a .non n,rt:=a}
theorem Bn{b:BW}{k:DW}{P:s_ D->Nat->Prop}(g:D->D)(I:s_ Slot->Prop):∀(e a:s_ D) (n:Nat) (c:s_ Slot),
  (∀d∈e,∀(c:s_ Slot) (n:Nat) (l:D->Nat->s_ Slot->Prop),I c->(∀i,I i->l (g d) n i)->b d c λm=>k n m λy p=>l y p m)->I c->P (a++e.map g) n->C5 b DB k P e a n c
 |[],a,n,c,_,_,h=>by rw[mZ,gq]at h;exact h
 |d::e,a,n,c,o,j,h=>o d Op c n _ j λi f=>
  Bn g I e _ n _ (λd q=>o d (Rs _ q)) f (by simp_all)
theorem LX{b:Type}{l:s_ b}{p:b->Bool}{P:D->Prop}(h:P (.bl (l.all p))):OE [.lst (l.map λa=>.bl (p a))] P:=
 ⟨_,_,rfl,F2 p l,by simp_all⟩
theorem RW{b1 b2:Bool}{P:D->Nat->Prop}{n:Nat}{k:(D->Nat->Prop)->Prop}(a:b1=q_->P (.bl b2) n->k P)(h:P (.bl (b1&&b2)) n):(match (.bl b1:D)with|.bl q_=>k P|.bl r_=>P (.bl r_) n|_=>False):=Wu a h
abbrev Wb(g:D->Bool):W2:=ZA 1 λa=>.bl (g (a.getD 0 .non))
theorem Wb.out{g:D->Bool}{a:s_ Slot}{n:Nat}{P:D->Nat->Prop}(h:Wb g a n P):∃d,a=[.sh d]/\P (.bl (g d)) n:=by
 let⟨b,c,rfl,h⟩:=h
 match b,c with
 |[d],_=>simp_all
def Uv:D->Bool
 |.int _=>q_
 |_=>r_
def tupleOfB(k:Int):D->Bool
 |.tup a=>((a.length:Int)==k)
 |_=>r_
def XI(d e:D):t_ Bool:=match d,e with
 |.int i,.int j=>P3 (decide (i<j))
 |.str i,.str j=>P3 (decide (cs i<cs j))
 |.tup c,.tup f=>match Jb c,Jb f with
  |some a,P3 b=>if CO a b then P3 (GY a b)else p_
  |_,_=>p_
 |_,_=>p_
theorem YQ{d e:D}{b:Bool}{P:D->Prop}(h:XI d e=P3 b)(p:P (.bl b)):Fn d e P:=by
 unfold XI at h
 split at h
 ·cases h;exact p
 ·cases h;exact p
 ·split at h
  ·rename_i a c f g
   split at h
   ·rename_i i
    cases h;exact⟨a,c,f,g,i,p⟩
   ·cases h
  ·cases h
 ·cases h
def Yk:s_ D->Bool
 |x::y::r=>(XI x y==P3 q_)&&Yk (y::r)
 |_=>q_
abbrev Lx:W2:=Wb Uv
abbrev C_:W2:=λa n P=>∃k d,a=[.sh (.int k),.sh d]/\P (.bl (tupleOfB k d)) n
abbrev KS:W2:=λc n P=>∃d a,c=[.sh d]/\Ip d=P3 a/\a.length<=1000/\(∀x∈a,∀y∈a,∃b,XI x y=P3 b)/\P (.bl (Yk a)) n
def RT:AY:=(Au (NJ (NI "int" (AC 0)) (bw (NI "bool" (AC 0)))))
def MJ:AY:=(Au (NJ (NI "tuple" (AC 1)) (AV (HL r_) (Cp Gb (AF (AC 1) AU)) (AC 0))))
def QM:AY:=(Au (Cp OE (AF (Bp [p_,p_] (XY (AF (AC 0) (AF (MO ER (AC 0) (Bx (wC (D.int 1))) Bj) AU))) (E_ 2 (As (Ae 0) (As (Ae 1) Ck))) DB (AV Fn (AC 0) (AC 1))) AU)))
section
variable {ss:s_ Slot}{n:Nat}{Pd:D->Nat->Prop}
theorem O9(h:Lx ss n Pd):RT (EE Pd) n (ss++Uf 0 .no):=by
 let⟨d,rfl,q⟩:=h.out;cases d <;>exact q
theorem Ky(h:C_ ss n Pd):MJ (EE Pd) n (ss++Uf 0 .no):=by
 let⟨k,d,rfl,h⟩:=h;cases d with
 |tup a=>exact⟨_,_,rfl,rfl,h⟩
 |_=>exact h
theorem bA{b:Type}(a:s_ b):Dp.cutD a (P3 1) p_=a.drop 1:=by
 unfold Dp.cutD;rw[HT.sIx_none,show 1=((1:Nat):Int)from rfl,HT.sIx_nat]
 by_cases h:1<=a.length
 ·rw[m6 h]
  exact nC (by simp_all)
 grind
theorem Sw:∀c:s_ D,((Ea c (c.drop 1)).all λd=>match d with|.tup [a,b]=>XI a b==P3 q_|_=>r_)=Yk c
 |[]=>rfl
 |[x]=>rfl
 |x::y::r=>by
  have e:=Sw (y::r);show((Ea _ (y::r)).all _)=_;unfold Ea Yk;rw[List.zipWith_cons_cons,nO]
  congr 1
theorem XU{c e:s_ D}{d:D}(h:d∈Ea c e):∃a∈c,∃b∈e,d=.tup [a,b]:=by
 unfold Ea at h;let⟨i,f⟩:=List.getElem?_of_mem h;rw[lM]at f;cases g:c[i]? with
 |none=>simp_all
 | some a=>
  cases j:e[i]? with
  |none=>simp_all
  |some b=>
   rw[g,j]at f;exact⟨a,iS g,b,iS j,(gW f).symm⟩
theorem Ng(h:KS ss n Pd):QM (EE Pd) n (ss++Uf 0 .no):=by
 let⟨d,c,rfl,e,A,f,h⟩:=h
 have i:(Ea c (c.drop 1)).length<=10000000/\C5 (E_ 2 (As (Ae 0) (As (Ae 1) Ck))) DB (AV Fn (AC 0) (AC 1)) (λg k=>OE [.lst g] λz=>Pd z k) (Ea c (c.drop 1)) [] n [.no,.no]:=by
  refine⟨by unfold Ea;rw[List.length_zipWith];omega,?_⟩;refine Bn (λd=>.bl (match d with|.tup [a,b]=>XI a b==P3 q_|_=>r_)) (λj=>∃s t,j=[s,t]) _ _ _ _ ?_ ⟨_,_,rfl⟩ ?_
  ·rintro z l j m o ⟨s,t,rfl⟩ q
   let⟨a,u,b,v,rfl⟩:=XU l;let⟨r,w⟩:=f a u b (lf v);exists rfl,rfl;show Fn a b λy=>o y m [.sh a,.sh b];refine YQ w ?_
   simp_all
  ·rw[gy]
   refine LX (p:=fun(d:D)=>match d with|.tup [a,b]=>XI a b==P3 q_|_=>r_) ?_;rw[Sw];exact h
 cases d with
 |lst x=>
  cases e;exact⟨_,_,c,c.drop 1,rfl,rfl,by rw[bA];rfl,i⟩
 |tup x=>
  cases e;exact⟨_,_,c,c.drop 1,rfl,rfl,by rw[bA];rfl,i⟩
 |_=>cases e
end
def strsOf(a:s_ D):s_ Str:=(QO a).getD []
theorem Wy{a:Type}(p:a->Bool)(l:s_ a):(l.map p).all id=l.all p:=by simp_all
theorem Oz{x:Str}(h:∀c∈cs x,c<1114112):PyData.strOk x=q_:=by
 unfold PyData.strOk;rw[←Array.all_toList,iQ];intro c a;exact decide_eq_true (h c a)
theorem Pp{x:Str}(h:YH x):Ce (.str x):=⟨rfl,Oz λc a=>by have:=h.2.2 c a;omega,Tk _⟩
theorem Pq{a:s_ Str}(h:∀p∈a,YH p):Cd (a.map .str)=q_/\jE (Be (a.map .str))=q_/\im (Be (a.map .str))=0:=by
 induction a with
 |nil=>exact⟨rfl,rfl,rfl⟩
 | cons p r b=>
  let⟨e,c,f⟩:=b λq d=>h q (Rs _ d);exists by assumption,?_
  ·rw[g7,Be,jE,c,Bool.and_true]
   exact(Pp (h p Op)).2.1
  assumption
theorem Mf{a:s_ Str}(h:∀p∈a,YH p):Ce (.tup (a.map .str)):=by
 let⟨b,c,d⟩:=Pq h;exists b,c;show im _+1<=100
 simp_all
theorem Se(x y:Str):FN (.str x) (.str y)=(x==y):=rfl
theorem Dh(a:s_ Str):strsOf (a.map .str)=a:=by unfold strsOf;rw[IN];rfl
section
theorem eU{d:D}(h:tupleOfB 2 d=q_):∃a b,d=.tup [a,b]:=by
 cases d with
 |tup c=>
  have:=eq_of_beq h
  match c,this with
  |[a,b],_=>grind
  |[],h=>cases h
  |[_],h=>cases h
  |_::_::_::r,h=>grind
 |_=>cases h
end
mutual
def fine(B:Nat):D->Prop
 |.int i=>i.natAbs<=B
 |.str x=>∀c∈cs x,c<1114112
 |.tup ds=>FG B ds
 |.lst ds=>FG B ds
 |.dic _ _=>False
 |.fdi _ _=>False
 |.dit _ _=>False
 |_=>True
def FG(B:Nat):s_ D->Prop
 |[]=>True
 |d::ds=>fine B d/\FG B ds
end
mutual
def Cq:D->Nat
 |.int _=>200
 |.str x=>x.length
 |.tup ds=>CC ds
 |.lst ds=>CC ds
 |_=>0
def CC:s_ D->Nat
 |[]=>0
 |d::ds=>Cq d+1+CC ds
end
mutual
def D_:D->Nat
 |.tup ds=>ES ds+1
 |.lst ds=>ES ds+1
 |_=>0
def ES:s_ D->Nat
 |[]=>0
 |d::ds=>max (D_ d) (ES ds)
end
theorem fines_iff{B:Nat}:∀{b:s_ D},FG B b↔∀d∈b,fine B d
 |[]=>⟨(λ_ d h=>by cases h),λ_=>trivial⟩
 | d::b=>by
  have c:=@fines_iff B b;constructor
  ·rintro⟨f,g⟩ e a
   rcases TW.mp a with rfl|a
   ·exact f
   ·exact c.mp g e a
  ·exact λh=>⟨h d Op,c.mpr λe a=>h e (Rs _ a)⟩
theorem dps_le{k:Nat}:∀{a:s_ D},ES a<=k↔∀d∈a,D_ d<=k
 |[]=>⟨(λ_ d h=>by cases h),λ_=>Tk _⟩
 | d::a=>by
  have c:=@dps_le k a;show max (D_ d) (ES a)<=k↔_;rw[Nat.max_le,c];constructor
  ·rintro⟨f,g⟩ e b
   rcases TW.mp b with rfl|b
   ·exact f
   ·exact g e b
  ·exact λh=>⟨h d Op,λe b=>h e (Rs _ b)⟩
theorem Br:∀(b a:s_ D),CC (b++a)=CC b+CC a
 |[],a=>by simp[CC]
 |d::b,a=>by
  rw[mj];show Cq d+1+CC (b++a)=Cq d+1+CC b+CC a;rw[Br b a];omega
theorem NL:∀(a:s_ D),CC a.reverse=CC a
 |[]=>rfl
 |d::a=>by
  rw[j9,Br,NL a];show CC a+(Cq d+1+0)=Cq d+1+CC a;omega
theorem Ox(a:s_ D)(k:Nat):CC (a.take k)<=CC a:=by
 have:=Br (a.take k) (a.drop k)
 rw[kL]at this;omega
theorem VD(a:s_ D)(k:Nat):CC (a.drop k)<=CC a:=by
 have:=Br (a.take k) (a.drop k)
 rw[kL]at this;omega
theorem NM{c:s_ D}{d:D}(h:d∈c):Cq d+1<=CC c:=by
 let⟨a,b,rfl⟩:=List.append_of_mem h;rw[Br];show _<=_+(Cq d+1+CC b);omega
theorem BX:∀(a:s_ D),a.length<=CC a
 |[]=>Tk _
 |d::a=>by
  have:=BX a
  show a.length+1<=Cq d+1+CC a;omega
theorem CK(a:s_ D)(b c:t_ Int):CC (Dp.cutD a b c)<=CC a:=gc (Ox _ _) (VD _ _)
theorem B0{a:s_ D}{b c:t_ Int}{d:D}(h:d∈Dp.cutD a b c):d∈a:=lf (kO h)
theorem US{B C:Nat}(h:B<=C):∀(n:Nat),(∀d:D,sizeOf d<=n->fine B d->fine C d)/\∀a:s_ D,sizeOf a<=n->FG B a->FG C a:=by
 intro n
 induction n with
 |zero=>
  refine⟨λd e _=>?_,λa e _=>?_⟩
  ·cases d <;>simp at e
  ·cases a <;>simp at e
 | succ n f=>
  refine⟨λd e c=>?_,λa e c=>?_⟩
  ·cases d with
   |int i=>exact gc (show i.natAbs<=B from c) h
   |str x=>exact c
   |tup a=>exact f.2 a (by simp at e;omega) c
   |lst a=>exact f.2 a (by simp at e;omega) c
   |dic g a=>exact(show False from c).elim
   |fdi g a=>exact(show False from c).elim
   |dit g a=>exact(show False from c).elim
   |non=>trivial
   |bl b=>trivial
  ·cases a with
   |nil=>trivial
   |cons d a=>exact⟨f.1 d (by simp at e;omega) c.1,f.2 a (by simp at e;omega) c.2⟩
theorem fine.mono{B C:Nat}{d:D}(a:fine B d)(h:B<=C):fine C d:=(US h _).1 d (On _) a
mutual
theorem OB{B:Nat}(hB:B<10 ^ 45):∀{d:D},fine B d->FF d=q_/\(toPy d).showable=q_/\(toPy d).canLay0=q_/\(toPy d).depth=D_ d/\(toPy d).leavesShort 60=q_/\(toPy d).weight<=Cq d
 |.non,_=>⟨rfl,rfl,rfl,rfl,rfl,On _⟩
 |.bl b,_=>⟨rfl,rfl,rfl,rfl,rfl,On _⟩
 | .int i,h=>by
  have h':i.natAbs<=B:=h;have hlt:i.natAbs<10 ^ 45:=jx h' hB;have h2:i.natAbs<2 ^ 150:=lT hlt (by decide)
  have hl:i.natAbs.log2<150:=by
   by_cases h0:i.natAbs=0
   ·rw[h0];decide
   ·exact(Nat.log2_lt h0).mpr h2
  refine⟨rfl,?_,rfl,rfl,?_,?_⟩
  ·show decide (i.natAbs.log2<1920)=q_
   exact decide_eq_true (by omega)
  ·show decide ((PyData.shown (.int i)).length<=60)=q_
   refine decide_eq_true ?_
   have:=int_text_length_le10 (a:=i) (k:=45) (by decide) hlt
   show(iG (toString i)).length<=60;rw[PySem.ofString_length];omega
  ·show(if i==0 then 0 else i.natAbs.log2+1)<=200
   split <;>omega
 |.str x,h=>by
  have h':∀c∈cs x,c<1114112:=h;refine⟨rfl,rfl,Oz h',rfl,?_,On _⟩;show(x.cps.toList.all λc=>decide (c<16 ^ 8))=q_;rw[iQ];intro c hc;exact decide_eq_true (lT (h' c hc) (by decide))
 |.tup ds,h=>by
  let⟨h1,h2,h3,h4,h5,h6⟩:=LS hB (ds:=ds) h;refine⟨h1,h2,h3,?_,h5,h6⟩;show im (Be ds)+1=ES ds+1;rw[h4]
 |.lst ds,h=>by
  let⟨h1,h2,h3,h4,h5,h6⟩:=LS hB (ds:=ds) h;refine⟨h1,h2,h3,?_,h5,h6⟩;show im (Be ds)+1=ES ds+1;rw[h4]
 |.dic ks ds,h=>(show False from h).elim
 |.fdi ks ds,h=>(show False from h).elim
 |.dit ks ds,h=>(show False from h).elim
theorem LS{B:Nat}(hB:B<10 ^ 45):∀{ds:s_ D},FG B ds->Cd ds=q_/\PyData.showableAll (Be ds)=q_/\jE (Be ds)=q_/\im (Be ds)=ES ds/\nI 60 (Be ds)=q_/\PyData.weightAll (Be ds)<=CC ds
 |[],_=>⟨rfl,rfl,rfl,rfl,rfl,On _⟩
 | d::ds,h=>by
  let⟨h1,h2,h3,h4,h5,h6⟩:=OB hB (d:=d) h.1;let⟨g1,g2,g3,g4,g5,g6⟩:=LS hB (ds:=ds) h.2;refine⟨?_,?_,?_,?_,?_,?_⟩
  ·show(FF d&&Cd ds)=q_
   rw[h1,g1];rfl
  ·show((toPy d).showable&&PyData.showableAll (Be ds))=q_
   rw[h2,g2];rfl
  ·show((toPy d).canLay0&&jE (Be ds))=q_
   rw[h3,g3];rfl
  ·show max (toPy d).depth (im (Be ds))=max (D_ d) (ES ds)
   rw[h4,g4]
  ·show((toPy d).leavesShort 60&&nI 60 (Be ds))=q_
   rw[h5,g5];rfl
  ·show(toPy d).weight+1+PyData.weightAll (Be ds)<=Cq d+1+CC ds
   omega
end
theorem VJ{B:Nat}{d:D}(a:B<10 ^ 45)(h:fine B d)(b:D_ d<=100)(i:Cq d<=270000):Rq d:=by
 let⟨c,e,j,f,g,k⟩:=OB a h;exists c,e,by rw[f];exact b
 have:=PyData.shown_le 60 (by decide) (toPy d) g
 rw[PySem.sizeLine_eq]
 have:62*(toPy d).weight<=62*270000:=Nat.mul_le_mul_left _ (by omega)
 omega
theorem Xl{B:Nat}{d:D}(a:B<10 ^ 45)(h:fine B d)(b:D_ d<=100)(c:Cq d<=200000):Rq d:=VJ a h b (by omega)
theorem CP{B:Nat}{d:D}(a:B<10 ^ 45)(h:fine B d)(b:D_ d<=100):Ce d:=by
 let⟨c,g,e,f,i,j⟩:=OB a h;exact⟨c,e,by rw[f];exact b⟩
def W8:W2:=λb n P=>∃(d:D) (B:Nat),b=[.fd,.sh d]/\fine B d/\2000000<=B/\B<10 ^ 40/\Cq d<=80000/\2<=n/\∀(e:D) (a:Nat),fine (B+1) e->Cq e<=2*Cq d+250->D_ e<=D_ d+1->n - 2<=a->P e a
def Lp:AY:=(Ad (C3 2 (DZ (AF (wC D.non) (AF (wC (D.bl q_)) (AF (wC (D.int 0)) (AF (wC (D.int 1)) (AF (XZ (wC (D.int 1))) (AF (wC (D.str "a")) (AF (wC (D.str "b")) (AF (Bc AU) (AF (DZ AU) (AF (AV (QS ML λi j=>D.int (i ^ j.toNat)) (wC (D.int 10)) (wC (D.int 6))) (AF (AV A0 (AV (QS ML λi j=>D.int (i ^ j.toNat)) (wC (D.int 10)) (wC (D.int 6))) (wC (D.int 1))) (AF (wC (D.str "abcdefghi")) (AF (wC (D.str "B")) (AF (AC 1) AU))))))))))))))))
 (Ad (BK (AW (Uz "tuple" "list" (AC 1))) (Ad (Ay 3 (AQ BG (AB (Az 0) (AB (AG (AV A0 (Cp Gb (AF (AC 1) AU)) (wC (D.int 1)))) AO))))
 (Ad (C3 2 (AV ZK (Av 2) (DZ (AF (Cp RL (AF (AC 1) AU)) (AF (Cp BY (AF (AC 1) AU)) (AF (bv (AC 1) (XZ (wC (D.int 1)))) (AF (AV A0 (MO ER (AC 1) Bj (Bx (AC 3))) (MO ER (AC 1) (Bx (AV A0 (AC 3) (wC (D.int 1)))) Bj)) AU)))))))
 (Od 2 "list" Fp (AF (AV A0 (AV A0 (MO ER (AC 1) Bj (Bx (AC 3))) (MO ER (AC 1) (Bx (AC 3)) (Bx (AV A0 (AC 3) (wC (D.int 1)))))) (MO ER (AC 1) (Bx (AC 3)) Bj)) AU)))) Aw)
 (Ad (BK (AW (NI "int" (AC 1))) (C3 2 (AV ZK (Av 2) (DZ (AF (AV A0 (AC 1) (wC (D.int 1))) (AF (AV LU (AC 1) (wC (D.int 1))) (AF (AV ah (AC 1) (wC (D.int 1))) (AF (Cp WS (AF (AC 1) AU)) (AF (AV LU (wC (D.int 0)) (AC 1)) AU)))))))) Aw)
 (Au (AV BC (Av 2) (AQ BG (AB (Az 0) (AB (AG (Cp Gb (AF (Av 2) AU))) AO))))))))
theorem UP(i:Int):∀c∈cs (iG (toString i)),c<1114112:=by
 intro c a
 by_cases h:c=45\/(48<=c/\c<=57)
 ·omega
 ·exact absurd a (int_text_free' c (by omega) i)
theorem Mr(b:s_ D)(a:Int)(h:0<=a):CC (Dp.cutD b p_ (P3 a))+CC (Dp.cutD b (P3 a) (P3 (a+1)))<=CC b:=by
 obtain⟨k,rfl⟩:∃k:Nat,a=k:=⟨a.toNat,by omega⟩
 have c:Dp.cutD b p_ (P3 k)=b.take (min k b.length):=by
  unfold Dp.cutD;rw[HT.sIx_none,HT.sIx_nat,nG,Nat.sub_zero]
 have d:Dp.cutD b (P3 (k:Int)) (P3 ((k:Int)+1))=(b.drop (min k b.length)).take (min (k+1) b.length - min k b.length):=by
  unfold Dp.cutD;rw[show((k:Int)+1)=(k+1:Nat) by omega,HT.sIx_nat,HT.sIx_nat]
 rw[c,d];have e:=Br (b.take (min k b.length)) (b.drop (min k b.length));rw[kL]at e;have f:=Ox (b.drop (min k b.length)) (min (k+1) b.length - min k b.length);omega
section
variable {ss:s_ Slot}{n:Nat}{Pd:D->Nat->Prop}
theorem Zx(s:W8 ss n Pd):Lp (EE Pd) n (ss++Uf 2 .no):=by
 let⟨d,B,rfl,v,S,w,I,hn,p⟩:=s
 have g:∀(o:s_ D),(∀z∈o,fine (B+1) z/\Cq z<=2*Cq d+250/\D_ z<=D_ d+1)->1<=o.length->o.length<=100->∀(m:Nat) (O:Slot),n - 1<=m->
   (Au (AV BC (Av 2) (AQ BG (AB (Az 0) (AB (AG (Cp Gb (AF (Av 2) AU))) AO))))) (EE Pd) m [.fd,.sh d,.ow (.lst o),O]:=by
  intro o J A P m O hm;refine⟨_,_,rfl,rfl,(o.length:Int),rfl,by omega,by omega,by omega,λr s A=>?_⟩;obtain⟨k,rfl⟩:∃k:Nat,r=(k:Int):=⟨r.toNat,by omega⟩;have K:k<o.length:=by omega
  exists o[k],AL (FM K);let⟨T,U,V⟩:=J o[k] (hV K);exact p _ _ T U V (by omega)
 have self:fine (B+1) d/\Cq d<=2*Cq d+250/\D_ d<=D_ d+1:=⟨v.mono (by omega),by omega,by omega⟩
 have j:∀z∈[D.non,.bl q_,.int 0,.int 1,.int (-1),.str "a",.str "b",.tup [],.lst [],.int (10 ^ (6:Int).toNat),.int (10 ^ (6:Int).toNat+1),.str "abcdefghi",.str "B",d],fine (B+1) z/\Cq z<=2*Cq d+250/\D_ z<=D_ d+1:=by
  have t:∀x∈[("a":Str),"b","abcdefghi","B"],(∀c∈cs x,c<1114112)/\x.length<=9:=by decide +kernel
  have u:∀i:Int,i.natAbs<=1000001->fine (B+1) (.int i):=λi h=>show i.natAbs<=B+1 by omega
  intro z e;simp only[TW,gU,or_false]at e
  rcases e with rfl|rfl|rfl|rfl|rfl|rfl|rfl|rfl|rfl|rfl|rfl|rfl|rfl|rfl
  ·exact⟨trivial,Tk _,Tk _⟩
  ·exact⟨trivial,Tk _,Tk _⟩
  ·exact⟨u _ (by decide),by show 200<=_;omega,Tk _⟩
  ·exact⟨u _ (by decide),by show 200<=_;omega,Tk _⟩
  ·exact⟨u _ (by decide),by show 200<=_;omega,Tk _⟩
  ·exact⟨(t _ (by simp)).1,gc (t _ (by simp)).2 (by omega),Tk _⟩
  ·exact⟨(t _ (by simp)).1,gc (t _ (by simp)).2 (by omega),Tk _⟩
  ·exact⟨trivial,Tk _,by show 0+1<=_;omega⟩
  ·exact⟨trivial,Tk _,by show 0+1<=_;omega⟩
  ·exact⟨u _ (by decide),by show 200<=_;omega,Tk _⟩
  ·exact⟨u _ (by decide),by show 200<=_;omega,Tk _⟩
  ·exact⟨(t _ (by simp)).1,gc (t _ (by simp)).2 (by omega),Tk _⟩
  ·exact⟨(t _ (by simp)).1,gc (t _ (by simp)).2 (by omega),Tk _⟩
  ·exact self
 have l:∀(o f:s_ D),(∀z∈o,fine (B+1) z/\Cq z<=2*Cq d+250/\D_ z<=D_ d+1)->(∀z∈f,fine (B+1) z/\Cq z<=2*Cq d+250/\D_ z<=D_ d+1)->∀z∈o++f,fine (B+1) z/\Cq z<=2*Cq d+250/\D_ z<=D_ d+1:=λo f A P z I=>(gP.mp I).elim (A z) (P z);unfold Lp;exists 1,rfl,(by decide:0<=sizeLine),(by decide:0<=sizeLine),⟨by decide,by decide,by decide⟩,⟨by decide,by decide,by decide⟩,(by decide:14<=sizeLine);have W:=PySem.sizeLine_eq;cases d with
 |non=>exact⟨trivial,g _ j (by simp) (by simp) n .no (by omega)⟩
 |str x=>exact⟨trivial,g _ j (by simp) (by simp) n .no (by omega)⟩
 | bl k=>
  exists trivial;have L:Ce (.bl k):=CP (B:=B) (by omega) v (Tk _);have M:Ce (.int 1):=CP (B:=B) (d:=.int 1) (by omega) (show(1:Int).natAbs<=B by omega) (Tk _);exists L,M,(by decide:5<=sizeLine),(by show 14+5<=sizeLine;decide);refine g _ (l _ _ j ?_) (by simp) (by simp) n .no (by omega);intro z e;simp only[TW,gU,or_false]at e;have K:(bI k).natAbs<=1:=by cases k <;>decide
  rcases e with rfl|rfl|rfl|rfl|rfl
  ·exact⟨show(bI k+1).natAbs<=B+1 by omega,by show 200<=_;omega,Tk _⟩
  ·exact⟨show(bI k - 1).natAbs<=B+1 by omega,by show 200<=_;omega,Tk _⟩
  ·exact⟨trivial,Tk _,Tk _⟩
  ·have:∀k:Bool,(∀c∈cs (if k then("True":Str)else "False"),c<1114112)/\(if k then("True":Str)else "False").length<=5:=by decide +kernel
   exact⟨(this k).1,gc (this k).2 (by omega),Tk _⟩
  ·exact⟨show(0 - bI k).natAbs<=B+1 by omega,by show 200<=_;omega,Tk _⟩
 | int i=>
  exists trivial;have u:i.natAbs<=B:=v;have L:Ce (.int i):=CP (B:=B) (by omega) v (Tk _);have M:Ce (.int 1):=CP (B:=B) (d:=.int 1) (by omega) (show(1:Int).natAbs<=B by omega) (Tk _)
  have C:i.natAbs.log2<1920:=by
   by_cases s:i.natAbs=0
   ·rw[s];decide
   ·exact lT ((Nat.log2_lt s).mpr (lT (jx u w) (by decide:10 ^ 40<2 ^ 150))) (by decide)
  have Q:(iG (toString i)).length<=41:=by
   rw[PySem.ofString_length];exact int_text_length_le10 (k:=40) (by decide) (jx u w)
  exists L,M,C,by omega,(by decide:5<=sizeLine),(by show 14+5<=sizeLine;decide);refine g _ (l _ _ j ?_) (by simp) (by simp) n .no (by omega);intro z e;simp only[TW,gU,or_false]at e
  rcases e with rfl|rfl|rfl|rfl|rfl
  ·exact⟨show(i+1).natAbs<=B+1 by omega,by show 200<=_;omega,Tk _⟩
  ·exact⟨show(i - 1).natAbs<=B+1 by omega,by show 200<=_;omega,Tk _⟩
  ·exact⟨trivial,Tk _,Tk _⟩
  ·exact⟨UP i,by show(iG (toString i)).length<=_;omega,Tk _⟩
  ·exact⟨show(0 - i).natAbs<=B+1 by omega,by show 200<=_;omega,Tk _⟩
 | tup b=>
  have X:=BX b;have N:CC b<=80000:=I;refine⟨trivial,_,_,rfl,rfl,(b.length:Int)+1,rfl,by omega,by omega,by omega,λa s A=>?_⟩
  have q:∀(f:s_ D),(∀y∈f,y∈b)->CC f<=2*CC b->(fine (B+1) (.tup f)/\Cq (.tup f)<=2*Cq (.tup b)+250/\D_ (.tup f)<=D_ (.tup b)+1)/\fine (B+1) (.lst f)/\Cq (.lst f)<=2*Cq (.tup b)+250/\D_ (.lst f)<=D_ (.tup b)+1:=λf E Y=>by
   have F:FG (B+1) f:=fines_iff.mpr λy h=>fines_iff.mp self.1 y (E y h);have G:CC f<=2*CC b+250:=by omega
   have:=dps_le.mpr λy h=>dps_le.mp (On (ES b)) y (E y h)
   have H:ES f+1<=ES b+1+1:=by omega
   exact⟨⟨F,G,H⟩,F,G,H⟩
  have Z:=CK b p_ (P3 a);have c2:=CK b (P3 (a+1)) p_;have c3:=CK b (P3 a) (P3 (a+1));have c4:=CK b (P3 a) p_;have d1:=BX (Dp.cutD b p_ (P3 a));have d2:=BX (Dp.cutD b (P3 (a+1)) p_);have d3:=BX (Dp.cutD b (P3 a) (P3 (a+1)));have d4:=BX (Dp.cutD b (P3 a) p_);have e1:(Dp.cutD b p_ (P3 a)++Dp.cutD b (P3 a) (P3 (a+1))).length=_:=eq;exists 1,rfl,rfl,by omega,(by decide:4<=sizeLine),(by show 14+4<=sizeLine;decide),_,rfl,rfl,by omega,by omega,_,_,rfl,rfl,(by show 14+4<sizeLine;decide);refine g _ (l _ _ (l _ _ j ?_) ?_) (by simp) (by simp) (n - 1) (.sh (.int a)) (On _)
  ·intro z e
   simp only[TW,gU,or_false]at e
   rcases e with rfl|rfl|rfl|rfl
   ·exact(q b (λ_ h=>h) (by omega)).2
   ·exact(q b (λ_ h=>h) (by omega)).1
   ·exact(q b.reverse (λy h=>mn.mp h) (by rw[NL];omega)).1
   ·exact(q _ (λy h=>(gP.mp h).elim B0 B0) (by rw[Br];omega)).1
  ·intro z e
   rw[Re.mp e];refine(q _ (λy h=>(gP.mp h).elim (λh=>(gP.mp h).elim B0 B0) B0) ?_).1;rw[Br,Br]
   have:=Mr b a s
   omega
 | lst b=>
  have X:=BX b;have N:CC b<=80000:=I;refine⟨trivial,_,_,rfl,rfl,(b.length:Int)+1,rfl,by omega,by omega,by omega,λa s A=>?_⟩
  have q:∀(f:s_ D),(∀y∈f,y∈b)->CC f<=2*CC b->(fine (B+1) (.tup f)/\Cq (.tup f)<=2*Cq (.lst b)+250/\D_ (.tup f)<=D_ (.lst b)+1)/\fine (B+1) (.lst f)/\Cq (.lst f)<=2*Cq (.lst b)+250/\D_ (.lst f)<=D_ (.lst b)+1:=λf E Y=>by
   have F:FG (B+1) f:=fines_iff.mpr λy h=>fines_iff.mp self.1 y (E y h);have G:CC f<=2*CC b+250:=by omega
   have:=dps_le.mpr λy h=>dps_le.mp (On (ES b)) y (E y h)
   have H:ES f+1<=ES b+1+1:=by omega
   exact⟨⟨F,G,H⟩,F,G,H⟩
  have Z:=CK b p_ (P3 a);have c2:=CK b (P3 (a+1)) p_;have c3:=CK b (P3 a) (P3 (a+1));have c4:=CK b (P3 a) p_;have d1:=BX (Dp.cutD b p_ (P3 a));have d2:=BX (Dp.cutD b (P3 (a+1)) p_);have d3:=BX (Dp.cutD b (P3 a) (P3 (a+1)));have d4:=BX (Dp.cutD b (P3 a) p_);have e1:(Dp.cutD b p_ (P3 a)++Dp.cutD b (P3 a) (P3 (a+1))).length=_:=eq;exists 1,rfl,rfl,by omega,(by decide:4<=sizeLine),(by show 14+4<=sizeLine;decide),_,rfl,rfl,by omega,by omega,_,_,rfl,rfl,(by show 14+4<sizeLine;decide);refine g _ (l _ _ (l _ _ j ?_) ?_) (by simp) (by simp) (n - 1) (.sh (.int a)) (On _)
  ·intro z e
   simp only[TW,gU,or_false]at e
   rcases e with rfl|rfl|rfl|rfl
   ·exact(q b (λ_ h=>h) (by omega)).2
   ·exact(q b (λ_ h=>h) (by omega)).1
   ·exact(q b.reverse (λy h=>mn.mp h) (by rw[NL];omega)).2
   ·exact(q _ (λy h=>(gP.mp h).elim B0 B0) (by rw[Br];omega)).2
  ·intro z e
   rw[Re.mp e];refine(q _ (λy h=>(gP.mp h).elim (λh=>(gP.mp h).elim B0 B0) B0) ?_).2;rw[Br,Br]
   have:=Mr b a s
   omega
 |dic R b=>exact(show False from v).elim
 |fdi R b=>exact(show False from v).elim
 |dit R b=>exact(show False from v).elim
end
def JU(j:Nat):W2:=λb n P=>∃(d:D) (B i:Nat),b=[.fd,.sh d,.sh (.int i)]/\i<=j/\fine B d/\2000000<=B/\B<10 ^ 40/\Cq d<=80000/\2*j+4<=n/\∀(e:D) (a:Nat),fine (B+1) e->Cq e<=2*Cq d+250->D_ e<=D_ d+1->n - (2*j+4)<=a->P e a
def Jo(Lz:W2):AY:=(Ad (BK (Eo (CW (AW (Uz "tuple" "list" (AC 1)))) (Eo (AW (AV (HL r_) (Cp Gb (AF (AC 1) AU)) (wC (D.int 0)))) (Eo (AW (AV (HL r_) (AC 2) (wC (D.int 0)))) (AW (AV (HL r_) (AQ BG (AB (Az 0) (AB (AG (wC (D.int 5))) AO))) (wC (D.int 0))))))) (Au (AQ W8 (AB (Az 0) (AB (AG (AC 1)) AO)))) Aw)
 (Ad (Ay 3 (AQ BG (AB (Az 0) (AB (AG (Cp Gb (AF (AC 1) AU))) AO))))
 (Ad (Ay 4 (AQ Lz (AB (Az 0) (AB (AG (AV BC (AC 1) (AC 3))) (AB (AG (AV LU (AC 2) (wC (D.int 1)))) AO)))))
 (Au (AV A0 (AV A0 (MO ER (AC 1) Bj (Bx (AC 3))) (Xa (AW (NI "list" (AC 1))) (DZ (AF (AC 4) AU)) (Bc (AF (AC 4) AU)))) (MO ER (AC 1) (Bx (AV A0 (AC 3) (wC (D.int 1)))) Bj))))))
theorem a_(b:s_ D)(a:Nat):Dp.cutD b p_ (P3 (a:Int))=b.take (min a b.length):=by
 unfold Dp.cutD;rw[HT.sIx_none,HT.sIx_nat,nG,Nat.sub_zero]
theorem Wp(b:s_ D)(a:Nat):Dp.cutD b (P3 (a:Int)) p_=b.drop (min a b.length):=by
 unfold Dp.cutD;rw[HT.sIx_none];exact nC (by simp_all)
theorem Vc{b:s_ D}{a:Nat}(h:a<b.length)(e:D):CC (Dp.cutD b p_ (P3 (a:Int))++[e]++Dp.cutD b (P3 ((a:Int)+1)) p_)+Cq b[a]=CC b+Cq e:=by
 have c:Dp.cutD b (P3 (a+1)) p_=b.drop (a+1):=by
  rw[show((a:Int)+1)=(a+1:Nat) by omega,Wp,m6 (by omega)]
 rw[a_ b a,c,m6 (by omega),Br,Br];have d:=Br (b.take a) (b.drop a);rw[kL,ic h]at d;have f:CC (b[a]::b.drop (a+1))=Cq _+1+CC _:=rfl;have g:CC [e]=Cq e+1+0:=rfl;omega
section
variable {ss:s_ Slot}{n:Nat}{Pd:D->Nat->Prop}
theorem Ru{K:W2}{j:Nat}(o:∀ss n P,j≠0->JU (j - 1) ss n P->K ss n P)(M:JU j ss n Pd):Jo K (EE Pd) n (ss++Uf 2 .no):=by
 let⟨d,B,i,rfl,hi,q,s,t,D,hn,p⟩:=M;have g:∀m:Nat,n - 1<=m->W8 [.fd,.sh d] m Pd:=λm hm=>⟨d,B,rfl,q,s,t,D,by omega,λe E N O Q h4=>p e E N O Q (by omega)⟩;unfold Jo;have R:=PySem.sizeLine_eq;cases d with
 |non=>exact⟨trivial,g n (by omega)⟩
 |bl b=>exact⟨trivial,g n (by omega)⟩
 |int k=>exact⟨trivial,g n (by omega)⟩
 |str x=>exact⟨trivial,g n (by omega)⟩
 |dic L c=>exact(show False from q).elim
 |fdi L c=>exact(show False from q).elim
 |dit L c=>exact(show False from q).elim
 | tup c=>
  have S:=BX c;have F:CC c<=80000:=D;exists trivial,_,_,rfl,rfl;refine CB (λ_=>g n (by omega)) λw=>?_;have G:c.length≠0:=λz=>w (by show((c.length:Int)==0)=q_;rw[z];rfl);refine CB (λ_=>g n (by omega)) λA=>?_;have T:i≠0:=λz=>A (by show((i:Int)==0)=q_;rw[z];rfl);refine⟨5,rfl,by decide,by decide,by omega,λr U V=>?_⟩;refine CB (λ_=>g (n - 1) (by omega)) λ_=>?_;refine⟨_,_,rfl,rfl,(c.length:Int),rfl,by omega,by omega,by omega,λa W X=>?_⟩;obtain⟨a,rfl⟩:∃k:Nat,a=(k:Int):=⟨a.toNat,by omega⟩;have u:a<c.length:=by omega
  exists c[a],AL (FM u);have v:c[a]∈c:=hV u;have H:=NM v;refine o _ _ _ (by omega) ⟨c[a],B,i - 1,by rw[show(((i - 1:Nat)):Int)=(i:Int) - 1 by omega],by omega,fines_iff.mp q _ v,s,t,by omega,by omega,λe E I Y Z f4=>?_⟩;have C:=Vc u e;have d1:=BX (Dp.cutD c p_ (P3 (a:Int)));have d2:=BX (Dp.cutD c (P3 ((a:Int)+1)) p_);have w:=CK c p_ (P3 (a:Int));have A:=CK c (P3 ((a:Int)+1)) p_;have e1:(Dp.cutD c p_ (P3 (a:Int))++[e]).length=_:=eq;have e2:[e].length=1:=rfl
  have l:∀y∈Dp.cutD c p_ (P3 (a:Int))++[e]++Dp.cutD c (P3 ((a:Int)+1)) p_,y∈c\/y=e:=λy f=>by
   rcases gP.mp f with f|f
   ·rcases gP.mp f with f|f
    ·exact .inl (B0 f)
    ·exact .inr (Re.mp f)
   ·exact .inl (B0 f)
  have J:=dps_le.mp (On (ES c)) _ v;refine⟨(by decide:1<=sizeLine),by omega,by omega,p (.tup _) _ ?_ ?_ ?_ (by omega)⟩
  ·exact fines_iff.mpr λy f=>(l y f).elim (λh=>(fines_iff.mp q y h).mono (by omega)) λh=>by rw[h];exact I
  ·show CC _<=2*CC c+250
   omega
  ·show ES _+1<=ES c+1+1
   have:=dps_le (k:=ES c+1).mpr λy f=>(l y f).elim (λh=>mN (dps_le.mp (On (ES c)) y h)) λh=>by rw[h];omega
   omega
 | lst c=>
  have S:=BX c;have F:CC c<=80000:=D;exists trivial,_,_,rfl,rfl;refine CB (λ_=>g n (by omega)) λw=>?_;have G:c.length≠0:=λz=>w (by show((c.length:Int)==0)=q_;rw[z];rfl);refine CB (λ_=>g n (by omega)) λA=>?_;have T:i≠0:=λz=>A (by show((i:Int)==0)=q_;rw[z];rfl);refine⟨5,rfl,by decide,by decide,by omega,λr U V=>?_⟩;refine CB (λ_=>g (n - 1) (by omega)) λ_=>?_;refine⟨_,_,rfl,rfl,(c.length:Int),rfl,by omega,by omega,by omega,λa W X=>?_⟩;obtain⟨a,rfl⟩:∃k:Nat,a=(k:Int):=⟨a.toNat,by omega⟩;have u:a<c.length:=by omega
  exists c[a],AL (FM u);have v:c[a]∈c:=hV u;have H:=NM v;refine o _ _ _ (by omega) ⟨c[a],B,i - 1,by rw[show(((i - 1:Nat)):Int)=(i:Int) - 1 by omega],by omega,fines_iff.mp q _ v,s,t,by omega,by omega,λe E I Y Z f4=>?_⟩;have C:=Vc u e;have d1:=BX (Dp.cutD c p_ (P3 (a:Int)));have d2:=BX (Dp.cutD c (P3 ((a:Int)+1)) p_);have w:=CK c p_ (P3 (a:Int));have A:=CK c (P3 ((a:Int)+1)) p_;have e1:(Dp.cutD c p_ (P3 (a:Int))++[e]).length=_:=eq;have e2:[e].length=1:=rfl
  have l:∀y∈Dp.cutD c p_ (P3 (a:Int))++[e]++Dp.cutD c (P3 ((a:Int)+1)) p_,y∈c\/y=e:=λy f=>by
   rcases gP.mp f with f|f
   ·rcases gP.mp f with f|f
    ·exact .inl (B0 f)
    ·exact .inr (Re.mp f)
   ·exact .inl (B0 f)
  have J:=dps_le.mp (On (ES c)) _ v;refine⟨(by decide:1<=sizeLine),by omega,by omega,p (.lst _) _ ?_ ?_ ?_ (by omega)⟩
  ·exact fines_iff.mpr λy f=>(l y f).elim (λh=>(fines_iff.mp q y h).mono (by omega)) λh=>by rw[h];exact I
  ·show CC _<=2*CC c+250
   omega
  ·show ES _+1<=ES c+1+1
   have:=dps_le (k:=ES c+1).mpr λy f=>(l y f).elim (λh=>mN (dps_le.mp (On (ES c)) y h)) λh=>by rw[h];omega
   omega
end
def item(d:D):Prop:=fine 1000001 d/\Cq d<=450/\D_ d<=1
theorem Ik{k:Nat}:∀{a:s_ D},(∀d∈a,Cq d+1<=k)->CC a<=k*a.length
 |[],_=>Tk _
 |d::a,h=>by
  have c:=Ik λe b=>h e (Rs _ b);show Cq d+1+CC a<=k*(a.length+1)
  grind
theorem Dw{B:Nat}{a:s_ D}(h:∀d∈a,fine B d):fine B (.tup a):=fines_iff.mpr h
theorem item_str{x:Str}(b:x.length<=8)(a:∀c∈cs x,c<1114112):item (.str x):=⟨a,by show x.length<=450;omega,Tk _⟩
theorem Ef{x:Str}(h:YH x):item (.str x):=item_str h.2.1 λc a=>by have:=h.2.2 c a;omega
theorem WH{a b:Str}{l:Int}(e:item (.str a))(f:item (.str b))(h:a.length<=8)(i:b.length<=8)(g:l.natAbs<=1000001):item (.tup [.str a,.str b,.int l]):=by
 exists Dw λd c=>?_,?_
 ·simp at c
  rcases c with rfl|rfl|rfl
  ·exact e.1
  ·exact f.1
  ·exact g
 ·show a.length+1+(b.length+1+(200+1+0))<=450
  omega
 ·show max 0 (max 0 (max 0 0))+1<=1
  decide
theorem LJ{N:Net}(ok:N.Ok):∀d∈N.ts.map Ai,item d:=λd c=>by
 let⟨t,e,rfl⟩:=TM.mp c;let⟨f,g,_,h,i⟩:=ok.tin t e;have a:=ok.names _ f;have b:=ok.names _ g;exact WH (Ef a) (Ef b) a.2.1 b.2.1 (by omega)
theorem YG{N:Net}(ok:N.Ok):∀d∈N.ps.map D.str,item d:=λd a=>by
 let⟨x,b,rfl⟩:=TM.mp a;exact Ef (ok.names x b)
theorem Zi{b c:s_ D}(e:∀d∈b,item d)(f:∀d∈c,item d)(g:b.length<=26)(h:c.length<=80):fine 1000001 (.tup [.tup b,.tup c])/\Cq (.tup [.tup b,.tup c])<=48000/\D_ (.tup [.tup b,.tup c])<=3:=by
 have i:=Ik λd a=>lI (e d a).2.1;have j:=Ik λd a=>lI (f d a).2.1;have k:=dps_le.mpr λd a=>(e d a).2.2;have l:=dps_le.mpr λd a=>(f d a).2.2;exists Dw λd a=>?_,?_
 ·simp at a
  rcases a with rfl|rfl
  ·exact Dw λd a=>(e d a).1
  ·exact Dw λd a=>(f d a).1
 ·show CC b+1+(CC c+1+0)<=48000
  omega
 ·show max (ES b+1) (max (ES c+1) 0)+1<=3
  omega
theorem Ww{p:D->Prop}{xs:s_ D}(h:∀d∈xs,p d){o:Int}(b:0<=o)(c:o<(xs.length:Int)):∃z,atI xs o=P3 z/\p z:=by
 obtain⟨k,rfl⟩:∃k:Nat,o=k:=⟨o.toNat,by omega⟩;have a:k<xs.length:=by omega
 exact⟨_,AL (FM a),h _ (hV a)⟩
theorem GP(x:Str):¬cs x<cs x:=kr _
theorem z1:1<=sizeLine:=by decide
theorem z2:2<=sizeLine:=by decide
theorem z3:3<=sizeLine:=by decide
theorem z0:0<=sizeLine:=Tk _
theorem fP:ML 10 6:=⟨by decide,by decide,by decide⟩
def b9(s t:Aq):Decidable (s=t):=
 if h:s.a=t.a/\s.b=t.b/\s.len=t.len then .isTrue (by let⟨a,b,l⟩:=s;let⟨g,i,j⟩:=t;let⟨c,d,f⟩:=h;simp only at c d f;subst c d f;rfl)else .isFalse λe=>h (by rw[e];exact⟨rfl,rfl,rfl⟩)
instance:DecidableEq Aq:=b9
abbrev EF(a:D->Nat->Prop):E2:={nx:=λn _=>Kd.fr=.sh/\a .non n,rt:=a}
def Bh(t:Aq):s_ Key:=[.inl t.len,.inr t.a,.inr t.b]
def Bo(a:s_ Aq):Prop:=a.Pairwise λs t=>BJ (Bh t) (Bh s)=r_
def PD:D->D
 |.tup [x,y,z]=>.tup [z,x,y]
 |d=>d
def fF(x:Str×Int):D:=.tup [.str x.1,.int x.2]
abbrev NC:W2:=λa n P=>∃x y z:D,a=[.sh (.tup [x,y,z])]/\P (.tup [z,x,y]) n
def DN:W2:=λc n P=>∃(d:D) (b:s_ Aq),c=[.sh d]/\Ip d=P3 (b.map Ai)/\b.length<64/\∀a:s_ Aq,a.Perm b->Bo a->P (.lst (a.map Ai)) n
def Ui:AY:=(Au (Bc (AF (AV BC (AC 0) (wC (D.int 2))) (AF (AV BC (AC 0) (wC (D.int 0))) (AF (AV BC (AC 0) (wC (D.int 1))) AU)))))
def Lm:AY:=(Au (Ux NC (AC 0)))
theorem Kw{s t:Aq}(h:Bh s=Bh t):s=t:=by
 let⟨a,b,l⟩:=s;let⟨c,d,e⟩:=t;unfold Bh at h
 grind
theorem Ni{g:Type}{R:g->g->Prop}(c:∀a b,R a b->R b a->a=b):∀{d f:s_ g},d.Perm f->d.Pairwise R->f.Pairwise R->d=f
 |[],f,p,_,_=>(List.nil_perm.mp p).symm
 |a::d,[],p,_,_=>absurd (List.perm_nil.mp p) (jG _ _)
 | a::d,b::f,p,i,j=>by
  have e:a=b:=by
   rcases TW.mp (p.mem_iff.mp Op)with e|h
   ·exact e
   ·rcases TW.mp (p.mem_iff.mpr (Op))with e|k
    ·exact e.symm
    ·exact c a b ((iL.mp i).1 b k) ((iL.mp j).1 a h)
  subst e;rw[Ni c ((List.perm_cons a).mp p) (iL.mp i).2 (iL.mp j).2]
theorem Bg{c d:s_ Aq}(p:c.Perm d)(e:Bo c)(f:Bo d):c=d:=Ni (λa b x y=>Kw (B8 _ _ y x)) p e f
theorem Rj{b:Type}{f:b->D}{g:D->b}(e:∀x,g (f x)=x){c:s_ D}{d:s_ b}(h:c.Perm (d.map f)):∃a:s_ b,a.Perm d/\c=a.map f:=by
 exists c.map g,?_
 ·have:=h.map g
  rw[ij,show g∘f=id from funext e,nE]at this;exact this
 ·rw[ij]
  have:∀x∈c,(f∘g) x=x:=λx i=>by
   let⟨t,_,rfl⟩:=TM.mp (h.mem_iff.mp i)
   grind
  rw[kZ this,List.map_id']
def aw:D->Aq
 |.tup [.str a,.str b,.int l]=>⟨a,b,l⟩
 |_=>⟨"","",0⟩
section
variable {ss:s_ Slot}{n:Nat}{Pd:D->Nat->Prop}
theorem Qm(h:NC ss n Pd):Ui (EE Pd) n (ss++Uf 0 .no):=by
 let⟨x,y,z,rfl,p⟩:=h;exact⟨_,AL rfl,_,AL rfl,_,AL rfl,z3,p⟩
theorem Vx{a:s_ Aq}(h:IZ (λx=>Cv (PD x)) (a.map Ai)):Bo a:=by
 unfold IZ at h;rw[kA]at h;exact h.imp λ{s t} z=>z _ _ rfl rfl
theorem O7(h:DN ss n Pd):Lm (EF Pd) n (ss++Uf 0 .no):=by
 let⟨d,e,rfl,f,b,p⟩:=h;unfold Lm;refine⟨e.map Ai,PD,f,by rw[No];exact b,λx a Q i=>?_,⟨λx a=>?_,λx a y j k l m o=>?_⟩,λq r s=>?_⟩
 ·let⟨t,_,rfl⟩:=TM.mp a
  exact⟨_,_,_,rfl,i⟩
 ·let⟨t,_,rfl⟩:=TM.mp a
  exact⟨Bh t,rfl,jG _ _⟩
 ·let⟨t,_,rfl⟩:=TM.mp a
  let⟨u,_,rfl⟩:=TM.mp j;cases(show P3 (Bh t)=P3 k from m);cases(show P3 (Bh u)=P3 l from o);rfl
 ·let⟨c,v,rfl⟩:=Rj (g:=aw) (λ_=>rfl) r
  exact p c v (Vx s)
theorem N6{N:Net}(ok:N.Ok){x:Str}{p:Str×Int}(h:p∈EY N.ts x):p.1∈N.ps/\1<=p.2/\p.2<=1000000/\∃t∈N.ts,t.len=p.2/\((t.a=x/\t.b=p.1)\/(t.b=x/\t.a=p.1)):=by
 let⟨t,c,h⟩:=jF.mp h;let⟨g,i,j,d,f⟩:=ok.tin t c
 rcases gP.mp h with h|h
 ·split at h
  ·rename_i e
   rw[Re.mp h];exact⟨i,d,f,t,c,rfl,.inl ⟨e,rfl⟩⟩
  ·cases h
 ·split at h
  ·rename_i e
   rw[Re.mp h];exact⟨g,d,f,t,c,rfl,.inr ⟨e,rfl⟩⟩
  ·cases h
theorem UH(s t:Aq):GY (Bh s) (Bh t)=BJ (Bh s) (Bh t):=Hw _ _ rfl
theorem Sd(s t:Aq):FN (Ai s) (Ai t)=q_↔s=t:=by
 let⟨a,b,l⟩:=s;let⟨c,d,e⟩:=t;show(a==c&&(b==d&&(l==e&&q_)))=q_↔_
 simp_all
theorem Me{a:s_ D}(h:∀d∈a,item d):Ce (.lst a):=by
 have c:=dps_le.mpr λd b=>(h d b).2.2;exact CP (by decide) (fines_iff.mpr λd b=>(h d b).1) (by show ES a+1<=100;omega)
theorem JM{a b:Type}(f:a->b):∀(l:s_ a) (i:Nat),(l.map f).eraseIdx i=(l.eraseIdx i).map f
 |[],i=>rfl
 |x::l,0=>rfl
 |x::l,i+1=>by
  show f x::(l.map f).eraseIdx i=f x::(l.eraseIdx i).map f;rw[JM f l i]
theorem YV{N:Net}(ok:N.Ok){x o:Str}{s t:Aq}(j:s∈N.ts)(k:t∈N.ts)(e:CG s t)(l:(s.a=x/\s.b=o)\/(s.b=x/\s.a=o))(m:(t.a=x/\t.b=o)\/(t.b=x/\t.a=o)):False:=by
 have i:=(ok.tin s j).2.2.1;have lt:=(ok.tin t k).2.2.1;have c:∀a,¬cs a<cs a:=λa=>kr _
 rcases l with⟨d,f⟩|⟨d,f⟩ <;>rcases m with⟨g,h⟩|⟨g,h⟩ <;>rw[d,f]at i <;>rw[g,h]at lt
 ·rcases e with e|⟨_,e⟩
  ·rw[d,g]at e;exact c _ e
  grind
 ·grind
 ·exact c _ (List.lt_trans i lt)
 ·rcases e with e|⟨_,e⟩
  ·rw[f,h]at e;exact c _ e
  grind
theorem T6{N:Net}(ok:N.Ok)(x:Str):((EY N.ts x).map (·.1)).Nodup:=by
 have m:∀c:s_ Aq,(∀t∈c,t∈N.ts)->c.Pairwise CG->((EY c x).map (·.1)).Nodup:=by
  intro c
  induction c with
  |nil=>intro _ _;exact h_
  | cons t c o=>
   intro d l;have k:=o (λs i=>d s (Rs _ i)) (iL.mp l).2;have lt:=(ok.tin t (d t Op)).2.2.1
   have f:∀y,((t.a=x/\t.b=y)\/(t.b=x/\t.a=y))->y∉(EY c x).map (·.1):=λy p q=>by
    let⟨s,i,h⟩:=N5 q;exact YV ok (d t Op) (d s (Rs _ i)) ((iL.mp l).1 s i) p h
   have e:EY (t::c) x=((if t.a=x then [(t.b,t.len)]else [])++(if t.b=x then [(t.a,t.len)]else []))++EY c x:=by
    unfold EY;rw[k_]
   rw[e]
   by_cases j:t.a=x
   ·have g:¬t.b=x:=λz=>by rw[j,z]at lt;exact kr _ lt
    rw[if_pos j,if_neg g,gq,lO,g7,gk];exact⟨f _ (.inl ⟨j,rfl⟩),k⟩
   ·rw[if_neg j,gy]
    by_cases g:t.b=x
    ·rw[if_pos g,lO,g7,gk]
     exact⟨f _ (.inr ⟨g,rfl⟩),k⟩
    ·rw[if_neg g,gy]
     exact k
 exact m N.ts (λ_ h=>h) ok.trise
end
def EH(t:Aq):s_ Key:=[.inr t.a,.inr t.b,.inl t.len]
def Mv(a:s_ Aq):Prop:=a.Pairwise λs t=>BJ (EH t) (EH s)=r_
def RZ(N:Net)(d:D):Prop:=∃a:s_ Aq,d=.tup [.tup (N.ps.map .str),.tup (a.map Ai)]/\(∀t∈a,t∈N.ts)/\a.Pairwise CG
noncomputable def thinB(N:Net)(d:D):Bool:=@decide (RZ N d) (k8 _)
theorem thinB_iff{N:Net}{d:D}:thinB N d=q_↔RZ N d:=by
 unfold thinB
 grind
theorem Wa{N:Net}{d:D}{b:Bool}(h:b=q_↔RZ N d):b=thinB N d:=by
 rw[iN,thinB_iff];exact h
def b8(N:Net)(d:D):Prop:=∃s∈N.ts,d=Ai s
noncomputable def Ki(N:Net)(d:D):Bool:=@decide (b8 N d) (k8 _)
theorem tofB_iff{N:Net}{d:D}:Ki N d=q_↔b8 N d:=by
 unfold Ki
 grind
theorem ZM{a:Str}{x:D}(h:FN (.str a) x=q_):x=.str a:=by
 cases x with
 |str b=>
  have h:(a==b)=q_:=h
  grind
 |_=>cases h
theorem dN{a:Str}{x:D}(h:FN x (.str a)=q_):x=.str a:=by
 cases x with
 |str b=>
  have h:(b==a)=q_:=h
  grind
 |_=>cases h
theorem Jg:∀{a:s_ D}{b:s_ Str},mF (Be a) (Be (b.map .str))=q_->a=b.map .str
 |[],[],_=>rfl
 |[],_::_,h=>by cases h
 |_::_,[],h=>by cases h
 |x::a,p::b,h=>by
  have h:(iF _ _&&mF _ _)=q_:=h;rw[gX]at h;rw[dN h.1,Jg h.2];rfl
theorem eqvAll_refl:∀a:s_ Str,mF (Be (a.map .str)) (Be (a.map .str))=q_
 |[]=>rfl
 |p::a=>by
  show((p==p)&&mF _ _)=q_;rw[beq_self_eq_true,eqvAll_refl a];rfl
theorem eqD_strs{p:D}{a:s_ Str}:FN p (.tup (a.map .str))=q_↔p=.tup (a.map .str):=by
 constructor
 ·intro h
  cases p with
  |tup b=>rw[Jg h]
  |_=>cases h
 ·rintro rfl
  exact eqvAll_refl a
theorem UW{s:Aq}{d:D}(h:FN (Ai s) d=q_):∃z,d=.tup [.str s.a,.str s.b,z]/\∀i,z=.int i->i=s.len:=by
 cases d with
 | tup c=>
  match c,h with
  |[x,y,z],h=>
   have h:(iF (toPy (.str s.a)) (toPy x)&&(iF (toPy (.str s.b)) (toPy y)&&(iF (.int s.len) (toPy z)&&q_)))=q_:=h;rw[Bool.and_true,gX,gX]at h;refine⟨z,by rw[ZM (a:=s.a) (x:=x) h.1,ZM (a:=s.b) (x:=y) h.2.1],λi e=>?_⟩;subst e;have f:(s.len==i)=q_:=h.2.2
   grind
  |[],h=>cases h
  |[x],h=>exact absurd h (by show ¬((iF (toPy (.str s.a)) (toPy x)&&r_)=q_);simp)
  |[x,y],h=>exact absurd h (by show ¬((iF (toPy (.str s.a)) (toPy x)&&(iF (toPy (.str s.b)) (toPy y)&&r_))=q_);simp)
  |x::y::z::u::r,h=>exact absurd h (by show ¬((iF (toPy (.str s.a)) (toPy x)&&(iF (toPy (.str s.b)) (toPy y)&&(iF (.int s.len) (toPy z)&&r_)))=q_);simp)
 |_=>cases h
theorem OU{f:Aq->D}{k:Aq->s_ Key}(d:∀s t,XI (f s) (f t)=P3 (BJ (k s) (k t))):∀{ts:s_ Aq},Yk (ts.map f)=q_↔ts.Pairwise λs t=>BJ (k s) (k t)=q_
 |[]=>⟨λ_=>.nil,λ_=>rfl⟩
 |[t]=>⟨λ_=>k7 _ _,λ_=>rfl⟩
 | s::t::r=>by
  show((XI _ _==P3 _)&&Yk ((t::r).map f))=q_↔_;rw[gX,OU d (ts:=t::r),d,iL (a:=s)];constructor
  ·rintro⟨b,e⟩
   have b:=gW (eq_of_beq b);refine⟨λu c=>?_,e⟩
   rcases TW.mp c with rfl|c
   ·exact b
   ·exact B7 _ _ _ b ((iL.mp e).1 u c)
  simp_all
theorem RB(s t:Aq):XI (Ai s) (Ai t)=P3 (BJ (EH s) (EH t)):=by
 show(if(q_&&(q_&&(q_&&q_)))=q_ then P3 (GY (EH s) (EH t))else p_)=_;rw[if_pos (show(q_&&(q_&&(q_&&q_)))=q_ from rfl),Hw _ _ rfl]
theorem MH(s:Aq):¬CG s s:=by
 rintro(h|⟨_,h⟩) <;>exact GP _ h
theorem Rm{s t:Aq}(h:CG s t):BJ (EH s) (EH t)=q_:=by
 show(if jH _=.inr _ then(if jH _=.inr _ then(if km _=.inl _ then r_ else decide _)else decide (cs _<cs _))else decide (cs _<cs _))=q_
 rcases h with h|⟨h,c⟩
 ·rw[if_neg (λe=>GP s.a (by simp_all)),decide_eq_true h]
 ·rw[if_pos (by rw[h]),if_neg (λe=>GP s.b (by grind)),decide_eq_true c]
theorem MU:∀{e:s_ Aq},e.Pairwise CG->∀s∈e,∀t∈e,s.a=t.a->s.b=t.b->s=t
 |[],_,s,c,_,_,_,_=>by cases c
 | x::e,h,s,c,t,d,g,i=>by
  have h:=iL.mp h
  rcases TW.mp c with j|c
  ·rcases TW.mp d with f|d
   ·rw[j,f]
   ·rcases h.1 t d with h|⟨_,h⟩
    ·grind
    grind
  ·rcases TW.mp d with f|d
   ·rcases h.1 s c with h|⟨_,h⟩
    ·rw[←f,g]at h;exact absurd h (GP _)
    grind
   ·exact MU h.2 s c t d g i
theorem YU{N:Net}(ok:N.Ok){s t:Aq}(f:s∈N.ts)(g:t∈N.ts)(h:BJ (EH s) (EH t)=q_):CG s t:=by
 have h:(if jH _=.inr _ then(if jH _=.inr _ then(if km _=.inl _ then r_ else decide _)else decide _)else decide _)=q_:=h
 by_cases c:s.a=t.a
 ·rw[if_pos (by rw[c])]at h
  by_cases d:s.b=t.b
  ·rw[if_pos (by rw[d]),if_pos (by rw[MU ok.trise s f t g c d])]at h
   cases h
  ·rw[if_neg (λe=>d (jn e)),decide_eq_true_eq]at h
   exact .inr ⟨c,h⟩
 ·rw[if_neg (λe=>c (jn e)),decide_eq_true_eq]at h
  exact .inl h
theorem A5{a:s_ Aq}(h:a.Pairwise CG):a.Nodup:=h.imp λ{s t} h e=>by rw[e]at h;exact MH _ h
theorem sub_len{l m:s_ Aq}(a:l.Nodup)(b:m.Nodup)(h:∀t∈l,t∈m):l.length<=m.length:=by
 have:l.Perm (m.filter λt=>decide (t∈l)):=(kW a (b.filter _)).mpr λt=>by
  simp_all
 rw[this.length_eq];exact iX _ _
theorem NN{N:Net}(ok:N.Ok){a:s_ Aq}(h:∀t∈a,t∈N.ts)(b:a.Pairwise CG):Net.Ok ⟨N.ps,a⟩:=⟨ok.names,ok.rise,λt c=>ok.tin t (h t c),b⟩
theorem MS{P:Aq->Prop}:∀{b:s_ D},(∀d∈b,∃s,P s/\d=Ai s)->∃a:s_ Aq,b=a.map Ai/\∀t∈a,P t
 |[],_=>⟨[],rfl,λt h=>by cases h⟩
 |d::b,h=>by
  let⟨s,f,rfl⟩:=h d Op;let⟨a,rfl,g⟩:=MS λe c=>h e (Rs _ c);refine⟨s::a,rfl,λt z=>?_⟩
  grind
theorem Ou{N:Net}{a:s_ D}(h:a.all (Ki N)=q_):∃b:s_ Aq,a=b.map Ai/\∀t∈b,t∈N.ts:=
 MS λd c=>by
  let⟨s,f,e⟩:=tofB_iff.mp (iQ.mp h d c);exact⟨s,f,e⟩
theorem TK{N:Net}(ok:N.Ok)(p:D)(b:s_ D):(FN p (.tup (N.ps.map .str))&&(b.all (Ki N)&&Yk b))=thinB N (.tup [p,.tup b]):=by
 refine Wa ⟨λh=>?_,λh=>?_⟩
 ·rw[gX,gX]at h
  let⟨f,rfl,a⟩:=Ou h.2.1;exists f,by rw[eqD_strs.mp h.1],a
  have:=(OU RB).mp h.2.2
  exact this.imp_of_mem λ{s t} g c z=>YU ok (a s g) (a t c) z
 ·let⟨f,e,a,i⟩:=h
  cases e;rw[gX,gX];refine⟨eqD_strs.mpr rfl,iQ.mpr λd j=>?_,(OU RB).mpr (i.imp λ{s t} z=>Rm z)⟩;let⟨t,c,rfl⟩:=TM.mp j;exact tofB_iff.mpr ⟨t,a t c,rfl⟩
theorem Ot{N:Net}{d:D}(h:∀p a,d≠.tup [p,.tup a]):thinB N d=r_:=by
 rw[ig];intro z;let⟨b,e,_⟩:=thinB_iff.mp z;exact h _ _ e
end Nt
namespace L2
open PySem.W
end L2
namespace Dp
open L2
end Dp
namespace Nt
open L2 Dp
def look(a:s_ Aq)(x y:Str):t_ Int:=((EY a x).find? λz=>decide (z.1=y)).map (·.2)
def GZ(a:s_ Aq):Str->s_ Str->Int->t_ Int
 |_,[],s=>P3 s
 |x,y::r,s=>match look a x y with
  |some l=>GZ a y r (s+l)
  |none=>p_
def TX:t_ Int->D
 |some i=>.int i
 |none=>.non
def Dt:D->Bool
 |.str _=>q_
 |_=>r_
def UE(N:Net):s_ Str->D
 |x::r=>if x∈N.ps then TX (GZ N.ts x r 0)else .non
 |[]=>.non
def N7(N:Net):D->D
 |.tup a=>if a.all Dt then UE N (strsOf a)else .non
 |_=>.non
def fair(d:D):Prop:=fine (10 ^ 30) d/\Cq d<=160000/\D_ d<=50
abbrev W9:W2:=λa n P=>∃(N:Net) (d:D),a=[.sh (enc N),.sh d]/\N.Ok/\N.ps.length<=26/\N.ts.length<=60/\fair d/\P (N7 N d) n
def QK:AY:=(Ad (BK (Eo (CW (AW (NI "tuple" (AC 1)))) (AW (AV (HL r_) (Cp Gb (AF (AC 1) AU)) (wC (D.int 0))))) (Au (wC D.non)) Aw)
 (Ad (BK (CW (AW (Cp OE (AF (Bp [p_] (BQ (AC 1)) (Ae 0) DB (NI "str" (AC 0))) AU)))) (Au (wC D.non)) Aw)
 (Ad (Ay 2 (AQ Oa (AB (AG (AC 0)) AO)))
 (Ad (BK (AW (AV (JL q_) (AV BC (AC 1) (wC (D.int 0))) (AC 2))) (Au (wC D.non)) Aw)
 (Ad (Ay 3 (wC (D.int 0)))
 (Ad (D9 (XY (AF (AC 1) (AF (MO ER (AC 1) (Bx (wC (D.int 1))) Bj) AU))) (E_ 2 (As (Ae 4) (As (Ae 5) Ck))) (Ad (BK (AW (AV (JL q_) (AC 5) (AV CI (AC 2) (AC 4)))) (Au (wC D.non)) Aw)
 (U4 3 (AV CI (AV CI (AC 2) (AC 4)) (AC 5)))))
 (Au (AC 3))))))))
theorem Km:∀{b:s_ D},b.all Dt=q_->∃a:s_ Str,b=a.map .str
 |[],_=>⟨[],rfl⟩
 |d::r,h=>by
  rw[nO,gX]at h;let⟨a,e⟩:=Km h.2;cases d with
  |str x=>exact⟨x::a,by grind⟩
  |_=>cases h.1
theorem all_strs(a:s_ Str):(a.map D.str).all Dt=q_:=by rw[ni];exact iQ.mpr λ_ _=>rfl
theorem KA{g:Str->D}{x:Str}:∀{a:s_ Str},BR (a.map .inr) (a.map g) (.inr x)=if x∈a then P3 (g x)else p_
 |[]=>rfl
 |p::a=>by
  show(if jH p=.inr x then P3 _ else BR _ _ _)=_;rw[KA]
  grind
theorem NK{y:Str}:∀{a:s_ (Str×Int)},BR (a.map λx=>.inr x.1) (a.map λx=>.int x.2) (.inr y)=((a.find? λz=>decide (z.1=y)).map (·.2)).map .int
 |[]=>rfl
 |p::b=>by
  show(if jH _=.inr y then P3 _ else BR _ _ _)=_;rw[NK]
  by_cases e:p.1=y
  ·simp_all
  simp_all
theorem V8{N:Net}(ok:N.Ok){x y:Str}{l:Int}(h:look N.ts x y=P3 l):y∈N.ps/\1<=l/\l<=1000000:=by
 unfold look at h;cases c:(EY N.ts x).find? λz=>decide (z.1=y)with
 |none=>grind
 |some z=>
  have d:=m7 c;let⟨t,b,a⟩:=jF.mp (ke c);let⟨e,f,_,g,i⟩:=ok.tin t b
  rcases gP.mp a with a|a
  ·simp_all
  simp_all
section
variable {ss:s_ Slot}{n:Nat}{Pd:D->Nat->Prop}
theorem Pl{N:Net}(ok:N.Ok){d:E2}{e f:Slot}:∀(r:s_ Str) (x:Str) (s:Int) (a b:Slot),x∈N.ps->(match GZ N.ts x r s with|some l=>∀a b,d.nx n [e,f,.sh (FQ N),.sh (.int l),a,b]|none=>d.rt .non n)->
  BP (E_ 2 (As (Ae 4) (As (Ae 5) Ck))) (Ad (BK (AW (AV (JL q_) (AC 5) (AV CI (AC 2) (AC 4)))) (Au (wC D.non)) Aw) (U4 3 (AV CI (AV CI (AC 2) (AC 4)) (AC 5)))) d (Ea ((x::r).map .str) (r.map .str)) n [e,f,.sh (FQ N),.sh (.int s),a,b]
 |[],x,s,a,b,g,h=>h a b
 | y::r,x,s,a,b,g,h=>by
  have i:BR (N.ps.map .inr) (N.ps.map (XH N.ts)) (.inr x)=P3 (XH N.ts x):=by rw[KA,if_pos g]
  exists rfl,rfl;exists _,_,.inr x,_,rfl,rfl,i,_,_,.inr y,rfl,rfl;rw[NK];unfold GZ at h;have j:((EY N.ts x).find? λz=>decide (z.1=y)).map (·.2)=look N.ts x y:=rfl;rw[j];cases c:look N.ts x y with
  |none=>rw[c]at h;exact CQ h
  |some l=>
   rw[c]at h;have k:BR ((EY N.ts x).map λz=>.inr z.1) ((EY N.ts x).map λz=>.int z.2) (.inr y)=P3 (.int l):=by rw[NK,j,c];rfl
   refine CS ⟨s,rfl,_,_,.inr x,_,rfl,rfl,i,_,_,.inr y,_,rfl,rfl,k,l,rfl,?_⟩;exact Pl ok r y (s+l) _ _ (V8 ok c).1 h
theorem Nb(t:W9 ss n Pd):QK (EE Pd) n (ss++Uf 4 .no):=by
 let⟨N,d,rfl,ok,v,lt,fd,p⟩:=t;cases d with
 | tup b=>
  have w:=BX b;have x:CC b<=160000:=fd.2.1;have f:Pd (if b.all Dt then UE N (strsOf b)else .non) n:=p;exists _,_,rfl,rfl;show if((b.length:Int)==0)=q_ then _ else _
  cases b with
  |nil=>exact CQ f
  | cons g h=>
   rw[show(((g::h).length:Int)==0)=r_ from beq_eq_false_iff_ne.mpr (by rw[gS];omega)];refine CS ⟨by omega,?_⟩;refine Bn (λd=>.bl (Dt d)) (λq=>∃s,q=[s]) _ _ _ _ ?_ ⟨_,rfl⟩ ?_
   ·rintro d z q m A ⟨s,rfl⟩ i
    have:=i [.sh d] ⟨_,rfl⟩
    cases d <;>exact this
   rw[gy];exists _,_,rfl,F2 Dt (g::h);rw[Wy];show if(!(g::h).all Dt)=q_ then _ else _
   cases k:(g::h).all Dt with
   |false=>rw[k]at f;exact CQ f
   | true=>
    rw[k]at f;let⟨u,e⟩:=Km k;rw[e,Dh]at f;cases u with
    |nil=>cases e
    | cons y r=>
     rw[g7]at e;cases e;refine CS ⟨N,rfl,ok,by omega,by omega,?_⟩;exists .str y,AL (j:=0) rfl,_,_,.inr y,rfl,rfl;show if(!(BR (N.ps.map .inr) (N.ps.map (XH N.ts)) (.inr y)).isSome)=q_ then _ else _
     rw[KA];have a:Pd (if y∈N.ps then TX (GZ N.ts y r 0)else .non) n:=f
     by_cases o:y∈N.ps
     ·rw[if_pos o]at a ⊢
      refine CS ⟨_,_,(y::r).map .str,r.map .str,rfl,rfl,by show P3 (Dp.cutD (D.str y::r.map .str) (P3 1) p_)=_;rw[bA];rfl,?_⟩;refine Pl ok r y 0 _ _ o ?_;cases c:GZ N.ts y r 0 with
      |none=>rw[c]at a;exact a
      |some l=>rw[c]at a;exact λ_ _=>a
     ·rw[if_neg o]at a ⊢
      exact CQ a
 |_=>exact p
theorem Fi{b:BW}{p:Gg}{q:DW}{P:s_ D->Nat->Prop}(c:D->Bool)(g:D->D)(I:s_ Slot->Prop):∀(j e:s_ D) (n:Nat) (f:s_ Slot),
  (∀d∈j,∀(f:s_ Slot) (n:Nat) (r:D->Nat->s_ Slot->Prop) (s:Nat->s_ Slot->Prop),I f->(∀i,I i->c d=q_->r (g d) n i)->(∀i,I i->c d=r_->s n i)->b d f λk=>p n k λc t=>if c=q_ then q t k λy u=>r y u k else s t k)->I f->P (e++(j.filter c).map g) n->C5 b p q P j e n f
 |[],e,n,f,_,_,h=>by rw[List.filter_nil,mZ,gq]at h;exact h
 |d::j,e,n,f,l,m,h=>l d Op f n _ _ m
  (λi a v=>Fi c g I j _ n _ (λd o=>l d (Rs _ o)) a (by simp_all))
  (λi a v=>Fi c g I j _ n _ (λd o=>l d (Rs _ o)) a (by grind))
end
def Ym:W2:=λa n P=>∃(N:Net) (d:D),a=[.sh (enc N),.sh d]/\N.Ok/\Ce d/\P (.bl (Ki N d)) n
def QQ:W2:=λa n P=>∃(N:Net) (d:D),a=[.sh (enc N),.sh d]/\N.Ok/\N.ps.length<=24/\N.ts.length<=60/\fine (10 ^ 41) d/\Cq d<=200000/\D_ d<=90/\P (.bl (thinB N d)) n
def ND:W2:=λc n P=>∃(N:Net) (b:s_ Aq),c=[.sh (enc N),.sh (enc ⟨N.ps,b⟩)]/\N.Ok/\N.ts.length<64/\(∀t∈b,t∈N.ts)/\∀a:s_ Aq,a.Perm (N.ts.filter λt=>decide (t∉b))->Bo a->P (.lst (a.map Ai)) n
def Jn:AY:=(Au (NJ (AV (LW r_) (AC 1) (AV BC (AC 0) (wC (D.int 1)))) (AQ Lx (AB (AG (AV BC (AC 1) (wC (D.int 2)))) AO))))
def M7:AY:=(Ad (BK (Eo (CW (AW (AQ C_ (AB (AG (wC (D.int 2))) (AB (AG (AC 1)) AO))))) (CW (AW (NI "tuple" (AV BC (AC 1) (wC (D.int 1))))))) (Au (wC (D.bl r_))) Aw)
 (Au (NJ (AV ah (AV BC (AC 1) (wC (D.int 0))) (AV BC (AC 0) (wC (D.int 0)))) (NJ (Cp OE (AF (Bp [P3 0,p_] (BQ (AV BC (AC 1) (wC (D.int 1)))) (Ae 1) DB (AQ Ym (AB (AG (AC 0)) (AB (AG (AC 1)) AO)))) AU)) (AQ KS (AB (AG (AV BC (AC 1) (wC (D.int 1)))) AO))))))
def Ln:AY:=(Au (AQ DN (AB (AG (Bp [P3 1,p_] (BQ (AV BC (AC 0) (wC (D.int 1)))) (Ae 1) (AW (AV (LW q_) (AC 1) (AV BC (AC 0) (wC (D.int 1))))) (AC 1))) AO)))
def FI:AY:=(Au (Bp [p_,p_,p_] (BQ (Cp HK (AF (Bp [p_] (BQ (AC 0)) (Ae 0) DB (Bc (AF (AV BC (AC 0) (wC (D.int 2))) (AF (AV BC (AC 0) (wC (D.int 0))) (AF (AV BC (AC 0) (wC (D.int 1))) AU))))) AU))) (E_ 3 (As (Ae 0) (As (Ae 1) (As (Ae 2) Ck)))) DB (Bc (AF (AC 1) (AF (AC 2) (AF (AC 0) AU))))))
theorem SD{a:s_ Aq}(h:IZ Cv (a.map Ai)):Mv a:=by
 unfold IZ at h;rw[kA]at h;exact h.imp λ{s t} z=>z _ _ rfl rfl
theorem C6{N:Net}(ok:N.Ok){a:s_ Aq}(h:∀t∈a,t∈N.ts):Ce (.tup (a.map Ai))/\Ce (.lst (a.map Ai)):=by
 have c:∀d∈a.map Ai,item d:=λd b=>by
  let⟨t,e,rfl⟩:=TM.mp b;exact LJ ok _ (TM.mpr ⟨t,h t e,rfl⟩)
 have f:ES (a.map Ai)<=1:=dps_le.mpr λd b=>(c d b).2.2;exact⟨CP (B:=1000001) (by decide) (fines_iff.mpr λd b=>(c d b).1) (by show ES (a.map Ai)+1<=100;omega),Me c⟩
theorem E7{N:Net}(ok:N.Ok){t:Aq}(h:t∈N.ts):Ce (Ai t):=by
 have a:=LJ ok _ (TM.mpr ⟨t,h,rfl⟩);exact CP (B:=1000001) (by decide) a.1 (by have:=a.2.2;omega)
theorem IM{ts:s_ Aq}{t:Aq}:((ts.map Ai).any λy=>FN y (Ai t))=decide (t∈ts):=by
 rw[iN,kQ,decide_eq_true_eq];constructor
 ·rintro⟨d,a,e⟩
  let⟨s,b,rfl⟩:=TM.mp a;rw[←(Sd s t).mp e];exact b
 ·intro h
  exact⟨Ai t,TM.mpr ⟨t,h,rfl⟩,(Sd t t).mpr rfl⟩
theorem SK:∀a:s_ D,a.length<=CC a
 |[]=>Tk _
 |x::a=>by
  have:=SK a
  show a.length+1<=Cq x+1+CC a;omega
theorem Pn:∀c:s_ Aq,200*c.length<=CC (c.map Ai)
 |[]=>Tk _
 |t::c=>by
  have:=Pn c
  show 200*(c.length+1)<=t.a.length+1+(t.b.length+1+(200+1+0))+1+CC (c.map Ai);omega
section
variable {ss:s_ Slot}{n:Nat}{Pd:D->Nat->Prop}
theorem Nf(h:Ym ss n Pd):Jn (EE Pd) n (ss++Uf 0 .no):=by
 let⟨N,d,rfl,ok,g,p⟩:=h;unfold Jn;exists _,AL (j:=1) rfl,g,(C6 ok λ_ h=>h).1,_,rfl;cases c:(N.ts.map Ai).any λy=>FN y d with
 | false=>
  have:Ki N d=r_:=by
   rw[ig];intro z;let⟨s,f,rfl⟩:=tofB_iff.mp z;rw[IM,decide_eq_true f]at c;cases c
  rw[this]at p;exact p
 | true=>
  let⟨e,k,q⟩:=kQ.mp c;let⟨s,f,rfl⟩:=TM.mp k;let⟨z,rfl,l⟩:=UW q;exists _,AL (j:=2) rfl,[z],rfl,rfl
  have:Ki N (.tup [.str s.a,.str s.b,z])=Uv z:=by
   rw[iN,tofB_iff];constructor
   ·rintro⟨t,_,e⟩
    have e:z=.int t.len:=by injection e with e;injection e with _ e;injection e with _ e;injection e
    rw[e];rfl
   ·intro m
    cases z with
    |int i=>exact⟨s,f,by rw[l i rfl];rfl⟩
    |_=>cases m
  rw[this]at p;exact p
theorem Qp(h:QQ ss n Pd):M7 (EE Pd) n (ss++Uf 0 .no):=by
 let⟨N,d,rfl,ok,H,I,o,u,v,p⟩:=h;unfold M7;exists 2,d,rfl;cases f:tupleOfB 2 d with
 |false=>
  rw[Ot (λp c e=>by rw[e]at f;cases f)]at p;exact CQ p
 | true=>
  let⟨x,y,rfl⟩:=eU f;refine CS ⟨_,AL (j:=1) rfl,?_⟩;cases y with
  | tup c=>
   rw[←TK ok]at p;have w:fine (10 ^ 41) x:=o.1;have z:FG (10 ^ 41) c:=o.2.1;have A:max (D_ x) (max (ES c+1) 0)+1<=90:=v;have C:Cq x+1+(CC c+1+0)<=200000:=u;refine CS ⟨_,AL (j:=0) rfl,_,AL (j:=0) rfl,CP (B:=10 ^ 41) (by decide) w (by omega),Mf ok.names,?_⟩;refine RW (b1:=FN x (.tup (N.ps.map .str))) (b2:=c.all (Ki N)&&Yk c) (P:=Pd) (n:=n) (k:=λP=>_) (λ_ g=>?_) p;refine⟨_,AL (j:=1) rfl,by show c.length<=10000000;have:=SK c;omega,?_⟩;refine Bn (λd=>.bl (Ki N d)) (λq=>∃s,q=[.sh (enc N),s]) _ _ _ _ ?_ ⟨_,rfl⟩ ?_
   ·rintro e r q m J ⟨s,rfl⟩ i
    have D:ES c<=88:=by omega
    exact⟨N,e,rfl,ok,CP (B:=10 ^ 41) (by decide) (fines_iff.mp z e r) (by have:=dps_le.mp D e r;omega),i _ ⟨_,rfl⟩⟩
   rw[gy];exists _,_,rfl,F2 (Ki N) c;rw[Wy];refine RW (b1:=c.all (Ki N)) (b2:=Yk c) (P:=Pd) (n:=n) (k:=λP=>_) (λl g=>?_) g;let⟨E,rfl,F⟩:=Ou l
   have:=Pn E
   refine⟨_,AL (j:=1) rfl,_,_,rfl,rfl,by rw[No];omega,λa l b G=>?_,g⟩;let⟨s,_,rfl⟩:=TM.mp l;let⟨t,_,rfl⟩:=TM.mp G;exact⟨_,RB s t⟩
  |_=>
   rw[Ot (λp c e=>by cases e)]at p;exact CQ p
theorem O8(h:ND ss n Pd):Ln (EF Pd) n (ss++Uf 0 .no):=by
 let⟨N,a,rfl,ok,b,f,p⟩:=h;unfold Ln;refine⟨_,AL (j:=1) rfl,by show(N.ts.map Ai).length<=10000000;rw[No];omega,?_⟩;refine Fi (λd=>!((a.map Ai).any λy=>FN y d)) id (λg=>∃s,g=[.sh (enc ⟨N.ps,a⟩),s]) _ _ _ _ ?_ ⟨_,rfl⟩ ?_
 ·rintro d i g m q r ⟨s,rfl⟩ k l
  let⟨t,o,rfl⟩:=TM.mp i;exists _,AL (j:=1) rfl,E7 ok o,(C6 ok f).1,_,rfl;exact CB (λc=>k _ ⟨_,rfl⟩ c) λc=>l _ ⟨_,rfl⟩ (ig.mpr c)
 ·rw[gy,nE]
  have e:(N.ts.map Ai).filter (λd=>!((a.map Ai).any λy=>FN y d))=(N.ts.filter λt=>decide (t∉a)).map Ai:=by
   rw[m8]
   congr 1
   refine kC λt _=>?_;show(!((a.map Ai).any λy=>FN y (Ai t)))=decide (t∉a);rw[IM,decide_not]
  rw[e];exact⟨_,_,rfl,rfl,jx (iX _ _) b,p⟩
theorem J0(h:DN ss n Pd):FI (EF Pd) n (ss++Uf 0 .no):=by
 let⟨d,B,rfl,e,v,p⟩:=h;have G:=PySem.sizeLine_eq;unfold FI
 have C:(B.map Ai).length<=10000000/\C5 (Ae 0) DB (Bc (AF (AV BC (AC 0) (wC (D.int 2))) (AF (AV BC (AC 0) (wC (D.int 0))) (AF (AV BC (AC 0) (wC (D.int 1))) AU)))) (λi w=>HK [.lst i] λz=>BQ (wC z) w [] λE H=>E.length<=10000000/\C5 (E_ 3 (As (Ae 0) (As (Ae 1) (As (Ae 2) Ck)))) DB (Bc (AF (AC 1) (AF (AC 2) (AF (AC 0) AU)))) (λi w=>Pd (.lst i) w) E [] H [.no,.no,.no]) (B.map Ai) [] n [.no]:=by
  refine⟨by rw[No];omega,?_⟩;refine Bn PD (λq=>∃s,q=[s]) _ _ _ _ ?_ ⟨_,rfl⟩ ?_
  ·rintro d e q m I ⟨s,rfl⟩ k
   let⟨t,J,rfl⟩:=TM.mp e;exact⟨_,AL (j:=2) rfl,_,AL (j:=0) rfl,_,AL (j:=1) rfl,z3,k _ ⟨_,rfl⟩⟩
  rw[gy,ij];refine⟨_,_,rfl,rfl,by rw[No];exact v,⟨λx A=>?_,λx A y K L M N O=>?_⟩,λP Q r=>?_⟩
  ·let⟨t,_,rfl⟩:=TM.mp A
   exact⟨Bh t,rfl,jG _ _⟩
  ·let⟨t,_,rfl⟩:=TM.mp A
   let⟨u,_,rfl⟩:=TM.mp K;cases(show P3 (Bh t)=P3 L from N);cases(show P3 (Bh u)=P3 M from O);rfl
  ·let⟨o,F,rfl⟩:=Rj (f:=PD∘Ai) (g:=λd=>match d with|.tup [.int l,.str a,.str b]=>⟨a,b,l⟩|_=>⟨"","",0⟩) (λ_=>rfl) Q
   have r:Bo o:=by
    unfold IZ at r;rw[kA]at r;exact r.imp λ{s t} z=>z _ _ rfl rfl
   refine⟨by show(o.map (PD∘Ai)).length<=10000000;rw[No,F.length_eq];omega,?_⟩;refine Bn (λd=>match d with|.tup [l,a,b]=>.tup [a,b,l]|d=>d) (λq=>∃a b c,q=[a,b,c]) _ _ _ _ ?_ ⟨_,_,_,rfl⟩ ?_
   ·rintro d e q m I ⟨a,b,c,rfl⟩ k
    let⟨t,J,rfl⟩:=TM.mp e;exact⟨rfl,rfl,z3,k _ ⟨_,_,_,rfl⟩⟩
   ·rw[gy,ij]
    exact p o F r
 cases d with
 |lst R=>cases e;exact C
 |tup R=>cases e;exact C
 |_=>cases e
end
theorem P9(a:s_ D)(b c:t_ Int):(∀d∈Dp.cutD a b c,d∈a)/\(Dp.cutD a b c).length<=a.length:=by
 unfold Dp.cutD;exact⟨λd e=>lf (kO e),by rw[jA,mV];omega⟩
theorem U_{s t:Aq}(h:EH s=EH t):s=t:=by
 let⟨a,b,l⟩:=s;let⟨c,d,e⟩:=t;unfold EH at h;simp only[List.cons.injEq,Sum.inl.injEq,Sum.inr.injEq,and_true]at h;let⟨rfl,rfl,rfl⟩:=h;rfl
theorem G2{c d:s_ Aq}(p:c.Perm d)(e:Mv c)(f:Mv d):c=d:=Ni (λa b x y=>U_ (B8 _ _ y x)) p e f
theorem E9{a:s_ Aq}(h:a.Pairwise CG):Mv a:=h.imp λ{s t} z=>by
 cases e:BJ (EH t) (EH s)with
 |false=>rfl
 |true=>
  have:=B7 _ _ _ (Rm z) e
  rw[Bq]at this;cases this
def OY:W2:=λc n P=>c=[.fd]/\3<=n/\∀(t b:Int) (a:Nat),1<=b->b<=t->t<=1000000->n - 3<=a->P (.tup [.int t,.int b]) a
def GS:W2:=λa n P=>∃l t b x:Int,a=[.sh (.int l),.sh (.tup [.int t,.int b]),.sh (.int x)]/\1<=b/\b<=1000000/\1<=t/\t<=1000000/\P (.bl (decide (l*b<=x*t))) n
def QL:AY:=(Au (AV WV (AV Cf (AC 0) (AV BC (AC 1) (wC (D.int 1)))) (AV Cf (AC 2) (AV BC (AC 1) (wC (D.int 0))))))
def OR:AY:=(Ad (Ay 1 (DZ (AF (Bc (AF (wC (D.int 2)) (AF (wC (D.int 1)) AU))) (AF (Bc (AF (wC (D.int 3)) (AF (wC (D.int 2)) AU))) (AF (Bc (AF (wC (D.int 1)) (AF (wC (D.int 1)) AU))) (AF (Bc (AF (wC (D.int 3)) (AF (wC (D.int 1)) AU))) (AF (Bc (AF (wC (D.int 5)) (AF (wC (D.int 2)) AU))) (AF (Bc (AF (wC (D.int 1000)) (AF (wC (D.int 999)) AU))) (AF (Bc (AF (AV (QS ML λi j=>D.int (i ^ j.toNat)) (wC (D.int 10)) (wC (D.int 6))) (AF (wC (D.int 1)) AU))) (AF (Bc (AF (AV (QS ML λi j=>D.int (i ^ j.toNat)) (wC (D.int 10)) (wC (D.int 6))) (AF (AV (QS ML λi j=>D.int (i ^ j.toNat)) (wC (D.int 10)) (wC (D.int 6))) AU))) AU))))))))))
 (Ad (Ay 2 (AQ BG (AB (Az 0) (AB (AG (wC (D.int 12))) AO))))
 (Ad (BK (AW (AV Fn (AC 2) (wC (D.int 8)))) (Au (AV BC (AC 1) (AC 2))) Aw)
 (Ad (Ay 3 (AV A0 (wC (D.int 1)) (AQ BG (AB (Az 0) (AB (AG (wC (D.int 20))) AO)))))
 (Au (Bc (AF (AV A0 (AC 3) (AQ BG (AB (Az 0) (AB (AG (AV Cf (wC (D.int 3)) (AC 3))) AO)))) (AF (AC 3) AU))))))))
section
variable {ss:s_ Slot}{n:Nat}{Pd:D->Nat->Prop}
theorem fj{i j:Int}(a:0<=j)(b:j<=1000000):CMul i j:=.inr ⟨by omega,by omega⟩
theorem gI{i j:Int}(a:0<=i)(b:i<=1000000):CMul i j:=.inl ⟨by omega,by omega⟩
theorem Nd(h:GS ss n Pd):QL (EE Pd) n (ss++Uf 0 .no):=by
 let⟨l,t,b,x,rfl,d,a,e,c,p⟩:=h;exact⟨_,AL rfl,fj (by omega) a,_,AL rfl,fj (by omega) c,p⟩
theorem Nc(h:OY ss n Pd):OR (EE Pd) n (ss++Uf 3 .no):=by
 let⟨rfl,k,p⟩:=h;refine⟨z2,z2,z2,z2,z2,z2,fP,z2,fP,fP,z2,by decide,?_⟩;refine⟨12,rfl,by decide,by decide,by omega,λr a l=>?_⟩;refine CB (λc=>?_) λc=>?_
 ·have c:r<8:=of_decide_eq_true c
  let⟨z,e,t,b,rfl,f,g,i⟩:=Ww (p:=λd=>∃t b:Int,d=.tup [.int t,.int b]/\1<=b/\b<=t/\t<=1000000) (xs:=[.tup [.int 2,.int 1],.tup [.int 3,.int 2],.tup [.int 1,.int 1],.tup [.int 3,.int 1],.tup [.int 5,.int 2],.tup [.int 1000,.int 999],.tup [.int ((10:Int) ^ (6:Int).toNat),.int 1],.tup [.int ((10:Int) ^ (6:Int).toNat),.int ((10:Int) ^ (6:Int).toNat)]]) (λd j=>by
   simp only[TW,or_false]at j
   grind) a (by omega)
  exact⟨_,e,p t b _ f g i (by omega)⟩
 ·refine⟨20,rfl,by decide,by decide,by omega,λs m o=>?_⟩
  refine⟨gI (by decide) (by decide),_,rfl,by omega,by omega,by omega,λu q v=>⟨z2,p _ _ _ (by omega) (by omega) (by omega) (by omega)⟩⟩
end
def Ed(N:Net)(x y:Str)(l:Int):Prop:=(y,l)∈EY N.ts x
inductive Wk (N:Net) (s:Str):Str->Int->Prop
 |nil:Wk N s s 0
 |snoc {x y:Str}{d l:Int}:Wk N s x d->Ed N x y l->Wk N s y (d+l)
def Least(N:Net)(s x:Str)(d:Int):Prop:=Wk N s x d/\∀a,Wk N s x a->d<=a
theorem Ed.pos{N:Net}(ok:N.Ok){x y:Str}{l:Int}(h:Ed N x y l):1<=l/\l<=1000000:=by
 let⟨_,a,b,_⟩:=N6 ok h
 simp_all
theorem Ed.ins{N:Net}(ok:N.Ok){x y:Str}{l:Int}(h:Ed N x y l):y∈N.ps:=(N6 ok h).1
theorem Wk.pos{N:Net}(ok:N.Ok){s x:Str}{d:Int}(h:Wk N s x d):0<=d:=by
 induction h with
 |nil=>omega
 |snoc _ a b=>have:=a.pos ok;omega
theorem Least.unique{N:Net}{s x:Str}{d a:Int}(h:Least N s x d)(b:Least N s x a):d=a:=by
 have:=h.2 a b.1
 have:=b.2 d h.1
 omega
theorem IG{N:Net}{s:Str}{F:Str->t_ Int}(c:∃d,F s=P3 d/\d<=0)(f:∀x d,F x=P3 d->Wk N s x d)(j:∀x d y l,F x=P3 d->Ed N x y l->∃b,F y=P3 b/\b<=d+l):
  (∀x d,F x=P3 d->Least N s x d)/\∀x d,Wk N s x d->F x≠p_:=by
 have a:∀x d,Wk N s x d->∃b,F x=P3 b/\b<=d:=by
  intro x d h
  induction h with
  |nil=>exact c
  |snoc _ k m=>
   grind
 refine⟨λx d e=>⟨f x d e,λb h=>?_⟩,λx d h e=>?_⟩
 ·let⟨g,i,n⟩:=a x b h
  simp_all
 ·let⟨g,i,_⟩:=a x d h
  grind
theorem KL{N:Net}{t:Aq}(c:t∈N.ts):Ed N t.a t.b t.len/\Ed N t.b t.a t.len:=by
 constructor
 ·exact jF.mpr ⟨t,c,iJ _ (by simp_all)⟩
 ·exact jF.mpr ⟨t,c,f8 _ (by simp_all)⟩
theorem Ed.tie{N:Net}(ok:N.Ok){x y:Str}{l:Int}(h:Ed N x y l):∃t∈N.ts,t.len=l/\((t.a=x/\t.b=y)\/(t.b=x/\t.a=y)):=by
 let⟨_,_,_,t,c,e,h⟩:=N6 ok h;exact⟨t,c,e,h⟩
structure Dmap (ks:List Key) (ds:List D) (enc:α->D) (F:Str->Option α):Prop where
 len:ks.length=ds.length
 at_:∀x:Str,BR ks ds (.inr x)=(F x).map enc
 dom:∀k∈ks,∃x:Str,k=.inr x
 nd:ks.Nodup
theorem Dmap.mem{c:Type}{b:s_ Key}{ds:s_ D}{enc:c->D}{F:Str->t_ c}(h:Dmap b ds enc F)(x:Str):(.inr x∈b)↔F x≠p_:=by
 constructor
 ·intro a e
  let⟨z,d⟩:=Ij h.len a;rw[h.at_,e]at d;cases d
 ·intro f
  by_cases a:jH x∈b
  ·exact a
  ·have:=MQ (ds:=ds) a
   rw[h.at_]at this
   simp_all
theorem Dmap.one{b:Type}{enc:b->D}{s:Str}{a:b}:Dmap [.inr s] [enc a] enc (λx=>if x=s then P3 a else p_):=by
 refine⟨rfl,λx=>?_,λk c=>⟨s,Re.mp c⟩,gk.mpr ⟨gU,h_⟩⟩;show(if jH s=.inr x then P3 _ else p_)=(if x=s then P3 a else p_).map _
 by_cases e:x=s
 ·simp_all
 ·rw[if_neg e,if_neg (λz=>e (jn z).symm)];rfl
def Io{b:Type}(F:Str->t_ b)(x:Str)(a:b):Str->t_ b:=λy=>if y=x then P3 a else F y
theorem Bm{b:Type}{F:Str->t_ b}{x:Str}{a:b}:Io F x a x=P3 a:=if_pos rfl
theorem Bk{b:Type}{F:Str->t_ b}{x y:Str}{a:b}(h:y≠x):Io F x a y=F y:=if_neg h
theorem Dmap.put{d:Type}{f:s_ Key}{g:s_ D}{enc:d->D}{F:Str->t_ d}(h:Dmap f g enc F)(x:Str)(a:d):Dmap (DP f (.inr x)) (Dr f g (.inr x) (enc a)) enc (Io F x a):=by
 exists Ry h.len,λy=>?_,λk c=>?_
 ·rw[U7 h.len]
  unfold Io
  by_cases e:y=x
  ·rw[if_pos e,if_pos (by rw[e])];rfl
  ·rw[if_neg e,if_neg (λz=>e (jn z)),h.at_]
 ·unfold DP at c
  split at c
  ·exact h.dom k c
  ·rcases gP.mp c with c|c
   ·exact h.dom k c
   simp_all
 ·unfold DP
  split
  ·exact h.nd
  ·rename_i i
   rw[iB];refine⟨h.nd,gk.mpr ⟨gU,h_⟩,λa j b l e=>i (hasK_iff.mpr ?_)⟩
   grind
theorem Dmap.le{d:Type}{a:s_ Key}{g:s_ D}{enc:d->D}{F:Str->t_ d}(h:Dmap a g enc F){b:s_ Str}(i:∀x,F x≠p_->x∈b):a.length<=b.length:=by
 have:∀(a:s_ Key) (b:s_ Str),a.Nodup->(∀k∈a,∃x:Str,k=.inr x/\x∈b)->a.length<=b.length:=by
  intro a
  induction a with
  |nil=>simp_all
  | cons k a l=>
   intro b c e;let⟨x,rfl,n⟩:=e k Op;have c:=gk.mp c
   have o:=l (b.erase x) c.2 λj m=>by
    let⟨y,rfl,p⟩:=e j (Rs _ m)
    grind
   grind
 refine this a b h.nd λk f=>?_;let⟨x,rfl⟩:=h.dom k f;exact⟨x,rfl,i x ((h.mem x).mp f)⟩
abbrev Of:=Str->t_ (Int×t_ Str)
structure Dj (N:Net) (s:Str) (F:Of) (Wt:List Str):Prop where
 start:F s=P3 (0,p_)
 ins:∀x,F x≠p_->x∈N.ps
 wk:∀x d p,F x=P3 (d,p)->Wk N s x d
 prev:∀x d p,F x=P3 (d,p)->(p=p_/\x=s)\/∃y dy q l,p=P3 y/\F y=P3 (dy,q)/\y∉Wt/\Ed N y x l/\d=dy+l
 wfound:∀x∈Wt,F x≠p_
 nd:Wt.Nodup
 done:∀x d p y l,F x=P3 (d,p)->x∉Wt->Ed N x y l->∃dy q,F y=P3 (dy,q)/\dy<=d+l
 near:∀x d p y dy q,F x=P3 (d,p)->x∉Wt->F y=P3 (dy,q)->y∈Wt->d<=dy
theorem Dj.init{N:Net}{s:Str}(c:s∈N.ps):Dj N s (λx=>if x=s then P3 (0,p_)else p_) [s]:=by
 have a:∀x d p,(if x=s then P3 ((0:Int),(p_:t_ Str))else p_)=P3 (d,p)->x=s/\d=0/\p=p_:=λx d p e=>by
  grind
 refine⟨if_pos rfl,λx e=>?_,λx d p e=>?_,λx d p e=>?_,λx b=>?_,gk.mpr ⟨gU,h_⟩,λx d p y l e b=>?_,λx d p y f q e b=>?_⟩
 ·grind
 ·let⟨rfl,rfl,rfl⟩:=a x d p e
  exact .nil
 ·let⟨rfl,rfl,rfl⟩:=a x d p e
  exact .inl ⟨rfl,rfl⟩
 ·simp_all
 ·exact absurd (Re.mpr (a x d p e).1) b
 ·exact absurd (Re.mpr (a x d p e).1) b
structure Dm (N:Net) (s:Str) (F:Of) (Wt:List Str) (v:Str) (dv:Int) (seen:List (Str×Int)):Prop where
 start:F s=P3 (0,p_)
 ins:∀x,F x≠p_->x∈N.ps
 wk:∀x d p,F x=P3 (d,p)->Wk N s x d
 prev:∀x d p,F x=P3 (d,p)->(p=p_/\x=s)\/∃y dy q l,p=P3 y/\F y=P3 (dy,q)/\y∉Wt/\Ed N y x l/\d=dy+l
 wfound:∀x∈Wt,F x≠p_
 nd:Wt.Nodup
 done:∀x d p y l,F x=P3 (d,p)->x∉Wt->x≠v->Ed N x y l->∃dy q,F y=P3 (dy,q)/\dy<=d+l
 near:∀x d p y dy q,F x=P3 (d,p)->x∉Wt->F y=P3 (dy,q)->y∈Wt->d<=dy
 here:∃p,F v=P3 (dv,p)
 out:v∉Wt
 least:∀x d p,F x=P3 (d,p)->x∉Wt->d<=dv
 gone:∀y l,(y,l)∈seen->∃dy q,F y=P3 (dy,q)/\dy<=dv+l
theorem Dj.take{N:Net}{s:Str}{F:Of}{c:s_ Str}(h:Dj N s F c){v:Str}{dv:Int}{p:t_ Str}(o:v∈c)(e:F v=P3 (dv,p))(i:∀y∈c,∀g q,F y=P3 (g,q)->dv<=g):Dm N s F (c.erase v) v dv []:=by
 have f:∀x,x∈c.erase v->x∈c:=λx b=>List.mem_of_mem_erase b;have m:v∉c.erase v:=λz=>(h.nd.mem_erase_iff.mp z).1 rfl
 have a:∀x,x∉c.erase v->x=v\/x∉c:=λx b=>by
  grind
 refine⟨h.start,h.ins,h.wk,λx d q ex=>?_,λx b=>h.wfound x (f x b),h.nd.erase v,λx d q y l ex b r t=>?_,λx d q y g j ex b n k=>?_,⟨p,e⟩,m,λx d q ex b=>?_,λy l k=>by cases k⟩
 ·rcases h.prev x d q ex with z|⟨y,g,j,l,u,w,A,B,C⟩
  ·exact .inl z
  ·exact .inr ⟨y,g,j,l,u,w,λz=>A (f y z),B,C⟩
 ·rcases a x b with z|z
  ·exact absurd z r
  ·exact h.done x d q y l ex z t
 ·rcases a x b with z|z
  ·subst z
   rw[e]at ex;cases ex;exact i y (f y k) g j n
  ·exact h.near x d q y g j ex z n (f y k)
 ·rcases a x b with z|z
  ·grind
  ·exact h.near x d q v dv p ex z e o
theorem Dm.finish{N:Net}{s:Str}{F:Of}{b:s_ Str}{v:Str}{dv:Int}{a:s_ (Str×Int)}(h:Dm N s F b v dv a)(f:∀y l,Ed N v y l->(y,l)∈a):Dj N s F b:=by
 refine⟨h.start,h.ins,h.wk,h.prev,h.wfound,h.nd,λx d p y l e g c=>?_,h.near⟩
 by_cases z:x=v
 ·subst z
  let⟨j,i⟩:=h.here;rw[i]at e;cases e;exact h.gone y l (f y l c)
 ·exact h.done x d p y l e g z c
theorem Dm.find{N:Net}(ok:N.Ok){s:Str}{F:Of}{m:s_ Str}{v:Str}{dv:Int}{j:s_ (Str×Int)}(h:Dm N s F m v dv j){y:Str}{l:Int}(w:Ed N v y l)(K:F y=p_):Dm N s (Io F y (dv+l,P3 v)) (m++[y]) v dv (j++[(y,l)]):=by
 have L:=(w.pos ok).1;let⟨A,B⟩:=h.here;have C:∀x d p,F x=P3 (d,p)->x≠y:=λx d p e z=>by rw[z,K]at e;cases e
 have f:∀x d p,F x=P3 (d,p)->Io F y (dv+l,P3 v) x=P3 (d,p):=λx d p e=>by rw[Bk (C x d p e)];exact e
 have Q:y∉m:=λz=>h.wfound y z K
 have c:∀x d p,Io F y (dv+l,P3 v) x=P3 (d,p)->(x=y/\d=dv+l/\p=P3 v)\/(x≠y/\F x=P3 (d,p)):=λx d p e=>by
  by_cases z:x=y
  ·rw[z,Bm]at e;cases e;exact .inl ⟨z,rfl,rfl⟩
  ·rw[Bk z]at e;exact .inr ⟨z,e⟩
 have k:∀x,x∉m++[y]->x∉m/\x≠y:=λx g=>⟨λz=>g (iJ _ z),λz=>g (f8 _ (by rw[z];exact Re.mpr rfl))⟩
 have M:v∉m++[y]:=λz=>by
  rcases gP.mp z with z|z
  ·exact h.out z
  ·exact C v dv A B (Re.mp z)
 refine⟨f _ _ _ h.start,λx g=>?_,λx d p e=>?_,λx d p e=>?_,λx g=>?_,?_,λx d p z o e g R D=>?_,λx d p z O q e g E i=>?_,⟨A,f _ _ _ B⟩,M,λx d p e g=>?_,λz o i=>?_⟩
 ·by_cases z:x=y
  ·rw[z];exact w.ins ok
  ·rw[Bk z]at g;exact h.ins x g
 ·rcases c x d p e with⟨rfl,rfl,_⟩|⟨_,e⟩
  ·exact .snoc (h.wk v dv A B) w
  ·exact h.wk x d p e
 ·rcases c x d p e with⟨rfl,rfl,rfl⟩|⟨_,e⟩
  ·exact .inr ⟨v,dv,A,l,rfl,f _ _ _ B,M,w,rfl⟩
  ·rcases h.prev x d p e with z|⟨u,P,q,o,S,G,r,T,U⟩
   ·exact .inl z
   ·refine .inr ⟨u,P,q,o,S,f _ _ _ G,λz=>?_,T,U⟩
    rcases gP.mp z with z|z
    ·exact r z
    ·exact C u P q G (Re.mp z)
 ·rcases gP.mp g with g|g
  ·have:=h.wfound x g
   cases e:F x with
   |none=>exact absurd e this
   |some a=>rw[f x a.1 a.2 e];intro z;cases z
  ·rw[Re.mp g,Bm];intro z;cases z
 ·rw[iB]
  exact⟨h.nd,gk.mpr ⟨gU,h_⟩,λa V b W e=>Q (by rw[←Re.mp W,←e];exact V)⟩
 ·let⟨n,t⟩:=k x g
  rcases c x d p e with⟨z,_⟩|⟨_,e⟩
  ·exact absurd z t
  ·let⟨H,I,r,J⟩:=h.done x d p z o e n R D
   exact⟨H,I,f _ _ _ r,J⟩
 ·let⟨n,t⟩:=k x g
  rcases c x d p e with⟨z,_⟩|⟨_,ex⟩
  ·exact absurd z t
  ·rcases c z O q E with⟨_,G,_⟩|⟨X,E⟩
   ·have:=h.least x d p ex n
    omega
   ·rcases gP.mp i with i|i
    ·exact h.near x d p z O q ex n E i
    ·exact absurd (Re.mp i) X
 ·let⟨n,t⟩:=k x g
  rcases c x d p e with⟨z,_⟩|⟨_,e⟩
  ·exact absurd z t
  ·exact h.least x d p e n
 ·rcases gP.mp i with i|i
  ·let⟨H,I,r,J⟩:=h.gone z o i
   exact⟨H,I,f _ _ _ r,J⟩
  ·cases Re.mp i
   exact⟨_,_,Bm,jo _⟩
theorem Dm.nearer{N:Net}(ok:N.Ok){s:Str}{F:Of}{k:s_ Str}{v:Str}{dv:Int}{f:s_ (Str×Int)}(h:Dm N s F k v dv f){y:Str}{l A:Int}{J:t_ Str}(o:Ed N v y l)(B:F y=P3 (A,J))(Q:dv+l<A):Dm N s (Io F y (dv+l,P3 v)) k v dv (f++[(y,l)]):=by
 have K:=(o.pos ok).1;let⟨r,t⟩:=h.here
 have L:y∈k:=by
  by_cases z:y∈k
  ·exact z
  ·have:=h.least y A J B z
   omega
 have M:v≠y:=λz=>h.out (by rw[z];exact L);have c:∀x,x∉k->Io F y (dv+l,P3 v) x=F x:=λx b=>Bk λz=>b (by rw[z];exact L)
 have a:∀x d p,Io F y (dv+l,P3 v) x=P3 (d,p)->(x=y/\d=dv+l/\p=P3 v)\/(x≠y/\F x=P3 (d,p)):=λx d p e=>by
  by_cases z:x=y
  ·rw[z,Bm]at e;cases e;exact .inl ⟨z,rfl,rfl⟩
  ·rw[Bk z]at e;exact .inr ⟨z,e⟩
 have g:∀x d p,F x=P3 (d,p)->∃O q,Io F y (dv+l,P3 v) x=P3 (O,q)/\O<=d:=λx d p e=>by
  by_cases z:x=y
  ·subst z
   rw[B]at e;cases e;exact⟨_,_,Bm,by omega⟩
  ·exact⟨d,p,by rw[Bk z];exact e,jo _⟩
 have R:s≠y:=λz=>by
  have:=h.start
  rw[z,B]at this;cases this
  have:=(h.wk v dv r t).pos ok
  omega
 refine⟨by rw[Bk R];exact h.start,λx b=>?_,λx d p e=>?_,λx d p e=>?_,λx b=>?_,h.nd,λx d p z m e b S C=>?_,λx d p z P q e b D i=>?_,⟨r,by rw[Bk M];exact t⟩,h.out,λx d p e b=>?_,λz m i=>?_⟩
 ·by_cases z:x=y
  ·rw[z];exact o.ins ok
  ·rw[Bk z]at b;exact h.ins x b
 ·rcases a x d p e with⟨rfl,rfl,_⟩|⟨_,e⟩
  ·exact .snoc (h.wk v dv r t) o
  ·exact h.wk x d p e
 ·rcases a x d p e with⟨rfl,rfl,rfl⟩|⟨_,e⟩
  ·exact .inr ⟨v,dv,r,l,rfl,by rw[Bk M];exact t,h.out,o,rfl⟩
  ·rcases h.prev x d p e with z|⟨u,T,q,m,U,V,j,n,W⟩
   ·exact .inl z
   ·exact .inr ⟨u,T,q,m,U,by rw[c u j];exact V,j,n,W⟩
 ·by_cases z:x=y
  ·rw[z,Bm];intro w;cases w
  ·rw[Bk z];exact h.wfound x b
 ·rw[c x b]at e
  let⟨E,G,j,X⟩:=h.done x d p z m e b S C;let⟨H,I,n,Y⟩:=g z E G j;exact⟨H,I,n,by omega⟩
 ·rw[c x b]at e
  rcases a z P q D with⟨rfl,rfl,_⟩|⟨Z,D⟩
  ·have:=h.least x d p e b
   omega
  ·exact h.near x d p z P q e b D i
 ·rw[c x b]at e
  exact h.least x d p e b
 ·rcases gP.mp i with i|i
  ·let⟨E,G,j,X⟩:=h.gone z m i
   let⟨H,I,n,Y⟩:=g z E G j;exact⟨H,I,n,by omega⟩
  ·cases Re.mp i
   exact⟨_,_,Bm,jo _⟩
theorem Dm.skip{N:Net}{s:Str}{F:Of}{c:s_ Str}{v:Str}{dv:Int}{a:s_ (Str×Int)}(h:Dm N s F c v dv a){y:Str}{l d:Int}{e:t_ Str}(i:F y=P3 (d,e))(f:d<=dv+l):Dm N s F c v dv (a++[(y,l)]):=by
 refine⟨h.start,h.ins,h.wk,h.prev,h.wfound,h.nd,h.done,h.near,h.here,h.out,h.least,λz g b=>?_⟩
 rcases gP.mp b with b|b
 ·exact h.gone z g b
 simp_all
structure Told (N:Net) (s:Str) (F:Of):Prop where
 start:F s=P3 (0,p_)
 ins:∀x,F x≠p_->x∈N.ps
 least:∀x d p,F x=P3 (d,p)->Least N s x d
 all:∀x d,Wk N s x d->F x≠p_
 prev:∀x d p,F x=P3 (d,p)->(p=p_/\x=s)\/∃y dy q l,p=P3 y/\F y=P3 (dy,q)/\Ed N y x l/\d=dy+l
theorem Dj.told{N:Net}{s:Str}{F:Of}(h:Dj N s F []):Told N s F:=by
 have c:=IG (N:=N) (s:=s) (F:=λx=>(F x).map (·.1)) ⟨0,by rw[h.start];rfl,jo _⟩ (λx d e=>by
  let⟨⟨g,p⟩,a,b⟩:=g0.mp e;cases b;exact h.wk x _ p a) (λx d y l e i=>by
  let⟨⟨g,p⟩,a,b⟩:=g0.mp e;cases b;let⟨f,q,j,k⟩:=h.done x _ p y l a gU i;exact⟨f,by rw[j];rfl,k⟩)
 refine⟨h.start,h.ins,λx d p e=>c.1 x d (by rw[e];rfl),λx d m e=>c.2 x d m (by rw[e];rfl),λx d p e=>?_⟩
 rcases h.prev x d p e with z|⟨y,f,q,l,a,b,_,n,o⟩
 ·exact .inl z
 simp_all
abbrev Kn:=Str->t_ Int
structure Bf (N:Net) (s:Str) (c:Nat) (K:Kn):Prop where
 start:∃d,K s=P3 d/\d<=0
 ins:∀x,K x≠p_->x∈N.ps
 wk:∀x d,K x=P3 d->Wk N s x d
 top:∀x d,K x=P3 d->d<=1000000*(c:Int)
def big:Nat:=27000001
def wt(K:Kn)(x:Str):Nat:=match K x with
 |some d=>d.toNat
 |none=>big
def Uq(a:s_ Str)(K:Kn):Nat:=(a.map (wt K)).sum
theorem VG{f g:Str->Nat}:∀{a:s_ Str},(∀x∈a,f x<=g x)->(a.map f).sum<=(a.map g).sum
 |[],_=>On _
 |x::a,h=>by
  have c:=VG λy b=>h y (Rs _ b)
  grind
theorem VF{f g:Str->Nat}:∀{b:s_ Str},(∀x∈b,f x<=g x)->(∃x∈b,f x<g x)->(b.map f).sum<(b.map g).sum
 |[],_,⟨x,c,_⟩=>by cases c
 | x::b,h,⟨y,a,d⟩=>by
  have i:=h x Op;rw[g7,g7,nP,nP]
  rcases TW.mp a with rfl|a
  ·have e:=VG λy a=>h y (Rs _ a)
   omega
  ·have e:=VF (λy a=>h y (Rs _ a)) ⟨y,a,d⟩
   omega
theorem Bf.put {N:Net} (ok:N.Ok) {s:Str}{c c':Nat}{K:Kn} (h:Bf N s c K) (u:c' ≤ 26) (n:c ≤ c') {x y:Str}{d l:Int} (g:K x=P3 d) (b:Ed N x y l) (o:K y=p_ → c'=c + 1) (f:∀ a,K y=P3 a → d + l < a):Bf N s c' (Io K y (d + l)) ∧ Uq N.ps (Io K y (d + l)) < Uq N.ps K:=by
  have v:=b.pos ok;have A:=(h.wk x d g).pos ok;have p:Wk N s y (d + l):=.snoc (h.wk x d g) b;have B:=h.top x d g
  have q : d + l ≤ 1000000 * (c':Int):=by
    cases e:K y with
    | none => rw[o e];have:((c + 1:Nat):Int)=(c:Int) + 1:=by omega
              rw[this,Int.mul_add];omega
    | some a=>
      have C:=f a e;have r:=h.top y a e;have:(1000000:Int) * (c:Int) ≤ 1000000 * (c':Int):=j7 (by omega) (by omega);omega
  refine⟨⟨?_,λz j=>?_,λz i e=>?_,λz i e=>?_⟩,VF (λz _=>?_) ⟨y,b.ins ok,?_⟩⟩
  · let⟨k,m,t⟩:=h.start
    by_cases z:s=y
    · have:=f k (by rw[←z];exact m)
      omega
    ·exact⟨k,by rw[Bk z];exact m,t⟩
  · by_cases e:z=y
    ·rw[e];exact b.ins ok
    ·rw[Bk e]at j;exact h.ins z j
  · by_cases w:z=y
    ·rw[w,Bm]at e;cases e;rw[w];exact p
    ·rw[Bk w]at e;exact h.wk z i e
  · by_cases w:z=y
    ·rw[w,Bm]at e;cases e;exact q
    · rw[Bk w]at e
      have r:=h.top z i e;have:(1000000:Int) * (c:Int) ≤ 1000000 * (c':Int):=j7 (by omega) (by omega);omega
  · unfold wt
    by_cases w:z=y
    · rw[w,Bm]
      cases e:K y with
      |none=>show(d + l).toNat ≤ big;unfold big;omega
      |some a=>show(d + l).toNat ≤ a.toNat;have:=f a e;omega
    · rw[Bk w]
      exact On _
  · unfold wt
    rw[Bm];cases e:K y with
    |none=>show(d + l).toNat < big;unfold big;omega
    |some a=>show(d + l).toNat < a.toNat;have:=f a e;omega
theorem Bf.init{N:Net}{s:Str}(b:s∈N.ps):Bf N s 1 (λx=>if x=s then P3 0 else p_):=by
 have a:∀x d,(if x=s then P3 (0:Int)else p_)=P3 d->x=s/\d=0:=λx d e=>by
  grind
 refine⟨⟨0,if_pos rfl,jo _⟩,λx e=>by grind,λx d e=>?_,λx d e=>?_⟩
 ·let⟨rfl,rfl⟩:=a x d e
  exact .nil
 ·let⟨rfl,rfl⟩:=a x d e
  decide
def Kj(K:Kn)(e:Str×Str×Int):Prop:=∀d,K e.1=P3 d->∃a,K e.2.1=P3 a/\a<=d+e.2.2
structure LTold (N:Net) (s:Str) (K:Kn):Prop where
 ins:∀x,K x≠p_->x∈N.ps
 least:∀x d,K x=P3 d->Least N s x d
 all:∀x d,Wk N s x d->K x≠p_
 top:∀x d,K x=P3 d->d<=30000000
theorem Bf.told{N:Net}(ok:N.Ok){s:Str}{c:Nat}{K:Kn}(h:Bf N s c K)(n:c<=26)(f:∀t∈N.ts,Kj K (t.a,t.b,t.len)/\Kj K (t.b,t.a,t.len)):LTold N s K:=by
 have g:=IG h.start h.wk (λx d y l e j=>by
  let⟨t,i,k,m⟩:=j.tie ok;subst k
  rcases m with⟨rfl,rfl⟩|⟨rfl,rfl⟩
  ·exact(f t i).1 d e
  ·exact(f t i).2 d e)
 exact⟨h.ins,g.1,g.2,λx d e=>by have:=h.top x d e;omega⟩
def walk(N:Net):s_ Str->Int->Prop
 |[],_=>False
 |[_],d=>d=0
 |x::y::r,d=>∃l e,Ed N x y l/\walk N (y::r) e/\d=l+e
theorem S_{N:Net}{x y:Str}{r:s_ Str}{d l:Int}(a:Ed N x y l)(h:walk N (y::r) d):walk N (x::y::r) (l+d):=⟨l,d,a,h,rfl⟩
def dq(N:Net)(a b:Str):t_ Int->Prop
 |some d=>Least N a b d
 |none=>∀d,¬Wk N a b d
theorem Told.far{N:Net}{s:Str}{F:Of}(h:Told N s F)(x:Str):dq N s x ((F x).map (·.1)):=by
 cases e:F x with
 |none=>exact λd b=>h.all x d b e
 |some a=>exact h.least x _ _ e
theorem LTold.far{N:Net}{s:Str}{K:Kn}(h:LTold N s K)(x:Str):dq N s x (K x):=by
 cases e:K x with
 |none=>exact λd a=>h.all x d a e
 |some d=>exact h.least x d e
def Way(N:Net)(a b:Str)(o:t_ (s_ Str)):Prop:=match o with
 |some w=>∃d r,w=a::r/\w.getLast?=P3 b/\walk N w d/\Least N a b d/\w.length<=30/\∀x∈w,x∈N.ps
 |none=>∀d,¬Wk N a b d
def cy:t_ Str->D
 |some y=>.str y
 |none=>.non
def e_:t_ Int->D
 |some y=>.int y
 |none=>.non
def Fe:t_ (s_ Str)->D
 |some w=>.tup (w.map .str)
 |none=>.non
def J9(p:Int×t_ Str):D:=.tup [.int p.1,cy p.2]
def okN(N:Net):Prop:=N.Ok/\N.ps.length<=25/\N.ts.length<=60
def S0:W2:=λf n P=>∃(a:s_ Str) (b:s_ Key) (c:s_ D) (F:Of),f=[.br (.lst (a.map .str)),.br (.dic b c)]/\Dmap b c J9 F/\(∀x∈a,F x≠p_)/\a≠[]/\a.length<=100 /\
 ∀v∈a,(∀y∈a,∀d g e h,F v=P3 (d,g)->F y=P3 (e,h)->d<=e)->P (.str v) n
def Ly:W2:=λc n P=>∃(N:Net) (s:Str),c=[.sh (enc N),.sh (.str s)]/\okN N/\s∈N.ps/\∀(a:s_ Key) (b:s_ D) (F:Of),Dmap a b J9 F->Told N s F->P (.dic a b) n
def Um:W2:=λc n P=>∃(N:Net) (a b:Str),c=[.sh (enc N),.sh (.str a),.sh (.str b)]/\okN N/\a∈N.ps/\b∈N.ps/\∀o,Way N a b o->P (Fe o) n
def II:AY:=(Au (AV BC (Cp ZJ (AF (Bp [P3 1,p_] (BQ (Av 0)) (Ae 1) DB (Bc (AF (AV BC (AV CI (Av 0) (AC 1)) (wC (D.int 0))) (AF (AC 1) AU)))) AU)) (wC (D.int 1))))
def IK:AY:=(Ad (Ay 2 (AQ Oa (AB (AG (AC 0)) AO)))
 (Ad (C3 3 (QX (AC 1) (Bc (AF (wC (D.int 0)) (AF (wC D.non) AU)))))
 (Ad (C3 4 (DZ (AF (AC 1) AU)))
 (Ad (Ke (Zd (Av 4)) (Ad (Ay 5 (AQ S0 (AB (Cr (Av 4)) (AB (Cr (Av 3)) AO))))
 (Ad (Od 4 "list" dI (AF (AC 5) AU))
 (D9 (wItems (AV CI (AC 2) (AC 5))) (E_ 2 (As (Ae 6) (As (Ae 7) Ck))) (Ad (Ay 8 (AV A0 (AV BC (AV CI (Av 3) (AC 5)) (wC (D.int 0))) (AC 7)))
 (BK (AW (AV (JL q_) (AC 6) (Av 3))) (Ad (Od 4 "list" Fp (AF (AC 6) AU))
 (Hb 3 (AC 6) (Bc (AF (AC 8) (AF (AC 5) AU))))) (BK (AW (AV Fn (AC 8) (AV BC (AV CI (Av 3) (AC 6)) (wC (D.int 0))))) (Hb 3 (AC 6) (Bc (AF (AC 8) (AF (AC 5) AU)))) Aw)))))))
 (Oj 3)))))
def QI:AY:=(Ad (Ay 3 (AQ Ly (AB (AG (AC 0)) (AB (AG (AC 1)) AO))))
 (Ad (BK (AW (AV (JL q_) (AC 2) (AC 3))) (Au (wC D.non)) Aw)
 (Ad (C3 4 (DZ AU))
 (Ad (Ay 5 (AC 2))
 (Ad (Ke (AW (AV (Fo q_) (AC 5) (wC D.non))) (Ad (Od 4 "list" Fp (AF (AC 5) AU))
 (Ay 5 (AV BC (AV CI (AC 3) (AC 5)) (wC (D.int 1))))))
 (Au (Rc (Av 4))))))))
theorem fQ{i j:Int}{x y:Str}(h:BJ [.inl j,.inr y] [.inl i,.inr x]=r_):i<=j:=by
 have h:(if km j=.inl i then(if jH y=.inr x then r_ else decide _)else decide _)=r_:=h
 grind
section
variable {ss:s_ Slot}{n:Nat}{Pd:D->Nat->Prop}
theorem L5(h:S0 ss n Pd):II (EE Pd) n (ss++Uf 0 .no):=by
 let⟨g,l,o,F,rfl,M,w,i,N,p⟩:=h;unfold II;exists by show(g.map D.str).length<=10000000;rw[No];omega
 have c:∀x∈g,∃d q,F x=P3 (d,q):=λx b=>by
  cases e:F x with
  |none=>exact absurd e (w x b)
  |some a=>exact⟨a.1,a.2,rfl⟩
 refine Bn (λd=>match d with|.str x=>.tup [.int ((F x).getD (0,p_)).1,.str x]|d=>d) (λt=>∃s,t=[.br (.dic l o),s]) _ _ _ _ ?_ ⟨_,rfl⟩ ?_
 ·rintro d A t m O ⟨s,rfl⟩ B
  let⟨x,b,rfl⟩:=TM.mp A;let⟨C,q,ex⟩:=c x b;exists l,o,_,J9 (C,q),rfl,rfl,by rw[M.at_,ex];rfl,_,AL (j:=0) rfl,(by decide:2<=sizeLine)
  grind
 rw[gy,ij];refine⟨_,rfl,?_,⟨λx b=>?_,λx b y k E G H I=>?_⟩,λx b f=>?_⟩
 ·rw[No]
  cases g with
  |nil=>exact absurd rfl i
  |cons a r=>exact Nat.succ_pos _
 ·let⟨z,_,rfl⟩:=TM.mp b
  exact⟨_,rfl,jG _ _⟩
 ·let⟨z,_,rfl⟩:=TM.mp b
  let⟨u,_,rfl⟩:=TM.mp k;cases(show P3 [km _,jH _]=P3 E from H);cases(show P3 [km _,jH _]=P3 G from I);rfl
 ·let⟨v,J,rfl⟩:=TM.mp b
  refine⟨_,AL (j:=1) rfl,p v J λy k P Q R S K L=>?_⟩
  have:=fQ (f _ (TM.mpr ⟨y,k,rfl⟩) _ _ rfl rfl)
  rw[K,L]at this;exact this
theorem BE(x:Str):keyOf (.str x)=P3 (.inr x):=rfl
theorem T7{N:Net}(ok:N.Ok){a:s_ Str}(h:∀x∈a,x∈N.ps):Ce (.lst (a.map .str)):=Me λd b=>by
  let⟨x,c,rfl⟩:=TM.mp b;exact Ef (ok.names x (h x c))
theorem NH{N:Net}{d:s_ Str}(b:d.Nodup)(h:∀x∈d,x∈N.ps):d.length<=N.ps.length:=by
 have:∀(a c:s_ Str),a.Nodup->(∀x∈a,x∈c)->a.length<=c.length:=by
  intro a
  induction a with
  |nil=>grind
  |cons x a g=>
   intro c b f;have k:=f x Op;have b:=gk.mp b;have l:=g (c.erase x) b.2 λj i=>(List.mem_erase_of_ne λe=>b.1 (by simp_all)).mpr (f j (Rs _ i))
   grind
 simp_all
theorem K0(a:s_ Key)(k:Key):(DP a k).length=if LQ a k=q_ then a.length else a.length+1:=by
 unfold DP
 split
 ·rfl
 simp_all
theorem Dmap.has{b:Type}{a:s_ Key}{d:s_ D}{enc:b->D}{F:Str->t_ b}(h:Dmap a d enc F){x:Str}:(F x=p_->LQ a (.inr x)=r_)/\(F x≠p_->LQ a (.inr x)=q_):=by
 constructor
 ·intro e
  cases c:LQ a _ with
  |false=>rfl
  |true=>exact absurd e ((h.mem x).mp (hasK_iff.mp c))
 ·intro e
  exact hasK_iff.mpr ((h.mem x).mpr e)
theorem TN{N:Net}{x:Str}(c:x∈N.ps):BR (N.ps.map .inr) (N.ps.map (XH N.ts)) (.inr x)=P3 (XH N.ts x):=by
 have d:∀a:s_ _,x∈a->BR (a.map .inr) (a.map (XH N.ts)) (.inr x)=P3 (XH N.ts x):=by
  intro a
  induction a with
  |nil=>grind
  | cons q a b=>
   intro h;show(if jH q=.inr x then P3 _ else BR _ _ _)=_
   by_cases e:q=x
   ·grind
   ·rw[if_neg (λz=>e (jn z))]
    exact b ((TW.mp h).resolve_left λz=>e z.symm)
 simp_all
theorem XR(l:s_ (Str×Int)):Ea ((l.map λx=>(.inr x.1:Key)).map XJ) (l.map λx=>.int x.2)=l.map fF:=by
 induction l with
 |nil=>rfl
 |cons p l a=>
  show D.tup _::Ea _ _=fF p::l.map _;rw[←a];rfl
theorem L7(h:Ly ss n Pd):IK (EF Pd) n (ss++Uf 7 .no):=by
 let⟨N,s,rfl,⟨ok,lp,lt⟩,hs,p⟩:=h;have a2:=PySem.sizeLine_eq;unfold IK;refine⟨N,rfl,ok,by omega,by omega,?_⟩;exists(by decide:2<=sizeLine),_,BE s,(by decide:1<=sizeLine);refine Ih (λm O Y=>O=n/\∃(r:s_ Str) (f:s_ Key) (g:s_ D) (F:Of) (s5 G H I:Slot),Y=[.sh (enc N),.sh (.str s),.sh (FQ N),.ow (.dic f g),.ow (.lst (r.map .str)),s5,G,H,I]/\Dmap f g J9 F/\Dj N s F r/\m+f.length=N.ps.length+r.length) (N.ps.length) ⟨rfl,[s],[.inr s],[J9 (0,p_)],_,_,_,_,_,rfl,Dmap.one,Dj.init hs,rfl⟩ ?_ ?_
 ·rintro m O Y N' ⟨rfl,r,f,g,F,s5,G,H,I,rfl,M,J,hm⟩ hN
  cases r with
  |nil=>
   exact⟨r_,rfl,_,rfl,p f g F M J.told⟩
  | cons u w=>
   exists q_,rfl;have o:∀x∈u::w,x∈N.ps:=λx K=>J.ins x (J.wfound x K);have wl:=NH J.nd o;refine⟨u::w,f,g,F,rfl,M,J.wfound,jG _ _,by omega,λv L R=>?_⟩
   obtain⟨B,pv,X⟩:∃d q,F v=P3 (d,q):=by
    cases e:F v with
    |none=>exact absurd e (J.wfound v L)
    |some a=>exact⟨a.1,a.2,rfl⟩
   have A:=J.take L X λy hy S q C=>R y hy B pv S q X C;have T:=o v L;have U:(u::w).idxOf v<(u::w).length:=List.idxOf_lt_length_of_mem L;have V:(u::w)[(u::w).idxOf v]?=P3 v:=by rw[FM U,List.getElem_idxOf]
   have ee:((u::w).map D.str).eraseIdx ((u::w).idxOf v)=((u::w).erase v).map D.str:=by
    rw[List.erase_eq_eraseIdx_of_idxOf (rfl:(u::w).idxOf v=_),JM]
   exists _,rfl,rfl,_,_,(u::w).idxOf v,rfl,rfl,T7 ok o,Pp (ok.names v T),⟨.str v,by rw[gR,V];rfl,by show(v==v)=q_;exact beq_self_eq_true v⟩,λk x hk K=>?_
   ·rw[gR]at K
    let⟨t,ht,rfl⟩:=g0.mp K;have a3:k<(u::w).length:=(ZB.mp ht).1;have hh:=List.not_of_lt_findIdx (p:=λy=>y==v) (xs:=u::w) hk;have e2:(u::w)[k]=t:=(ZB.mp ht).2;have h3:((u::w)[k]==v)=r_:=hh;rw[e2]at h3;exact h3
   rw[ee];exists _,_,_,XH N.ts v,rfl,BE v,TN T,_,_,rfl,λk hk=>?_
   ·let⟨q,hq,rfl⟩:=TM.mp hk
    have:=(ok.names _ (N6 ok hq).1).2.1
    show q.1.length<=sizeLine;omega
   rw[XR];have el:=List.length_erase_of_mem L
   have E:∀(i b:s_ (Str×Int)) (r:s_ Str) (f:s_ Key) (g:s_ D) (F:Of) (G H I:Slot),b++i=EY N.ts v->Dmap f g J9 F->Dm N s F r v B b->m+f.length=N.ps.length+r.length+1->
     BP (E_ 2 (As (Ae 6) (As (Ae 7) Ck))) (Ad (Ay 8 (AV A0 (AV BC (AV CI (Av 3) (AC 5)) (wC (D.int 0))) (AC 7)))
 (BK (AW (AV (JL q_) (AC 6) (Av 3))) (Ad (Od 4 "list" Fp (AF (AC 6) AU))
 (Hb 3 (AC 6) (Bc (AF (AC 8) (AF (AC 5) AU))))) (BK (AW (AV Fn (AC 8) (AV BC (AV CI (Av 3) (AC 6)) (wC (D.int 0))))) (Hb 3 (AC 6) (Bc (AF (AC 8) (AF (AC 5) AU)))) Aw))) {EF Pd with nx:=N',ct:=N',bk:=Oj 3 (EF Pd)} (i.map fF) O [.sh (enc N),.sh (.str s),.sh (FQ N),.ow (.dic f g),.ow (.lst (r.map .str)),.sh (.str v),G,H,I]:=by
    intro i
    induction i with
    |nil=>
     intro b r f g F G H I e M A hm;rw[gq]at e;exact hN (m - 1) O _ (by have:=M.le A.ins;omega) ⟨rfl,r,f,g,F,_,_,_,_,rfl,M,A.finish λy l hy=>by rw[e];exact hy,by have:=M.le A.ins;omega⟩
    | cons q i ih=>
     intro b r f g F G H I e M A hm;let⟨y,l⟩:=q;have he:Ed N v y l:=by show(y,l)∈EY N.ts v;rw[←e];exact f8 _ Op
     have e':(b++[(y,l)])++i=EY N.ts v:=by rw[iA];exact e
     let⟨pv,X⟩:=A.here;have kl:=M.le A.ins;have a4:=he.ins ok;have o:∀x∈r,x∈N.ps:=λx K=>A.ins x (A.wfound x K);have wl:=NH A.nd o;exists rfl,rfl;exists f,g,_,J9 (B,pv),rfl,BE v,by rw[M.at_,X];rfl,_,AL (j:=0) rfl;exists f,g,_,rfl,BE y;show if(!(BR f g (.inr y)).isSome)=q_ then _ else _
     cases C:F y with
     |none=>
      have a0:=(M.has (x:=y)).1 C;rw[M.at_,C];refine CQ ⟨_,rfl,rfl,_,_,rfl,rfl,by rw[No];omega,?_⟩;exists f,g,rfl,(by decide:2<=sizeLine),_,BE y,by omega
      have:=ih (b++[(y,l)]) (r++[y]) (DP f (.inr y)) (Dr f g (.inr y) (J9 (B+l,P3 v))) _ (.sh (.str y)) (.sh (.int l)) (.sh (.int (B+l))) e' (M.put y (B+l,P3 v)) (A.find ok he C) (by rw[K0,if_neg (by rw[a0];decide),eq,gl];omega)
      rw[hX]at this;exact this
     | some a=>
      let⟨S,qy⟩:=a;have W:=(M.has (x:=y)).2 (by rw[C];intro z;cases z);rw[M.at_,C];refine CS ⟨f,g,_,J9 (S,qy),rfl,BE y,by rw[M.at_,C];rfl,_,AL (j:=0) rfl,?_⟩;show if decide (B+l<S)=q_ then _ else _
      by_cases c:B+l<S
      ·rw[decide_eq_true c]
       refine CQ ⟨f,g,rfl,(by decide:2<=sizeLine),_,BE y,by omega,?_⟩;exact ih (b++[(y,l)]) r (DP f (.inr y)) (Dr f g (.inr y) (J9 (B+l,P3 v))) _ (.sh (.str y)) (.sh (.int l)) (.sh (.int (B+l))) e' (M.put y (B+l,P3 v)) (A.nearer ok he C c) (by rw[K0,if_pos W];omega)
      ·rw[decide_eq_false c]
       exact CS (ih (b++[(y,l)]) r f g F (.sh (.str y)) (.sh (.int l)) (.sh (.int (B+l))) e' M (A.skip C (by omega)) hm)
   exact E (EY N.ts v) [] ((u::w).erase v) f g F _ _ _ rfl M A (by have:=List.length_pos_of_mem L;omega)
 ·rintro O Y P Q a1 h
  unfold Zd Av at h ⊢
  split at h
  all_goals first
   |exact h.elim
   |(let⟨c,hc,h⟩:=h;exact⟨c,hc,a1 _ _ h⟩)
end
structure WInv (N:Net) (F:Of) (b:Str) (db:Int) (acc:List Str) (pl:Option Str):Prop where
 st:(acc=[]/\pl=P3 b)\/∃z r dz,acc.reverse=z::r/\F z=P3 (dz,pl)/\walk N acc.reverse (db - dz)/\acc.reverse.getLast?=P3 b
 nd:acc.Nodup
 ins:∀x∈acc,x∈N.ps
 less:∀y dy q,pl=P3 y->F y=P3 (dy,q)->∀x∈acc,∃dx qx,F x=P3 (dx,qx)/\dy<dx
 fnd:∀y,pl=P3 y->F y≠p_
def wm(F:Of):t_ Str->Nat
 |none=>0
 |some y=>((F y).getD (0,p_)).1.toNat+1
theorem WInv.step{N:Net}(ok:N.Ok){a:Str}{F:Of}(T:Told N a F){b:Str}{k:Int}{K:t_ Str}(eb:F b=P3 (k,K)){m:s_ Str}{y:Str}{g:Int}{f:t_ Str}(h:WInv N F b k m (P3 y))(c:F y=P3 (g,f)):WInv N F b k (m++[y]) f/\wm F f<wm F (P3 y):=by
 have L:=(T.least y g f c).1.pos ok
 have A:∀w o q,f=P3 w->F w=P3 (o,q)->o<g:=λw o q e i=>by
  rcases T.prev y g f c with⟨z,_⟩|⟨B,s,C,l,j,n,t,u⟩
  ·rw[e]at z;cases z
  ·rw[e]at j
   cases j;rw[i]at n;cases n
   have:=(t.pos ok).1
   omega
 have D:∀w,f=P3 w->F w≠p_:=λw e=>by
  rcases T.prev y g f c with⟨z,_⟩|⟨B,s,C,l,j,n,_⟩
  ·rw[e]at z;cases z
  ·rw[e]at j
   cases j;rw[n];intro z;cases z
 exists⟨.inr ?_,?_,λx d=>?_,λw o q e i x d=>?_,D⟩
 ·rw [List.reverse_append,List.reverse_singleton,lO]
  rcases h.st with⟨rfl,e⟩|⟨z,r,E,j,n,t,u⟩
  ·cases e
   rw[eb]at c;cases c;exact⟨_,_,_,rfl,eb,(by show k - k=0;omega),rfl⟩
  ·exists y,m.reverse,g,rfl,c,?_
   ·rw[j]at t ⊢
    rcases T.prev z E (P3 y) n with⟨w,_⟩|⟨B,s,C,l,M,G,O,Q⟩
    ·cases w
    ·cases M
     rw[c]at G;cases G
     have:=S_ O t
     rw[show l+(k - E)=k - g by omega]at this;exact this
   ·rw[j]at u ⊢
    exact u
 ·rw[iB]
  refine⟨h.nd,gk.mpr ⟨gU,h_⟩,λx d z P e=>?_⟩;rw[Re.mp P]at e;let⟨H,I,ex,v⟩:=h.less y g f rfl c x d;rw[e,c]at ex;cases ex;omega
 ·rcases gP.mp d with d|d
  ·exact h.ins x d
  ·rw[Re.mp d]
   exact T.ins y (by rw[c];intro z;cases z)
 ·have J:=A w o q e i
  rcases gP.mp d with d|d
  ·let⟨H,I,ex,v⟩:=h.less y g f rfl c x d
   exact⟨H,I,ex,by omega⟩
  ·rw[Re.mp d]
   exact⟨g,f,c,J⟩
 ·cases f with
  |none=>exact Nat.succ_pos _
  | some w=>
   cases i:F w with
   |none=>exact absurd i (D w rfl)
   |some p=>
    have J:=A w p.1 p.2 rfl i;have R:=(T.least w p.1 p.2 i).1.pos ok;show((F w).getD (0,p_)).1.toNat+1<((F y).getD (0,p_)).1.toNat+1;rw[i,c];show p.1.toNat+1<g.toNat+1;omega
section
variable {ss:s_ Slot}{n:Nat}{Pd:D->Nat->Prop}
theorem TY(h:Um ss n Pd):QI (EE Pd) n (ss++Uf 3 .no):=by
 let⟨N,a,b,rfl,f,G,hb,p⟩:=h;have H:=PySem.sizeLine_eq;have ok:=f.1;unfold QI;refine⟨N,a,rfl,f,G,λs t F M T=>?_⟩;exists s,t,_,rfl,BE b;show if(!(BR s t (.inr b)).isSome)=q_ then _ else _
 have d:=T.far b;cases g:F b with
 |none=>
  rw[M.at_,g];rw[g]at d;exact CQ (p p_ d)
 | some x=>
  let⟨i,I⟩:=x;rw[M.at_,g];refine CS ⟨z0,?_⟩;refine Ih (λm u v=>u=n/\∃(c:s_ Str) (k:t_ Str),v=[.sh (enc N),.sh (.str a),.sh (.str b),.sh (.dic s t),.ow (.lst (c.map .str)),.sh (cy k)]/\WInv N F b i c k/\m=wm F k) (wm F (P3 b)) ⟨rfl,[],P3 b,rfl,⟨.inl ⟨rfl,rfl⟩,h_,(λx o=>by cases o),(λ_ _ _ _ _ x o=>by cases o),λy e=>by cases e;rw[g];intro z;cases z⟩,rfl⟩ ?_ ?_
  ·rintro m u v N' ⟨rfl,c,k,rfl,J,rfl⟩ K
   have wl:=NH J.nd J.ins;have L:=f.2.1;cases k with
   | none=>
    exists rfl,_,rfl
    rcases J.st with⟨_,e⟩|⟨z,r,O,R,A,S,U⟩
    ·cases e
    ·have V:z=a:=by
      rcases T.prev z O p_ A with⟨_,w⟩|⟨w',W,q',l,X,_⟩
      ·exact w
      ·cases X
     subst V;rw[T.start]at A;cases A;rw[←List.map_reverse];refine p (P3 c.reverse) ⟨i - 0,r,R,U,S,?_,by rw[ju];omega,λx o=>J.ins x (mn.mp o)⟩;rw[show i - 0=i by omega];exact T.least b i I g
   | some y=>
    cases B:F y with
    |none=>exact absurd B (J.fnd y rfl)
    |some q=>
     let⟨Y,C⟩:=q;let⟨Z,D⟩:=J.step ok T g B;exists rfl;refine⟨_,rfl,rfl,_,_,rfl,rfl,by rw[No];omega,?_⟩;exists s,t,_,J9 (Y,C),rfl,BE y,by rw[M.at_,B];rfl,_,AL (j:=1) rfl;refine K (wm F C) _ _ D ⟨rfl,c++[y],C,?_,Z,rfl⟩;rw[hX];rfl
  ·rintro u v P Q E h
   unfold AW AV AC wC Fo at h ⊢
   split at h
   ·exact⟨h.1,E _ _ h.2⟩
   ·exact h.elim
end
theorem YD{w:s_ Str}{b:Str}(h:w.getLast?=P3 b):atI (w.map D.str) (-1)=P3 (.str b):=by
 let⟨a,rfl⟩:=List.getLast?_eq_some_iff.mp h;rw[hX];exact Wx _ _
theorem YK{a:s_ Key}{b:s_ D}{K:Kn}(M:Dmap a b D.int K)(x:Str):(BR a b (.inr x)).getD .non=e_ (K x):=by
 rw[M.at_];cases K x <;>rfl
theorem VE{N:Net}(a:okN N):fine 1000001 (enc N)/\Cq (enc N)<=48000/\D_ (enc N)<=3:=Zi (YG a.1) (LJ a.1) (by rw[No];have:=a.2.1;omega) (by rw[No];have:=a.2.2;omega)
def sub(N:Net)(kept:s_ Aq):Net:=⟨N.ps,N.ts.filter λu=>decide (u∈kept)⟩
def Gj(N:Net)(t b:Int)(u:Aq):Prop:=∃d,Least N u.a u.b d/\d*b<=u.len*t
noncomputable def CD(N:Net)(t b:Int)(u:Aq):Bool:=@decide (Gj N t b u) (k8 _)
theorem nearB_iff{N:Net}{t b:Int}{u:Aq}:CD N t b u=q_↔Gj N t b u:=by
 unfold CD
 grind
noncomputable def Ag(N:Net)(t b:Int):s_ Aq->s_ Aq->s_ Aq
 |a,[]=>a
 |a,u::r=>if CD (sub N a) t b u=q_ then Ag N t b a r else Ag N t b (a++[u]) r
def GC:W2:=λc n P=>∃(N:Net) (z:D) (b:s_ Aq),c=[.sh (enc N),.br z]/\Ip z=P3 (b.map Ai)/\b.length<64/\∀a:s_ Aq,a.Perm b->Mv a->P (enc ⟨N.ps,a⟩) n
def HW:W2:=λc n P=>∃(N:Net) (u:Aq) (t b:Int),c=[.sh (enc N),.sh (.tup [.int t,.int b]),.sh (Ai u)]/\okN N/\u.a∈N.ps/\u.b∈N.ps/\1<=b/\b<=1000000/\1<=t/\t<=1000000/\∀o:t_ (s_ Str),(∀w,o=P3 w->Way N u.a u.b (P3 w)/\CD N t b u=q_)->(o=p_->CD N t b u=r_)->P (Fe o) n
def CJ:W2:=λc n P=>∃(N:Net) (t b:Int),c=[.sh (enc N),.sh (.tup [.int t,.int b])]/\okN N/\1<=b/\b<=1000000/\1<=t/\t<=1000000/\∀a:s_ Aq,a.Perm N.ts->Bo a->P (enc (sub N (Ag N t b [] a))) n
def DA:W2:=λd n P=>∃(N:Net) (s:Str) (z:D) (a:s_ Aq),d=[.br z,.sh (.str s)]/\Ip z=P3 (a.map Ai)/\(∀u,u∈a↔u∈N.ts)/\okN N/\s∈N.ps/\∀(b:s_ Key) (c:s_ D) (K:Kn),Dmap b c D.int K->LTold N s K->P (.dic b c) n
def QJ:AY:=(Au (Bc (AF (AV BC (AC 0) (wC (D.int 0))) (AF (Cp BY (AF (Cp HK (AF (Av 1) AU)) AU)) AU))))
def IJ:AY:=(Ad (Ay 3 (AQ Um (AB (AG (AC 0)) (AB (AG (AV BC (AC 2) (wC (D.int 0)))) (AB (AG (AV BC (AC 2) (wC (D.int 1)))) AO)))))
 (Ad (BK (Eo (AW (AV (Fo r_) (AC 3) (wC D.non))) (CW (AW (AQ GS (AB (AG (AQ W9 (AB (AG (AC 0)) (AB (AG (AC 3)) AO)))) (AB (AG (AC 1)) (AB (AG (AV BC (AC 2) (wC (D.int 2)))) AO))))))) (Au (wC D.non)) Aw)
 (Au (AC 3))))
def Jm:AY:=(Ad (C3 2 (DZ AU))
 (Ad (D9 (BQ (AQ DN (AB (AG (AV BC (AC 0) (wC (D.int 1)))) AO))) (Ae 3) (BK (AW (AV (Fo r_) (AQ HW (AB (AG (AQ GC (AB (AG (AC 0)) (AB (Cr (Av 2)) AO)))) (AB (AG (AC 1)) (AB (AG (AC 3)) AO)))) (wC D.non))) (Od 2 "list" Fp (AF (AC 3) AU)) Aw))
 (Au (AQ GC (AB (AG (AC 0)) (AB (Cr (Av 2)) AO))))))
def F1:AY:=(Ad (C3 2 (QX (AC 1) (wC (D.int 0))))
 (Ad (Ay 3 (wC (D.bl q_)))
 (Ad (Ke (AW (AC 3)) (Ad (Ay 3 (wC (D.bl r_)))
 (Yw 0 (E_ 3 (As (Ae 4) (As (Ae 5) (As (Ae 6) Ck)))) (D9 (BQ (DZ (AF (Bc (AF (AC 4) (AF (AC 5) AU))) (AF (Bc (AF (AC 5) (AF (AC 4) AU))) AU)))) (E_ 2 (As (Ae 7) (As (Ae 8) Ck))) (BK (AW (AV (JL r_) (AC 7) (Av 2))) (Ad (Ay 9 (AV A0 (AV CI (Av 2) (AC 7)) (AC 6)))
 (BK (AW (AV Fn (AC 9) (Rf (Av 2) (AC 8) (AV A0 (AC 9) (wC (D.int 1)))))) (Ad (Hb 2 (AC 8) (AC 9))
 (Ay 3 (wC (D.bl q_)))) Aw)) Aw)))))
 (Oj 2))))
def El:AY:=(Ad (C3 2 (DZ AU))
 (Ad (D9 (BQ (AQ DN (AB (AG (AV BC (AC 0) (wC (D.int 1)))) AO))) (Ae 3) (Ad (Ay 4 (Rg (AQ DA (AB (Cr (Av 2)) (AB (AG (AV BC (AC 3) (wC (D.int 0)))) AO))) (AV BC (AC 3) (wC (D.int 1)))))
 (BK (Eo (AW (AV (Fo r_) (AC 4) (wC D.non))) (AW (AV (f2 λi j=>D.bl (decide (j<i))) (AV Cf (AC 4) (AV BC (AC 1) (wC (D.int 1)))) (AV Cf (AV BC (AC 3) (wC (D.int 2))) (AV BC (AC 1) (wC (D.int 0))))))) (Od 2 "list" Fp (AF (AC 3) AU)) Aw)))
 (Au (Bc (AF (AV BC (AC 0) (wC (D.int 0))) (AF (Cp BY (AF (Cp HK (AF (Av 2) AU)) AU)) AU))))))
theorem sub_mem{N:Net}{kept:s_ Aq}{u:Aq}:u∈(sub N kept).ts↔u∈N.ts/\u∈kept:=by
 show u∈N.ts.filter _↔_
 simp_all
theorem Ep{N:Net}(a:okN N)(kept:s_ Aq):okN (sub N kept):=⟨NN a.1 (λt h=>(sub_mem.mp h).1) (a.1.trise.filter _),a.2.1,gc (iX _ _) a.2.2⟩
theorem Qc{N:Net}(ok:N.Ok){kept a:s_ Aq}(d:∀t∈kept,t∈N.ts)(nd:kept.Nodup)(b:a.Perm kept)(c:Mv a):(⟨N.ps,a⟩:Net)=sub N kept:=by
 congr 1
 refine G2 ((kW (b.nodup_iff.mpr nd) ((A5 ok.trise).filter _)).mpr λt=>?_) c (E9 (ok.trise.filter _));rw[b.mem_iff]
 simp_all
theorem Cw{N:Net}{t b:Int}{kept r:s_ Aq}{u:Aq}:Ag N t b kept (u::r)=if CD (sub N kept) t b u=q_ then Ag N t b kept r else Ag N t b (kept++[u]) r:=rfl
theorem Bb{N:Net}{t b:Int}:∀{rest kept:s_ Aq},(∀u∈kept,u∈Ag N t b kept rest)/\∀u∈Ag N t b kept rest,u∈kept\/u∈rest
 |[],kept=>⟨λu h=>h,λu h=>.inl h⟩
 | v::r,kept=>by
  unfold Ag
  split
  ·let⟨a,c⟩:=Bb
   exact⟨a,λu d=>(c u d).imp id λz=>Rs _ z⟩
  ·let⟨a,c⟩:=Bb (N:=N) (t:=t) (b:=b) (rest:=r) (kept:=kept++[v])
   grind
theorem HI{N:Net}{t b:Int}:∀{c a:s_ Aq}{u:Aq},u∈c->u∈Ag N t b a c\/∃d,(∀v∈d,v∈Ag N t b a c)/\Gj (sub N d) t b u
 |[],a,u,h=>by cases h
 | v::r,a,u,h=>by
  unfold Ag
  split
  ·rename_i e
   rcases TW.mp h with rfl|h
   ·exact .inr ⟨_,(Bb).1,nearB_iff.mp e⟩
   ·exact HI h
  ·rcases TW.mp h with rfl|h
   ·exact .inl ((Bb).1 u (f8 _ (Re.mpr rfl)))
   ·exact HI h
theorem Wk.mono{N a:Net}(h:∀t∈N.ts,t∈a.ts){s x:Str}{d:Int}(b:Wk N s x d):Wk a s x d:=by
 induction b with
 |nil=>exact .nil
 |snoc _ c e=>
  refine .snoc e ?_;let⟨t,f,z⟩:=jF.mp c;exact jF.mpr ⟨t,h t f,z⟩
theorem LF{f g:Type}:∀{l:s_ (f×g)},(l.map (·.1)).Nodup->∀{p q:f×g},p∈l->q∈l->p.1=q.1->p=q
 |a::l,d,p,q,h,i,e=>by
  rw[g7,gk]at d
  rcases TW.mp h with b|b <;>rcases TW.mp i with c|c
  ·rw[b,c]
  ·grind
  ·exact absurd (TM.mpr ⟨p,b,by rw[e,c]⟩) d.1
  ·exact LF d.2 b c e
theorem YC{N:Net}(ok:N.Ok){x y:Str}{l:Int}(h:Ed N x y l):look N.ts x y=P3 l:=by
 unfold look;cases e:(EY _ x).find? _ with
 |none=>exact absurd (List.find?_eq_none.mp e _ h) (by simp)
 |some q=>
  have a:=of_decide_eq_true (m7 (p:=λz=>decide _) e);rw[LF (T6 ok x) (ke e) h a];rfl
theorem Oi{N:Net}(ok:N.Ok):∀{r:s_ Str}{x:Str}{s d:Int},walk N (x::r) d->GZ N.ts x r s=P3 (s+d)
 |[],x,s,d,h=>by
  have:=h
  subst this;show P3 s=P3 _
  grind
 |y::r,x,s,d,h=>by
  let⟨l,e,a,b,rfl⟩:=h;show(match look _ x y with|some l=>GZ _ y r _|none=>p_)=_;rw[YC ok a];show GZ _ y r _=_;rw[Oi ok b,nQ]
theorem SI{N:Net}(ok:N.Ok){x:Str}{r:s_ Str}{d:Int}(a:x∈N.ps)(b:walk N (x::r) d):N7 N (.tup ((x::r).map .str))=.int d:=by
 show(if((x::r).map _).all _ then UE N _ else .non)=_;rw[if_pos (all_strs _),Dh];show(if x∈N.ps then TX _ else .non)=_;rw[if_pos a,Oi ok b,Int.zero_add];rfl
theorem Ig{N:Net}{B:Nat}(ok:N.Ok):∀{w:s_ Str},(∀x∈w,x∈N.ps)->FG B (w.map .str)/\CC (w.map .str)<=9*w.length/\ES (w.map .str)<=0
 |[],_=>⟨trivial,On _,On _⟩
 | x::r,h=>by
  let⟨a,b,c⟩:=Ig ok λy e=>h y (Rs _ e);have d:=ok.names x (h x Op);exists⟨λf g=>by have:=d.2.2 f g;omega,a⟩,?_
  ·show x.length+1+CC _<=9*(r.length+1)
   have:=d.2.1
   omega
  assumption
theorem Uw{N:Net}(ok:N.Ok){w:s_ Str}(d:w.length<=30)(h:∀x∈w,x∈N.ps):fair (.tup (w.map .str)):=by
 let⟨a,b,c⟩:=Ig ok h;exact⟨a,by show CC _<=160000;omega,by show ES _+1<=50;omega⟩
section
variable {ss:s_ Slot}{n:Nat}{Pd:D->Nat->Prop}
theorem Ta(h:GC ss n Pd):QJ (EE Pd) n (ss++Uf 0 .no):=by
 let⟨N,z,s,rfl,c,d,p⟩:=h;unfold QJ;refine⟨_,AL (j:=0) rfl,z,_,rfl,c,by simp_all,⟨λx a=>?_,λx a y e f i k l=>?_⟩,λm o q=>?_⟩
 ·let⟨t,_,rfl⟩:=TM.mp a
  exact⟨EH t,rfl,jG _ _⟩
 ·let⟨t,_,rfl⟩:=TM.mp a
  let⟨u,_,rfl⟩:=TM.mp e;cases(show P3 (EH t)=P3 f from k);cases(show P3 (EH u)=P3 i from l);rfl
 ·let⟨b,r,rfl⟩:=Rj (g:=aw) (λ_=>rfl) o
  exact⟨z2,p b r (SD q)⟩
theorem L6(h:HW ss n Pd):IJ (EE Pd) n (ss++Uf 1 .no):=by
 let⟨N,u,t,b,rfl,f,v,x,y,A,B,C,p⟩:=h;unfold IJ;refine⟨_,AL (j:=0) rfl,_,AL (j:=1) rfl,N,u.a,u.b,rfl,f,v,x,λo l=>⟨rfl,?_⟩⟩;cases o with
 |none=>
  refine p p_ (λw e=>by cases e) λ_=>?_;rw[ig];intro z;let⟨d,k,_⟩:=nearB_iff.mp z;exact l d k.1
 | some w=>
  have m:=l;let⟨d,r,rfl,E,D,k,q,i⟩:=m
  have g:CD N t b u=decide (d*b<=u.len*t):=by
   rw[iN,nearB_iff,decide_eq_true_eq];exact⟨fun⟨d',hd',s⟩=>by rw[Least.unique k hd'];exact s,λs=>⟨d,k,s⟩⟩
  exists N,.tup ((u.a::r).map .str),rfl,f.1,by have:=f.2.1;omega,f.2.2,Uw f.1 q i;rw[SI f.1 (i _ Op) D];exists _,AL (j:=2) rfl,d,t,b,u.len,rfl,y,A,B,C
  by_cases c:d*b<=u.len*t
  ·rw[decide_eq_true c]
   exact p (P3 _) (λw e=>by cases e;exact⟨l,by rw[g];exact decide_eq_true c⟩) λe=>by cases e
  ·rw[decide_eq_false c]
   exact p p_ (λw e=>by cases e) λ_=>by rw[g];exact decide_eq_false c
theorem Na(h:CJ ss n Pd):Jm (EE Pd) n (ss++Uf 2 .no):=by
 let⟨N,t,b,rfl,i,J,K,L,M,p⟩:=h;have ok:=i.1;have O:=i.2.2;have P:=PySem.sizeLine_eq;unfold Jm;refine⟨z0,_,AL (j:=1) rfl,_,N.ts,rfl,rfl,by omega,λd m Q=>?_⟩;have R:=m.length_eq;have r:d.Nodup:=m.nodup_iff.mpr (A5 ok.trise)
 have S:∀(c done a:s_ Aq) (s:Slot),done++c=d->(∀u∈a,u∈done)->a.Nodup->Ag N t b a c=Ag N t b [] d->
   BP (Ae 3) (BK (AW (AV (Fo r_) (AQ HW (AB (AG (AQ GC (AB (AG (AC 0)) (AB (Cr (Av 2)) AO)))) (AB (AG (AC 1)) (AB (AG (AC 3)) AO)))) (wC D.non))) (Od 2 "list" Fp (AF (AC 3) AU)) Aw) {EE Pd with nx:=Au (AQ GC (AB (AG (AC 0)) (AB (Cr (Av 2)) AO))) (EE Pd)} (c.map Ai) n [.sh (enc N),.sh (.tup [.int t,.int b]),.ow (.lst (a.map Ai)),s]:=by
  intro c
  induction c with
  |nil=>
   intro done a s e q k l;rw[gq]at e;subst e;have f:∀u∈a,u∈N.ts:=λu A=>m.mem_iff.mp (q u A);have B:=sub_len k (A5 ok.trise) f;refine⟨N,_,a,rfl,rfl,by omega,λC E F=>?_⟩;rw[Qc ok f k E F,show a=Ag N t b [] done from l];exact p done m Q
  | cons u c H=>
   intro done a s e q k l;have f:∀v∈a,v∈N.ts:=λv g=>m.mem_iff.mp (by rw[←e];exact iJ _ (q v g));have B:=sub_len k (A5 ok.trise) f;have A:u∈N.ts:=m.mem_iff.mp (by rw[←e];exact f8 _ Op)
   have G:u∉done:=by
    rw[←e,iB]at r;exact λz=>r.2.2 u z u Op rfl
   have I:(done++[u])++c=d:=by rw[iA];exact e
   let⟨U,V,_⟩:=ok.tin u A;refine⟨N,_,a,rfl,rfl,by omega,λC E F=>?_⟩;rw[Qc ok f k E F];refine⟨sub N a,u,t,b,rfl,Ep i a,U,V,J,K,L,M,λo W X=>⟨rfl,?_⟩⟩;rw[Cw]at l;cases o with
   |some w=>
    rw[(W w rfl).2,if_pos rfl]at l;exact H (done++[u]) a _ I (λv g=>iJ _ (q v g)) k l
   | none=>
    rw[X rfl,if_neg (by decide)]at l;exists _,rfl,rfl,_,_,rfl,rfl,by rw[No];omega
    have:=H (done++[u]) (a++[u]) (.sh (Ai u)) I (λv g=>by
     rcases gP.mp g with g|g
     ·exact iJ _ (q v g)
     ·exact f8 _ g) (by
     rw[iB];exact⟨k,gk.mpr ⟨gU,h_⟩,λx Y y Z z=>G (by rw[←Re.mp Z,←z];exact q x Y)⟩) l
    rw[hX]at this;exact this
 exact S d [] [] _ rfl (λu h=>by cases h) h_ rfl
end
section
variable {ss:s_ Slot}{n:Nat}{Pd:D->Nat->Prop}
theorem Kx(h:DA ss n Pd):F1 (EF Pd) n (ss++Uf 8 .no):=by
 let⟨N,s,I,us,rfl,a0,L,O,hs,p⟩:=h;have a7:=PySem.sizeLine_eq;have ok:=O.1;have a8:=O.2.1;unfold F1;exists _,BE s
 have step:∀(Y:E2) (x y:Str) (l:Int),Ed N x y l->∀(f:s_ Key) (i:s_ D) (K:Kn) (g:Bool) (o q w A v:Slot),Dmap f i D.int K->Bf N s f.length K->
   (∀(E:s_ Key) (R:s_ D) (k:Kn) (g':Bool) (t7 t8 t9:Slot),Dmap E R D.int k->Bf N s E.length k->((g'=g/\k=K/\Kj K (x,y,l))\/(g'=q_/\Uq N.ps k<Uq N.ps K))->
    Y.nx n [.br I,.sh (.str s),.ow (.dic E R),.sh (.bl g'),o,q,.sh (.int l),t7,t8,t9])->
   (BK (AW (AV (JL r_) (AC 7) (Av 2))) (Ad (Ay 9 (AV A0 (AV CI (Av 2) (AC 7)) (AC 6)))
 (BK (AW (AV Fn (AC 9) (Rf (Av 2) (AC 8) (AV A0 (AC 9) (wC (D.int 1)))))) (Ad (Hb 2 (AC 8) (AC 9))
 (Ay 3 (wC (D.bl q_)))) Aw)) Aw) Y n [.br I,.sh (.str s),.ow (.dic f i),.sh (.bl g),o,q,.sh (.int l),.sh (.str x),.sh (.str y),v]:=by
  intro Y x y l he f i K g o q w A v M B hD;have kl:=M.le B.ins;exists f,i,_,rfl,BE x;show if((BR f i (.inr x)).isSome)=q_ then _ else _
  cases ex:K x with
  |none=>
   rw[M.at_,ex];exact CS (hD f i K g _ _ _ M B (.inl ⟨rfl,rfl,λd e=>by rw[show K x=P3 d from e]at ex;cases ex⟩))
  | some d=>
   rw[M.at_,ex];refine CQ ⟨f,i,_,_,rfl,BE x,by rw[M.at_,ex];rfl,?_⟩;exists f,i,rfl,_,BE y
   have S:(K y=p_\/∃C,K y=P3 C/\d+l<C)->(Ad (Hb 2 (AC 8) (AC 9)) (Ay 3 (wC (D.bl q_)))) Y n [.br I,.sh (.str s),.ow (.dic f i),.sh (.bl g),o,q,.sh (.int l),.sh (.str x),.sh (.str y),.sh (.int (d+l))]:=λF=>by
    refine⟨f,i,rfl,_,BE y,by omega,?_⟩;have r:=K0 f (.inr y)
    have T:=B.put ok (c':=(DP f (.inr y)).length) (by rw[r];split <;>omega) (by rw[r];split <;>omega) ex he (λe=>by rw[r,if_neg (by rw[(M.has (x:=y)).1 e];decide)]) (λC e=>by
     rcases F with F|⟨d2,F,U⟩
     ·rw[e]at F;cases F
     ·rw[e]at F;cases F;exact U)
    exact hD _ _ _ q_ _ _ _ (M.put y (d+l)) T.1 (.inr ⟨rfl,T.2⟩)
   rw[M.at_];cases ey:K y with
   |none=>
    show if decide (d+l<d+l+1)=q_ then _ else _
    rw[decide_eq_true (by omega)];exact CQ (S (.inl ey))
   | some C=>
    show if decide (d+l<C)=q_ then _ else _
    by_cases c:d+l<C
    ·rw[decide_eq_true c]
     exact CQ (S (.inr ⟨C,ey,c⟩))
    ·rw[decide_eq_false c]
     refine CS (hD f i K g _ _ _ M B (.inl ⟨rfl,rfl,λd2 e=>?_⟩));rw[show K x=P3 d2 from e]at ex;cases ex;exact⟨C,ey,by show C<=d+l;omega⟩
 refine Ih (λm Z ρ=>Z=n/\∃(f:s_ Key) (i:s_ D) (K:Kn) (g:Bool) (o q J w A v:Slot),ρ=[.br I,.sh (.str s),.ow (.dic f i),.sh (.bl g),o,q,J,w,A,v]/\Dmap f i D.int K/\Bf N s f.length K/\((g=q_/\m=Uq N.ps K+1)\/(g=r_/\m=0/\∀t∈N.ts,Kj K (t.a,t.b,t.len)/\Kj K (t.b,t.a,t.len)))) _ ⟨rfl,_,_,_,q_,_,_,_,_,_,_,rfl,Dmap.one (enc:=D.int) (a:=(0:Int)),Bf.init hs,.inl ⟨rfl,rfl⟩⟩ ?_ ?_
 ·rintro m Z ρ N' ⟨rfl,f,i,K,g,o,q,J,w,A,v,rfl,M,B,G⟩ hN
  rcases G with⟨rfl,hm⟩|⟨rfl,_,ht⟩
  ·have H:∀(j done:s_ Aq) (f:s_ Key) (i:s_ D) (k:Kn) (g:Bool) (o q J w A v:Slot),done++j=us->Dmap f i D.int k->Bf N s f.length k->((g=q_/\Uq N.ps k<Uq N.ps K)\/(g=r_/\Uq N.ps k<=Uq N.ps K/\∀t∈done,Kj k (t.a,t.b,t.len)/\Kj k (t.b,t.a,t.len)))->
     BP (E_ 3 (As (Ae 4) (As (Ae 5) (As (Ae 6) Ck)))) (D9 (BQ (DZ (AF (Bc (AF (AC 4) (AF (AC 5) AU))) (AF (Bc (AF (AC 5) (AF (AC 4) AU))) AU)))) (E_ 2 (As (Ae 7) (As (Ae 8) Ck))) (BK (AW (AV (JL r_) (AC 7) (Av 2))) (Ad (Ay 9 (AV A0 (AV CI (Av 2) (AC 7)) (AC 6)))
 (BK (AW (AV Fn (AC 9) (Rf (Av 2) (AC 8) (AV A0 (AC 9) (wC (D.int 1)))))) (Ad (Hb 2 (AC 8) (AC 9))
 (Ay 3 (wC (D.bl q_)))) Aw)) Aw)) {EF Pd with nx:=N',ct:=N',bk:=Oj 2 (EF Pd)} (j.map Ai) Z [.br I,.sh (.str s),.ow (.dic f i),.sh (.bl g),o,q,J,w,A,v]:=by
    intro j
    induction j with
    |nil=>
     intro done f i k g o q J w A v e M B G;rw[gq]at e;subst e
     rcases G with⟨rfl,U⟩|⟨rfl,_,ht⟩
     ·exact hN (Uq N.ps k+1) _ _ (by omega) ⟨rfl,f,i,k,q_,_,_,_,_,_,_,rfl,M,B,.inl ⟨rfl,rfl⟩⟩
     ·exact hN 0 _ _ (by omega) ⟨rfl,f,i,k,r_,_,_,_,_,_,_,rfl,M,B,.inr ⟨rfl,rfl,λt h=>ht t ((L t).mpr h)⟩⟩
    | cons t j ih=>
     intro done f i k g o q J w A v e M B G;have V:t∈N.ts:=(L t).mp (by rw[←e];exact f8 _ Op);have e':(done++[t])++j=us:=by rw[iA];exact e
     have ed:=KL V;exists rfl,rfl,z2,z2,z2;exists rfl,rfl;refine step _ t.a t.b t.len ed.1 f i k g _ _ w A v M B λa1 a2 K1 g1 t7 t8 t9 M1 B1 h1=>?_;exists rfl,rfl;refine step _ t.b t.a t.len ed.2 a1 a2 K1 g1 _ _ t7 t8 t9 M1 B1 λa3 a4 K2 g2 u7 u8 u9 M2 B2 h2=>?_;refine ih (done++[t]) a3 a4 K2 g2 _ _ _ _ _ _ e' M2 B2 ?_
     rcases h1 with⟨rfl,rfl,t1⟩|⟨rfl,a9⟩
     ·rcases h2 with⟨rfl,rfl,t2⟩|⟨rfl,a5⟩
      ·rcases G with z|⟨z1,z2,z3⟩
       ·exact .inl z
       ·refine .inr ⟨z1,z2,λu W=>?_⟩
        rcases gP.mp W with W|W
        ·exact z3 u W
        ·rw[Re.mp W];exact⟨t1,t2⟩
      ·refine .inl ⟨rfl,?_⟩
       rcases G with⟨_,z⟩|⟨_,z,_⟩ <;>omega
     ·have X:Uq N.ps K1<Uq N.ps K:=by rcases G with⟨_,z⟩|⟨_,z,_⟩ <;>omega
      rcases h2 with⟨rfl,rfl,t2⟩|⟨rfl,a5⟩
      ·exact .inl ⟨rfl,X⟩
      ·exact .inl ⟨rfl,by omega⟩
   exact⟨I,_,rfl,a0,H us [] f i K r_ _ _ _ _ _ _ rfl M B (.inr ⟨rfl,On _,λt h=>by cases h⟩)⟩
  ·exact⟨_,rfl,p f i K M (B.told ok (by have:=M.le B.ins;omega) ht)⟩
 ·rintro Z ρ P Q a6 h
  unfold AW AC at h ⊢
  split at h
  ·rename_i d hd
   cases d with
   |bl b=>exact a6 _ _ h
   |_=>exact h.elim
  ·exact h.elim
theorem Iy(h:CJ ss n Pd):El (EE Pd) n (ss++Uf 3 .no):=by
 let⟨N,t,b,rfl,w,b1,b2,t1,t2,p⟩:=h;have ok:=w.1;have Y:=w.2.2;have Z:=PySem.sizeLine_eq;unfold El;refine⟨z0,_,AL (j:=1) rfl,_,N.ts,rfl,rfl,by omega,λo E o2=>?_⟩;have F:o.Nodup:=E.nodup_iff.mpr (A5 ok.trise)
 have go:∀(k done f:s_ Aq) (J L:Slot),done++k=o->(∀u∈f,u∈done)->f.Nodup->Ag N t b f k=Ag N t b [] o->
   BP (Ae 3) (Ad (Ay 4 (Rg (AQ DA (AB (Cr (Av 2)) (AB (AG (AV BC (AC 3) (wC (D.int 0)))) AO))) (AV BC (AC 3) (wC (D.int 1)))))
 (BK (Eo (AW (AV (Fo r_) (AC 4) (wC D.non))) (AW (AV (f2 λi j=>D.bl (decide (j<i))) (AV Cf (AC 4) (AV BC (AC 1) (wC (D.int 1)))) (AV Cf (AV BC (AC 3) (wC (D.int 2))) (AV BC (AC 1) (wC (D.int 0))))))) (Od 2 "list" Fp (AF (AC 3) AU)) Aw)) {EE Pd with nx:=Au (Bc (AF (AV BC (AC 0) (wC (D.int 0))) (AF (Cp BY (AF (Cp HK (AF (Av 2) AU)) AU)) AU))) (EE Pd)} (k.map Ai) n [.sh (enc N),.sh (.tup [.int t,.int b]),.ow (.lst (f.map Ai)),J,L]:=by
  intro k
  induction k with
  | nil=>
   intro done f J L e C r A;rw[gq]at e;subst e;have q:∀u∈f,u∈N.ts:=λu O=>E.mem_iff.mp (C u O);have P:=sub_len r (A5 ok.trise) q;refine⟨_,AL (j:=0) rfl,_,_,rfl,rfl,by rw[No];omega,⟨λx H=>?_,λx H y Q ka kb ea eb=>?_⟩,λa0 hp ho=>?_⟩
   ·let⟨t,_,rfl⟩:=TM.mp H
    exact⟨EH t,rfl,jG _ _⟩
   ·let⟨t,_,rfl⟩:=TM.mp H
    let⟨u,_,rfl⟩:=TM.mp Q;cases(show P3 (EH t)=P3 ka from ea);cases(show P3 (EH u)=P3 kb from eb);rfl
   ·let⟨a1,p1,rfl⟩:=Rj (g:=aw) (λ_=>rfl) hp
    exists z2;have es:=Qc ok q r p1 (SD ho)
    have:Pd (enc (sub N f)) n:=by rw[show f=Ag N t b [] done from A];exact p done E o2
    rw[←es]at this;exact this
  | cons u k U=>
   intro done f J L e C r A;have q:∀v∈f,v∈N.ts:=λv l=>E.mem_iff.mp (by rw[←e];exact iJ _ (C v l));have P:=sub_len r (A5 ok.trise) q;have O:u∈N.ts:=E.mem_iff.mp (by rw[←e];exact f8 _ Op)
   have R:u∉done:=by
    rw[←e,iB]at F;exact λz=>F.2.2 u z u Op rfl
   have V:(done++[u])++k=o:=by rw[iA];exact e
   let⟨m1,m2,_⟩:=ok.tin u O;rw[Cw]at A;have s:CD (sub N f) t b u=r_->∀B,(Od 2 "list" Fp (AF (AC 3) AU)) {nx:=BP (Ae 3) (Ad (Ay 4 (Rg (AQ DA (AB (Cr (Av 2)) (AB (AG (AV BC (AC 3) (wC (D.int 0)))) AO))) (AV BC (AC 3) (wC (D.int 1)))))
 (BK (Eo (AW (AV (Fo r_) (AC 4) (wC D.non))) (AW (AV (f2 λi j=>D.bl (decide (j<i))) (AV Cf (AC 4) (AV BC (AC 1) (wC (D.int 1)))) (AV Cf (AV BC (AC 3) (wC (D.int 2))) (AV BC (AC 1) (wC (D.int 0))))))) (Od 2 "list" Fp (AF (AC 3) AU)) Aw)) {EE Pd with nx:=Au (Bc (AF (AV BC (AC 0) (wC (D.int 0))) (AF (Cp BY (AF (Cp HK (AF (Av 2) AU)) AU)) AU))) (EE Pd)} (k.map Ai),rt:=Pd} n [.sh (enc N),.sh (.tup [.int t,.int b]),.ow (.lst (f.map Ai)),.sh (Ai u),B]:=λc B=>by
    rw[c,if_neg (by decide)]at A;exists _,rfl,rfl,_,_,rfl,rfl,by rw[No];omega
    have:=U (done++[u]) (f++[u]) (.sh (Ai u)) B V (λv l=>by
     rcases gP.mp l with l|l
     ·exact iJ _ (C v l)
     ·exact f8 _ l) (by
     rw[iB];exact⟨r,gk.mpr ⟨gU,h_⟩,λx H y Q z=>R (by rw[←Re.mp Q,←z];exact C x H)⟩) A
    rw[hX]at this;exact this
   refine⟨_,AL (j:=0) rfl,sub N f,u.a,_,f,rfl,rfl,λv=>⟨λl=>sub_mem.mpr ⟨q v l,l⟩,λl=>(sub_mem.mp l).2⟩,Ep w f,m1,λks ds K M T=>?_⟩;exists ks,ds,rfl,_,AL (j:=1) rfl,_,BE u.b;rw[YK M];have I:=T.far u.b;cases W:K u.b with
   | none=>
    rw[W]at I;exists rfl
    exact s (by
     rw[ig];intro z;let⟨d,hd,_⟩:=nearB_iff.mp z;exact I d hd.1) _
   | some d=>
    rw[W]at I
    have X:CD (sub N f) t b u=decide (d*b<=u.len*t):=by
     rw[iN,nearB_iff,decide_eq_true_eq];constructor
     ·rintro⟨d',S,r⟩
      rw[Least.unique (show Least (sub N f) u.a u.b d from I) S];exact r
     ·intro r
      exact⟨d,I,r⟩
    exists rfl;exists _,AL (j:=1) rfl,.inr ⟨by omega,by omega⟩,_,AL (j:=2) rfl,_,AL (j:=0) rfl,.inr ⟨by omega,by omega⟩;show if decide (u.len*t<d*b)=q_ then _ else _
    by_cases c:u.len*t<d*b
    ·rw[decide_eq_true c]
     exact CQ (s (by rw[X];exact decide_eq_false (by omega)) _)
    ·rw[decide_eq_false c]
     rw[X,decide_eq_true (by omega),if_pos rfl]at A;exact CS (U (done++[u]) f _ _ V (λv l=>iJ _ (C v l)) r A)
 exact go o [] [] _ _ rfl (λu h=>by cases h) h_ rfl
end
def thn(N:Net)(a:s_ Aq):Prop:=(∀t∈a,t∈N.ts)/\a.Pairwise CG
def Fk(N:Net)(a:s_ Aq):s_ Aq:=N.ts.filter λt=>decide (t∉a)
abbrev Dg(w:s_ Str):D:=.tup (w.map .str)
def Oe(t b:Int):Prop:=1<=b/\b<=1000000/\1<=t/\t<=1000000
def walkedK(k:Nat)(M:Net)(a b:Str)(w:s_ Str)(d:Int):Prop:=(∃r,w=a::r)/\w.getLast?=P3 b/\walk M w d/\w.length<=k/\∀x∈w,x∈M.ps
abbrev walked:=walkedK 1000
def PapOkK(k:Nat)(M:Net)(t b:Int):s_ Aq->s_ (s_ Str)->Prop
 |[],[]=>True
 |u::c,w::e=>(∃d,walkedK k M u.a u.b w d/\d*b<=u.len*t)/\PapOkK k M t b c e
 |_,_=>False
def Vw(k:Nat)(N:Net)(c:s_ Aq)(t b:Int)(d:s_ (s_ Str)):Prop:=∀a:s_ Aq,a.Perm (Fk N c)->Bo a->PapOkK k ⟨N.ps,c⟩ t b a d
def GR:W2:=λd n P=>∃(N:Net) (a:s_ Aq) (t b:Int),d=[.sh (enc N),.sh (.tup [.int t,.int b]),.sh (enc ⟨N.ps,a⟩)]/\okN N/\thn N a/\Oe t b /\
 (∀c,Vw N.ps.length N a t b c->(∀u∈Fk N a,Gj ⟨N.ps,a⟩ t b u)->P (.tup (c.map Dg)) n)/\((∃u∈Fk N a,¬Gj ⟨N.ps,a⟩ t b u)->P .non n)
def IP(N:Net)(a:s_ Aq)(t b:Int):Prop:=∀u∈N.ts,Gj ⟨N.ps,a⟩ t b u
def OZ:W2:=λd n P=>∃(N:Net) (t b:Int),d=[.fd,.sh (enc N),.sh (.tup [.int t,.int b])]/\okN N/\Oe t b/\N.ts.length+2<=n/\∀(a:s_ Aq) (c:Nat),thn N a->n - (N.ts.length+2)<=c->P (enc ⟨N.ps,a⟩) c
def Fx:AY:=(Ad (Ay 3 (Bp [P3 2,P3 1,p_] (BQ (AQ ND (AB (AG (AC 0)) (AB (AG (AC 2)) AO)))) (Ae 2) DB (AQ HW (AB (AG (AC 0)) (AB (AG (AC 1)) (AB (AG (AC 2)) AO))))))
 (Au (Xa (AW (AV (LW r_) (wC D.non) (AC 3))) (wC D.non) (Cp BY (AF (AC 3) AU)))))
def GQ:AY:=(Ad (BK (Kf (AW (AV (HL r_) (AC 4) (wC (D.int 1)))) (AW (AV YO (Av 5) (DZ AU)))) (Yt 5 (AQ BG (AB (Az 0) (AB (AG (Cp Gb (AF (Av 5) AU))) AO)))) Aw)
 (Au (Bc (AF (AV BC (AC 1) (wC (D.int 0))) (AF (Cp BY (AF (Av 5) AU)) AU)))))
def D4:AY:=(Ad (Ay 3 (AQ CJ (AB (AG (AC 1)) (AB (AG (AC 2)) AO))))
 (Ad (Ay 4 (AQ BG (AB (Az 0) (AB (AG (wC (D.int 4))) AO))))
 (Ad (BK (AW (AV (HL r_) (AC 4) (wC (D.int 0)))) (Au (Bc (AF (AV BC (AC 1) (wC (D.int 0))) (AF (Cp BY (AF (Bp [P3 0,p_] (BQ (AV BC (AC 1) (wC (D.int 1)))) (Ae 1) (AW (AV (f2 λi j=>D.bl (decide (j<i))) (AQ BG (AB (Az 0) (AB (AG (wC (D.int 3))) AO))) (wC (D.int 0)))) (AC 1)) AU)) AU)))) Aw)
 (Ad (C3 5 (Bp [P3 3,P3 0,p_] (BQ (AV BC (AC 1) (wC (D.int 1)))) (Ae 2) (Eo (AW (AV (LW r_) (AC 2) (AV BC (AC 0) (wC (D.int 1))))) (AW (AV (HL r_) (AQ BG (AB (Az 1) (AB (AG (wC (D.int 3))) AO))) (wC (D.int 0))))) (AC 2)))
 GQ))))
theorem thn.okN{N:Net}(a:okN N){b:s_ Aq}(h:thn N b):okN ⟨N.ps,b⟩:=⟨NN a.1 h.1 h.2,a.2.1,by
 have:=sub_len (A5 h.2) (A5 a.1.trise) h.1
 have:=a.2.2
 grind⟩
theorem thn.thinB{N:Net}{a:s_ Aq}(h:thn N a):thinB N (enc ⟨N.ps,a⟩)=q_:=thinB_iff.mpr ⟨a,rfl,h.1,h.2⟩
theorem PapOkK.len{k:Nat}{M:Net}{t b:Int}:∀{a:s_ Aq}{c:s_ (s_ Str)},PapOkK k M t b a c->c.length=a.length
 |[],[],_=>rfl
 |u::a,w::c,h=>by rw[gS,gS,PapOkK.len h.2]
theorem Hx{N:Net}(ok:N.Ok){s x:Str}:∀(k:Nat) (d:Int),d.toNat<=k->Wk N s x d->∃e,Least N s x e/\e<=d
 | k,d,g,h=>by
  by_cases c:∃a,Wk N s x a/\a<d
  ·let⟨a,b,lt⟩:=c
   have i:=b.pos ok
   match k with
   |0=>omega
   |k+1=>
    let⟨e,j,f⟩:=Hx ok k a (by omega) b
    grind
  ·exact⟨d,⟨h,λa b=>kd λz=>c ⟨a,b,by omega⟩⟩,jo _⟩
theorem Pe{N:Net}(d:okN N){c:s_ Aq}(h:thn N c){t b:Int}(j:b<=t)(m:1<=b){u:Aq}(k:u∈c):Gj ⟨N.ps,c⟩ t b u:=by
 have a:=h.okN d;have g:=(KL (N:=⟨N.ps,c⟩) k).1;have i:Wk _ _ _ _:=.snoc .nil g;rw[Int.zero_add]at i;let⟨e,l,f⟩:=Hx a.1 _ _ (On _) i;have n:=(g.pos a.1).1;exists e,l;have o:e*b<=u.len*b:=lg f (by omega);have p:u.len*b<=u.len*t:=j7 j (by omega);omega
theorem RD{M:Net}(c:okN M){a b:Str}{w:s_ Str}{d:Int}(h:walked M a b w d):N7 M (Dg w)=.int d:=by
 let⟨⟨r,rfl⟩,_,f,_,e⟩:=h;exact SI c.1 (e _ Op) f
section
variable {ss:s_ Slot}{n:Nat}{Pd:D->Nat->Prop}
def Uo(M:Net)(t b:Int):s_ Aq->s_ (t_ (s_ Str))->Prop
 |[],[]=>True
 |u::c,o::d=>((∀w,o=P3 w->Way M u.a u.b (P3 w)/\CD M t b u=q_)/\(o=p_->CD M t b u=r_))/\Uo M t b c d
 |_,_=>False
theorem Wk.cons{N:Net}{x y z:Str}{l d:Int}(e:Ed N x y l)(h:Wk N y z d):Wk N x z (l+d):=by
 induction h with
 |nil=>rw[Int.add_comm];exact .snoc .nil e
 |snoc h f a=>rw[←nQ];exact .snoc a f
theorem GH{N:Net}(ok:N.Ok){b:Str}:∀{w:s_ Str}{d:Int},walk N w d->w.getLast?=P3 b->∀x∈w,∃e,Wk N x b e/\e<=d
 |[],_,h,_,_,_=>h.elim
 |[y],d,h,a,x,c=>by
  cases a;rw[Re.mp c,show d=0 from h];exact⟨0,.nil,jo _⟩
 | y::z::r,d,h,a,x,c=>by
  let⟨l,f,g,i,rfl⟩:=h;rw[List.getLast?_cons_cons]at a
  have:=(g.pos ok).1
  rcases TW.mp c with rfl|c
  ·let⟨e,j,k⟩:=GH ok i a z Op
   exact⟨l+e,Wk.cons g j,by omega⟩
  ·let⟨e,j,k⟩:=GH ok i a x c
   grind
theorem Po{N:Net}(ok:N.Ok){b:Str}:∀{r:s_ Str}{a:Str}{d:Int},walk N (a::r) d->(a::r).getLast?=P3 b->(∀c,Wk N a b c->d<=c)->(a::r).Nodup
 |[],a,d,_,_,_=>gk.mpr ⟨by simp,h_⟩
 | z::r,a,d,h,g,i=>by
  let⟨l,f,j,k,rfl⟩:=h;refine gk.mpr ⟨λm=>?_,Po ok k g λc o=>?_⟩
  ·let⟨e,p,q⟩:=GH ok k g a m
   have:=i e p
   have:=(j.pos ok).1
   omega
  ·have:=i _ (Wk.cons j o)
   omega
theorem PN{M:Net}(ok:M.Ok){t b:Int}:∀{a:s_ Aq}{c:s_ (t_ (s_ Str))},Uo M t b a c->(∃e,c=e.map P3/\PapOkK M.ps.length M t b a e/\∀u∈a,Gj M t b u)\/(c.any nR=q_/\∃u∈a,¬Gj M t b u)
 |[],[],_=>.inl ⟨[],rfl,trivial,λu o=>by cases o⟩
 |u::a,p_::c,h=>.inr ⟨rfl,u,Op,λz=>by
  have:=h.1.2 rfl
  rw[nearB_iff.mpr z]at this;cases this⟩
 | u::a,P3 w::c,h=>by
  let⟨p,f⟩:=h.1.1 w rfl;have f:=nearB_iff.mp f
  rcases PN ok h.2 with⟨e,rfl,g,i⟩|⟨g,v,i,q⟩
  ·refine .inl ⟨w::e,rfl,⟨?_,g⟩,λv A=>?_⟩
   ·let⟨d,r,s,j,k,l,B,m⟩:=p
    let⟨C,x,y⟩:=f;subst s;exact⟨d,⟨⟨r,rfl⟩,j,k,NH (Po ok k j l.2) m,m⟩,by rw[Least.unique l x];exact y⟩
   grind
  ·exact .inr ⟨by rw[nN,g,Bool.or_true],v,Rs _ i,q⟩
theorem Ss:∀a:s_ (t_ (s_ Str)),((a.map Fe).any λy=>FN y .non)=a.any nR
 |[]=>rfl
 |none::a=>rfl
 |some w::a=>by
  rw[g7,nN,Ss a];rfl
theorem RE{M:Net}(ok:M.Ok){t b:Int}:∀{c:s_ Aq}{a:s_ (t_ (s_ Str))},Uo M t b c a->FG 0 (a.map Fe)/\ES (a.map Fe)<=1
 |[],[],_=>⟨trivial,Tk _⟩
 |u::c,p_::a,h=>by
  let⟨e,f⟩:=RE ok h.2;exact⟨⟨trivial,e⟩,by assumption⟩
 |u::c,P3 w::a,h=>by
  let⟨e,f⟩:=RE ok h.2;let⟨d,r,j,k,l,m,o,g⟩:=(h.1.1 w rfl).1;let⟨i,_,p⟩:=Ig ok g;exact⟨⟨i,e⟩,by show max (ES _+1) _<=1;omega⟩
theorem Jx(h:GR ss n Pd):Fx (EE Pd) n (ss++Uf 1 .no):=by
 let⟨N,i,t,b,rfl,f,E,⟨F,G,H,I⟩,p,q⟩:=h;have j:=E.okN f;have A:=f.2.2;unfold Fx;refine⟨N,i,rfl,f.1,by omega,E.1,λk l J=>?_⟩;have K:k.length<=60:=by rw[l.length_eq];exact gc (iX _ _) A
 exists by show(k.map Ai).length<=10000000;rw[No];omega
 have L:∀(P:s_ D->Nat->Prop),(∀c,Uo ⟨N.ps,i⟩ t b k c->P (c.map Fe) n)->∀(a:s_ Aq) (e:s_ D) (s:Slot),(∀u∈a,u∈N.ts)->(∀c,Uo ⟨N.ps,i⟩ t b a c->P (e++c.map Fe) n)->
   C5 (Ae 2) DB (AQ HW (AB (AG (AC 0)) (AB (AG (AC 1)) (AB (AG (AC 2)) AO)))) P (a.map Ai) e n [.sh (enc ⟨N.ps,i⟩),.sh (.tup [.int t,.int b]),s]:=by
  intro P hP a
  induction a with
  |nil=>
   intro e s _ h
   have:=h [] trivial
   rw[mZ,gq]at this;exact this
  |cons u a M=>
   intro e s g h;let⟨O,Q,_⟩:=f.1.tin u (g u Op);refine⟨⟨N.ps,i⟩,u,t,b,rfl,j,O,Q,F,G,H,I,λo m C=>?_⟩;refine M (e++[Fe o]) _ (λv R=>g v (Rs _ R)) λc d=>?_
   have:=h (o::c) ⟨⟨m,C⟩,d⟩
   rw[iA];exact this
 have r:∀c,Uo ⟨N.ps,i⟩ t b k c->(Au (Xa (AW (AV (LW r_) (wC D.non) (AC 3))) (wC D.non) (Cp BY (AF (AC 3) AU)))) (EE Pd) n [.sh (enc N),.sh (.tup [.int t,.int b]),.sh (enc ⟨N.ps,i⟩),.sh (.lst (c.map Fe))]:=λc d=>by
  let⟨S,f2⟩:=RE j.1 d;exists⟨rfl,rfl,Tk _⟩,CP (B:=0) (by decide) S (by show ES (c.map Fe)+1<=100;omega),_,rfl;show if((c.map Fe).any λy=>FN y .non)=q_ then _ else _
  rw[Ss]
  rcases PN j.1 d with⟨x,rfl,m,C⟩|⟨m,u,g,T⟩
  ·have U:(x.map P3).any nR=r_:=by
    rw[ig];intro z;let⟨o,V,z⟩:=kQ.mp z;let⟨w,_,rfl⟩:=TM.mp V;cases z
   rw[U];have W:(x.map P3).map Fe=x.map Dg:=by rw[ij];rfl
   refine CS ?_;show Pd (.tup ((x.map P3).map Fe)) n;rw[W];refine p x (λX Y Z=>?_) λu g=>C u (l.mem_iff.mpr g);rw[Bg (Y.trans l.symm) Z J];exact m
  ·rw[m]
   exact CQ (q ⟨u,l.mem_iff.mp g,T⟩)
 exact L _ r k [] _ (λu g=>(jM.mp (l.mem_iff.mp g)).1) λc d=>by rw[gy];exact r c d
theorem He{N:Net}(a:okN N){b:s_ Aq}(h:b.Sublist N.ts):thn N b:=⟨λt c=>h.subset c,a.1.trise.sublist h⟩
theorem HC(h:OZ ss n Pd):D4 (EE Pd) n (ss++Uf 3 .no):=by
 let⟨N,t,b,rfl,g,⟨S,T,U,V⟩,hn,p⟩:=h;have W:=g.2.2;have X:=PySem.sizeLine_eq;unfold D4;have A:(N.ts.map Ai).length<=10000000:=by rw[No];omega
 refine⟨N,t,b,rfl,g,S,T,U,V,λw o1 o2=>?_⟩;have C:=Ep g (Ag N t b [] w);have K:∀u∈(sub N (Ag N t b [] w)).ts,u∈N.ts:=λu Y=>(sub_mem.mp Y).1;revert C K;generalize eG:sub N (Ag N t b [] w)=G;intro C K;refine⟨4,rfl,by decide,by decide,by omega,λo w0 w1=>?_⟩;refine CB (λ_=>?_) λ_=>?_
 ·exists _,AL (j:=0) rfl,_,AL (j:=1) rfl,A
  have L:∀(d done f:s_ Aq) (m:Nat) (s:Slot),done++d=N.ts->f.Sublist done->n - 1 - done.length<=m->
    C5 (Ae 1) (AW (AV (f2 λi j=>D.bl (decide (j<i))) (AQ BG (AB (Az 0) (AB (AG (wC (D.int 3))) AO))) (wC (D.int 0)))) (AC 1) (λf E=>[D.tup (N.ps.map .str),.tup f].length<=sizeLine/\Pd (.tup [.tup (N.ps.map .str),.tup f]) E) (d.map Ai) (f.map Ai) m [.fd,s]:=by
   intro d
   induction d with
   |nil=>
    intro done f m s e l y;rw[gq]at e;subst e;exact⟨z2,p f m (He g l) (by omega)⟩
   | cons t d F=>
    intro done f m s e l y;have Z:done.length+(d.length+1)=N.ts.length:=by rw[←e,eq,gS]
    have H:(done++[t])++d=N.ts:=by rw[iA];exact e
    refine⟨3,rfl,by decide,by decide,by omega,λr P Q=>CB (λ_=>?_) λ_=>?_⟩
    ·have:=F (done++[t]) (f++[t]) (m - 1) (.sh (Ai t)) H (l.append (lC [t])) (by rw[eq,gl];omega)
     rw[hX]at this;exact this
    ·exact F (done++[t]) f (m - 1) (.sh (Ai t)) H (l.trans (mo _ _)) (by rw[eq,gl];omega)
  exact L N.ts [] [] _ _ rfl (lC _) (by simp)
 ·exists _,AL (j:=1) rfl,A
  have x:∀(a:s_ Aq) (m:Nat),a.Sublist N.ts->n - (N.ts.length+2)<=m->(Au (Bc (AF (AV BC (AC 1) (wC (D.int 0))) (AF (Cp BY (AF (Av 5) AU)) AU)))) (EE Pd) m [.fd,.sh (enc N),.sh (.tup [.int t,.int b]),.sh (enc G),.sh (.int o),.ow (.lst (a.map Ai))]:=λa m l y=>
   ⟨_,AL (j:=0) rfl,z2,p a m (He g l) y⟩
  have q:∀(a:s_ Aq) (m:Nat),a.Sublist N.ts->n - (N.ts.length+1)<=m->GQ (EE Pd) m [.fd,.sh (enc N),.sh (.tup [.int t,.int b]),.sh (enc G),.sh (.int o),.ow (.lst (a.map Ai))]:=λa m l y=>by
   refine CB (λ_=>?_) λ_=>CS (x a m l (by omega));exists z0,(C6 g.1 λt ht=>l.subset ht).2,CP (B:=0) (by decide) trivial (by decide);refine CB (λc=>?_) λ_=>x a m l (by omega)
   have M:a≠[]:=λz=>by
    rw[z]at c;exact absurd c (by decide)
   have a0:1<=a.length:=by
    cases a with
    |nil=>exact absurd rfl M
    |cons _ _=>rw[gS];omega
   have a1:(a.map Ai).length=a.length:=No ..;have R:=l.length_le;refine⟨_,rfl,_,_,rfl,rfl,_,rfl,by omega,by omega,by omega,λr P Q=>?_⟩;obtain⟨k,rfl⟩:∃k:Nat,r=(k:Int):=⟨r.toNat,by omega⟩;have e1:a[k]?=P3 a[k]:=FM (by omega);refine⟨k,Ai a[k],rfl,by rw[gR,e1];rfl,by omega,?_⟩;rw[JM];exact x _ _ ((List.eraseIdx_sublist _ _).trans l) (by omega)
  have L:∀(d done f:s_ Aq) (m:Nat) (s:Slot),done++d=N.ts->f.Sublist done->n - 1 - done.length<=m->
    C5 (Ae 2) (Eo (AW (AV (LW r_) (AC 2) (AV BC (AC 0) (wC (D.int 1))))) (AW (AV (HL r_) (AQ BG (AB (Az 1) (AB (AG (wC (D.int 3))) AO))) (wC (D.int 0))))) (AC 2) (λf E=>GQ (EE Pd) E [.fd,.sh (enc N),.sh (.tup [.int t,.int b]),.sh (enc G),.sh (.int o),.ow (.lst f)]) (d.map Ai) (f.map Ai) m [.sh (enc G),.fd,s]:=by
   intro d
   induction d with
   |nil=>
    intro done f m s e l y;rw[gq]at e;subst e;exact q f m l (by omega)
   | cons v d F=>
    intro done f m s e l y;have Z:done.length+(d.length+1)=N.ts.length:=by rw[←e,eq,gS]
    have H:(done++[v])++d=N.ts:=by rw[iA];exact e
    have hv:v∈N.ts:=by rw[←e];exact f8 _ Op
    have I:∀J,n - 1 - (done.length+1)<=J->C5 (Ae 2) (Eo (AW (AV (LW r_) (AC 2) (AV BC (AC 0) (wC (D.int 1))))) (AW (AV (HL r_) (AQ BG (AB (Az 1) (AB (AG (wC (D.int 3))) AO))) (wC (D.int 0))))) (AC 2) (λf E=>GQ (EE Pd) E [.fd,.sh (enc N),.sh (.tup [.int t,.int b]),.sh (enc G),.sh (.int o),.ow (.lst f)]) (d.map Ai) (f.map Ai++[Ai v]) J [.sh (enc G),.fd,.sh (Ai v)]:=λJ O=>by
     have:=F (done++[v]) (f++[v]) J (.sh (Ai v)) H (l.append (lC [v])) (by rw[eq,gl];exact O)
     rw[hX]at this;exact this
    exists _,AL (j:=1) rfl,E7 g.1 hv,(C6 g.1 K).1,_,rfl;refine CB (λ_=>I m (by omega)) λ_=>?_;refine⟨3,rfl,by decide,by decide,by omega,λr P Q=>CB (λ_=>I (m - 1) (by omega)) λ_=>?_⟩;exact F (done++[v]) f (m - 1) (.sh (Ai v)) H (l.trans (mo _ _)) (by rw[eq,gl];omega)
  exact L N.ts [] [] _ _ rfl (lC _) (by simp)
end
def Qd:D->s_ Str
 |.tup a=>strsOf a
 |_=>[]
def aN(M:Net)(a b:Str)(d:D):D:=match N7 M d with
 |.int l=>if((Qd d).head?==P3 a&&(Qd d).getLast?==P3 b)=q_ then .int l else .non
 |_=>.non
def MN(M:Net)(t b:Int)(u:Aq)(d:D):D:=match aN M u.a u.b d with
 |.int l=>if l*b<=u.len*t then .non else .str "far"
 |_=>.str "way"
def KJ(w:Str)(k:Nat):D:=.tup [.str w,.int (k:Int)]
def IA(M:Net)(t b:Int):Nat->s_ Aq->s_ D->D
 |k,u::a,d::c=>match MN M t b u d with
  |.str w=>KJ w k
  |_=>IA M t b (k+1) a c
 |_,_,_=>.non
def P1(M:Net)(t b:Int)(a:s_ Aq):D->D
 |.tup c=>if c.length=a.length then IA M t b 0 a c else KJ "shape" 0
 |_=>KJ "shape" 0
def Kl(r:D)(P:D->Nat->Prop)(a:PX)(n:Nat):Prop:=match r with
 |.tup [.str w,.int k]=>a "NoPaper" ["word","number"] [.str w,.int k] n
 |_=>P (.bl q_) n
def bE(d:D):Prop:=fine (10 ^ 41) d/\Cq d<=200000/\D_ d<=90
def S1:W2:=λc n P=>∃(M:Net) (a b:Str) (d:D),c=[.sh (enc M),.sh (.str a),.sh (.str b),.sh d]/\okN M/\fair d/\P (aN M a b d) n
def NB:W2:=λa n P=>∃(M:Net) (t b:Int) (u:Aq) (d:D),a=[.sh (enc M),.sh (.tup [.int t,.int b]),.sh (Ai u),.sh d]/\okN M/\Oe t b/\fair d/\P (MN M t b u d) n
def fb(N:Net)(t b:Int)(d p:D)(Q:D->Prop):Prop:=okN N/\N.ps.length<=24/\Oe t b/\bE d/\fair p/\(thinB N d=r_\/(∀e,p≠.tup e)->Q (KJ "shape" 0))/\∀a c:s_ Aq,d=enc ⟨N.ps,a⟩->thn N a->c.Perm (Fk N a)->Bo c->Q (P1 ⟨N.ps,a⟩ t b c p)
def KY:WX:=λa n P c=>∃(N:Net) (t b:Int) (d p:D),a=[.sh (enc N),.sh (.tup [.int t,.int b]),.sh d,.sh p]/\fb N t b d p λr=>Kl r P c n
abbrev Lz:W2:=JU 4
def D1:AY:=(Ad (Ay 4 (AQ W9 (AB (AG (AC 0)) (AB (AG (AC 3)) AO))))
 (Ad (BK (Eo (AW (AV (Fo r_) (AC 4) (wC D.non))) (Eo (AW (AV (HL q_) (AV BC (AC 3) (wC (D.int 0))) (AC 1))) (AW (AV (HL q_) (AV BC (AC 3) (XZ (wC (D.int 1)))) (AC 2))))) (Au (wC D.non)) Aw)
 (Au (AC 4))))
def Gq:AY:=(Ad (Ay 4 (AQ S1 (AB (AG (AC 0)) (AB (AG (AV BC (AC 2) (wC (D.int 0)))) (AB (AG (AV BC (AC 2) (wC (D.int 1)))) (AB (AG (AC 3)) AO))))))
 (Ad (BK (AW (AV (Fo r_) (AC 4) (wC D.non))) (Au (wC (D.str "way"))) Aw)
 (Au (Xa (AW (AQ GS (AB (AG (AC 4)) (AB (AG (AC 1)) (AB (AG (AV BC (AC 2) (wC (D.int 2)))) AO))))) (wC D.non) (wC (D.str "far"))))))
def EV(b:PX):AY:=(Ad (BK (Eo (CW (AW (AQ QQ (AB (AG (AC 0)) (AB (AG (AC 2)) AO))))) (CW (AW (AQ C_ (AB (AG (Cp Gb (AF (AQ ND (AB (AG (AC 0)) (AB (AG (AC 2)) AO))) AU))) (AB (AG (AC 3)) AO)))))) (λa=>(G1 "NoPaper" ["word","number"] (AF (wC (D.str "shape")) (AF (wC (D.int 0)) AU))) a b) Aw)
 (Ad (D9 (U3 (AQ ND (AB (AG (AC 0)) (AB (AG (AC 2)) AO)))) (E_ 2 (As (Ae 4) (As (Ae 5) Ck))) (Ad (Ay 6 (AQ NB (AB (AG (AC 2)) (AB (AG (AC 1)) (AB (AG (AC 5)) (AB (AG (AV BC (AC 3) (AC 4))) AO))))))
 (BK (AW (AV (Fo q_) (AC 6) (wC D.non))) (λa=>(G1 "NoPaper" ["word","number"] (AF (AC 6) (AF (AC 4) AU))) a b) Aw)))
 (Au (wC (D.bl q_)))))
theorem Mc(M:Net)(d:D):N7 M d=.non\/∃(x:Str) (r:s_ Str) (l:Int),d=Dg (x::r)/\N7 M d=.int l:=by
 cases d with
 | tup g=>
  by_cases b:g.all Dt=q_
  ·let⟨a,rfl⟩:=Km b
   have e:N7 M (.tup (a.map .str))=UE M a:=by
    show(if(a.map D.str).all Dt then UE M (strsOf (a.map .str))else .non)=_;rw[if_pos b,Dh]
   rw[e];cases a with
   |nil=>exact .inl rfl
   | cons x r=>
    show(if x∈M.ps then Nt.TX (GZ M.ts x r 0)else .non)=.non\/_
    by_cases f:x∈M.ps
    ·rw[if_pos f]
     cases c:GZ M.ts x r 0 with
     |none=>exact .inl rfl
     |some l=>exact .inr ⟨x,r,l,rfl,by show(if x∈M.ps then Nt.TX (GZ M.ts x r 0)else .non)=_;rw[if_pos f,c];rfl⟩
    simp_all
  ·exact .inl (if_neg b)
 |_=>exact .inl rfl
theorem UI(M:Net)(a b:Str)(d:D):aN M a b d=.non\/∃l,aN M a b d=.int l:=by
 unfold aN
 split
 ·split
  ·grind
  grind
 grind
theorem Hz{a:s_ D}(h:fair (.tup a)){d:D}(b:d∈a):fair d:=by
 have c:CC a<=160000:=h.2.1;have e:ES a+1<=50:=h.2.2
 have:=NM b
 have:=dps_le.mp (On _) d b
 exact⟨fines_iff.mp h.1 d b,by omega,by omega⟩
section
variable {ss:s_ Slot}{n:Nat}{Pd:D->Nat->Prop}{Pr:PX}
theorem Xq(h:S1 ss n Pd):D1 (EE Pd) n (ss++Uf 1 .no):=by
 let⟨M,a,b,d,rfl,c,k,p⟩:=h;unfold D1;exists M,d,rfl,c.1,by have:=c.2.1;omega,c.2.2,k;unfold aN at p
 rcases Mc M d with e|⟨x,r,l,rfl,e⟩
 ·rw[e]at p ⊢
  exact⟨rfl,p⟩
 ·rw[e]at p ⊢
  have m:Qd (Dg (x::r))=x::r:=Dh _;simp only[m]at p;obtain⟨y,f⟩:∃y,(x::r).getLast?=P3 y:=⟨_,List.getLast?_eq_some_getLast (by simp)⟩;exists rfl,.str x,AL (j:=0) rfl;show if(!(x==a))=q_ then _ else _
  rw[f]at p;have p:Pd (if(P3 x==P3 a&&P3 y==P3 b)=q_ then .int l else .non) n:=p;rw[nL,nL]at p;cases g:x==a with
  |false=>rw[g]at p;exact CQ p
  |true=>
   rw[g]at p;refine CS ⟨1,rfl,.str y,YD f,?_⟩;show if(!(y==b))=q_ then _ else _
   cases i:y==b with
   |false=>rw[i]at p;exact CQ p
   |true=>rw[i]at p;exact CS p
theorem Xo(h:NB ss n Pd):Gq (EE Pd) n (ss++Uf 1 .no):=by
 let⟨M,t,b,u,d,rfl,f,⟨g,i,k,m⟩,o,p⟩:=h;unfold Gq;unfold MN at p;exists _,AL (j:=0) rfl,_,AL (j:=1) rfl,M,u.a,u.b,d,rfl,f,o
 rcases UI M u.a u.b d with e|⟨l,e⟩
 ·rw[e]at p ⊢
  exact⟨rfl,p⟩
 ·rw[e]at p ⊢
  exists rfl,_,AL (j:=2) rfl,l,t,b,u.len,rfl,g,i,k,m;have p:Pd (if l*b<=u.len*t then .non else .str "far") n:=p;show if decide (l*b<=u.len*t)=q_ then _ else _
  by_cases c:l*b<=u.len*t
  ·rw[if_pos c]at p;rw[decide_eq_true c];exact CQ p
  ·rw[if_neg c]at p;rw[decide_eq_false c];exact CS p
theorem Ie(M:Net)(t b:Int)(u:Aq)(d:D):MN M t b u d=.non\/∃w,MN M t b u d=.str w:=by
 unfold MN
 split
 ·split
  ·exact .inl rfl
  grind
 simp_all
theorem Tc(h:KY ss n Pd Pr):EV Pr (EE Pd) n (ss++Uf 3 .no):=by
 let⟨N,t,b,d,p,rfl,a,A,L,⟨M,O,P⟩,Q,R,q⟩:=h;have B:=a.2.2;have S:=PySem.sizeLine_eq;unfold EV;exists N,d,rfl,a.1,A,B,M,O,P;show if(!thinB N d)=q_ then _ else _
 cases c:thinB N d with
 |false=>exact CQ (.inr ⟨rfl,rfl,R (.inl c)⟩)
 | true=>
  let⟨j,rfl,r⟩:=thinB_iff.mp c;have r:thn N j:=r;have C:=r.okN a;refine CS ⟨N,j,rfl,a.1,by omega,r.1,λf J K=>⟨_,_,rfl,rfl,?_⟩⟩;exists _,_,rfl;have o:=q j f rfl r J K;show if(!(tupleOfB ((f.map Ai).length:Int) p))=q_ then _ else _
  have v:(f.map Ai).length=f.length:=No ..;rw[v];cases p with
  | tup i=>
   have o:Kl (if i.length=f.length then IA ⟨N.ps,j⟩ t b 0 f i else KJ "shape" 0) Pd Pr n:=o;show if(!((i.length:Int)==(f.length:Int)))=q_ then _ else _
   by_cases z:i.length=f.length
   ·rw[if_pos z]at o
    rw[show((i.length:Int)==(f.length:Int))=q_ by rw[z];exact beq_self_eq_true _];refine CS ⟨N,j,rfl,a.1,by omega,r.1,λT U V=>⟨_,rfl,?_⟩⟩;rw[Bg (U.trans J.symm) V K]
    have W:∀(s:s_ Aq) (m k:s_ D) (E F G:Slot),m++k=i->k.length=s.length->Kl (IA ⟨N.ps,j⟩ t b m.length s k) Pd Pr n->
      BP (E_ 2 (As (Ae 4) (As (Ae 5) Ck))) (Ad (Ay 6 (AQ NB (AB (AG (AC 2)) (AB (AG (AC 1)) (AB (AG (AC 5)) (AB (AG (AV BC (AC 3) (AC 4))) AO))))))
 (BK (AW (AV (Fo q_) (AC 6) (wC D.non))) (λY=>(G1 "NoPaper" ["word","number"] (AF (AC 6) (AF (AC 4) AU))) Y Pr) Aw)) {EE Pd with nx:=Au (wC (D.bl q_)) (EE Pd)} (Fq m.length (s.map Ai)) n [.sh (enc N),.sh (.tup [.int t,.int b]),.sh (enc ⟨N.ps,j⟩),.sh (.tup i),E,F,G]:=by
     intro s
     induction s with
     |nil=>intro m k E F G _ g l;cases k with
      |nil=>exact l
      |cons _ _=>cases g
     | cons u s Z=>
      intro m k E F G e g l
      match k,g,l with
      | w::k,g,l=>
       have y:i[m.length]?=P3 w:=by rw[←e,iC (On _),me];rfl
       exists rfl,rfl,_,AL y,⟨N.ps,j⟩,t,b,u,w,rfl,C,L,Hz Q (iS y);unfold IA at l
       rcases Ie ⟨N.ps,j⟩ t b u w with I|⟨x,I⟩
       ·rw[I]at l ⊢
        exists rfl
        have:=Z (m++[w]) k (.sh (.int (m.length:Int))) (.sh (Ai u)) (.sh .non) (by rw[iA];exact e) (kj g)
        rw[eq,gl]at this;exact this l
       ·rw[I]at l ⊢
        exact⟨rfl,.inr ⟨rfl,rfl,l⟩⟩
    exact W f [] i _ _ _ rfl z o
   ·rw[if_neg z]at o
    rw[show((i.length:Int)==(f.length:Int))=r_ by rw[beq_eq_false_iff_ne];omega];exact CQ (.inr ⟨rfl,rfl,o⟩)
  |_=>exact CQ (.inr ⟨rfl,rfl,o⟩)
end
end Nt
namespace L2
open PySem.AutoSeq1 (wpAny_loadPart')
theorem Xc{prog:gi}{w:gn}{A:gw}{R:Result->Go->Prop}{s:Go}(t:Ch)(items:Array Db)(n:Nat)(x:Db)(e:Db->Bool)(j:Nat)(hj:j<items.size)(hit:e items[j]=q_)(hno:∀m (hm:m<items.size),m<j->e items[m]=r_)
  (hl:s.heap.get? t=P3 {cls:=.type "tuple",dict:=p_,data:=.seq items n,slots:=#[]}) (he:∀y,y∈items->PySem.SeqAt.EqAt A.in1 s y x (e y))
  (h:R (.ok (.ret (.int (j:Int) s.toks))) {s with toks:=s.toks+1}):
  wpAny (model prog w) A.in1 (kI.«tuple.index» ⟨[.ref t,x],[]⟩) (λfin s'=>match fin with|.done f=>R (.ok f) s'|.again c'=>c'.quiet=q_/\codeAny (model prog w) A c' R s') (λe s'=>R (.error e) s') s:=by
 let⟨hp,g,d,tk,os⟩:=s
 wp_walk using iU hl
 have go:∀(Q:t_ _×Unit->Go->Prop) (E:Db->Go->Prop),(∀r,Q (P3 r,()) ⟨hp,g,d,tk+1,os⟩\/True)->∀(k i:Nat),i<=j->i+k=items.size->
   (∀r:Fin,r=.done (.ret (.int (j:Int) tk))->Q (P3 r,()) ⟨hp,g,d,tk+1,os⟩)->
   wpAny (model prog w) A.in1 (forIn (List.range' i k 1) ((p_:t_ Fin),()) (fun(i:Nat) __s=>match items[i]? with
      | some y=>do
       let __do_lift ←eqBool y x
       if __do_lift=q_ then do
         let __do_lift ←retInt (i:Int)
         pure (ForInStep.done (P3 __do_lift,()))
        else pure (jO (p_,()))
      |x=>pure (jO (p_,())))) Q E ⟨hp,g,d,tk,os⟩:=by
  intro Q E _ k
  induction k with
  |zero=>intro i h1 h2;omega
  | succ k ih=>
   intro i h1 h2 hQ;have hlt:i<items.size:=by omega
   rw[List.range'_succ,kc];have hi:items[i]?=P3 items[i]:=jl hlt;simp only[hi];refine Cn (Cn (he _ (mM hlt) prog w _ _ ?_))
   by_cases c:i=j
   ·subst c
    rw[hit]
    wp_walk
    exact hQ _ rfl
   ·rw[hno i hlt (by omega)]
    wp_walk
    exact ih (i+1) (by omega) (by omega) hQ
 show wpAny (model prog w) A.in1 (forIn [:min items.size items.size] ((p_:t_ Fin),()) _) _ _ _;rw[Std.Legacy.Range.forIn_eq_forIn_range']
 have er:List.range' (Std.Legacy.Range.start [:min items.size items.size]) (nJ [:min items.size items.size]) (Std.Legacy.Range.step [:min items.size items.size])=List.range' 0 items.size 1:=by
  simp[nJ]
 rw[er];refine go _ _ (λ_=>.inr trivial) items.size 0 (Tk _) (Nat.zero_add _) λr er=>?_;subst er;exact Sc h
section
variable {X:Cx}
def cO:V->s_ V->Hp->VK->Prop:=λx g H Q=>∃(a:Ch) (c:s_ V) (y:V) (b:s_ ja) (d:ja) (j:Nat),x=.ref a/\g=[y]/\H a=P3 (.tup c)/\RVs H b c/\RV H d y/\jE b=q_/\d.canLay0=q_/\d.depth<=100 /\
 (∃e,b[j]?=P3 e/\iF e d=q_)/\(∀m f,m<j->b[m]?=P3 f->iF f d=r_)/\Q (.int (j:Int)) H
theorem aK{k:Nat}(O:Room k X.A):ZW X "tuple.index" cO:=by
 intro P s S H x vs v us Q I T U h;let⟨l,V,y,b,d,j,rfl,rfl,W,f,Y,C,Z,dd,⟨dj,hj,a0⟩,g,q⟩:=h;cases T;let⟨u,rfl,ru⟩:=U.one;let⟨z,a,r,⟨⟨a1,dt,D,sl⟩,e,E,n,G,J,K⟩⟩:=(show ObjOk X.prog X.w H s.heap l (.tup V)from I.hok l _ W);simp only at E G J K;subst E G J K;let⟨as,ra⟩:=RVs.reads I f r;let⟨bs,rb⟩:=RV.reads I Y ru;have L:=PySem.SeqAt.readsAll_map b a as C ra;have M:b.length=a.length:=by rw[←L,No]
 have hu:=O.un;have N:min (im b) d.depth<=d.depth:=kN _ _
 have i:∀m o,b[m]?=P3 o->∀(h:m<a.toArray.size),PySem.SeqAt.readOf s.heap a.toArray[m]=o:=λm o e h=>by
  rw[←L,gR]at e;have h':m<a.length:=by simpa using h
  simp_all
 have a2:j<a.length:=by grind
 have p:=Xc (prog:=X.prog) (w:=X.w) (A:=X.A) (R:=wants (EP X P S Q) X.xe) l a.toArray n u (λy=>iF (PySem.SeqAt.readOf s.heap y) d) j (by omega) (by simp_all) (λm t B=>by
  have c:m<b.length:=by simp_all
  rw[i m b[m] (FM c) t];exact g m b[m] B (FM c)) e (PySem.SeqAt.items_eqAt (vs:=a.toArray) (by omega) rb C Z (by omega)) ⟨.int j,H,I.tok _,⟨_,rfl⟩,q⟩
 exact jj (jm PySem.F.slot_tuple_index.plain PySem.F.entry_tuple_index (PySem.F.slot_tuple_index.check _ _ _ _ _ _ _ _ ⟨_,e,rfl⟩ (PySem.F.args_tuple_index_2 _ _) p))
def eY(r:V->s_ V->Hp->VK->Prop)(e:TE)(t:TA):TE:=λc H Q=>e c H λx d=>(∃a b,x=.ref a/\d a=P3 (.tup b))/\t c d λb H2=>r x b H2 Q
theorem aA{o e:gj}{f:s_ gj}{w:TE}{t:TA}{name:Str}{d c:Pos}{l:String}{r:V->s_ V->Hp->VK->Prop}(j:Slot "tuple" name l)(p:typeOf (.builtin l)=pure (.type "method_descriptor"))(C:ZW X l r)(D:PE X o w)(E:PA X (e::f) t)
  (g:attributeBase o name X.env (eval o X.env)=eval o X.env:=by rfl)
  (k:((backTo c (starEach (e::f) X.env)).all (λx=>!x.1)&&(backToKw c (keywordEach [] X.env)).all (λx=>x.1.isSome)
   && decide ((e::f).length+([]:s_ jJ).length+(if([]:s_ jJ).isEmpty then 0 else 1)<30))=q_:=by rfl)
  (i:(d.endLine==c.line)=q_:=by rfl) (G:starEach (e::f) X.env=(r_,eval e X.env)::starEach f X.env:=by rfl) (m:(backTo c (starEach f X.env)).any (·.1)=r_:=by rfl):
  PE X (.Call (.Attribute o name d) (e::f) [] c) (eY r w t):=by
 intro q s u H Q I h;refine wpAny_Call_method_late g k i rfl (thn (D q s u H _ I h) λv J ⟨x,K,y,A,⟨a,xs,ex,L⟩,M⟩=>?_);subst ex;have N:v=gY a:=A;subst N;let⟨z,O,_,o,P,R,n,e3,e4,e5⟩:=(y.hok a _ L);refine⟨"tuple",l,PySem.F.plainAttrs_tuple,j,p,⟨o,P,R⟩,λb eb=>by simp_all,?_⟩;have B:=E c q J u K _ y M;rw[G]at B ⊢;refine jX (by grind) (kM ?_);exact thn B λS T ⟨U,H2,W,Y,Z⟩=>C q T u H2 (.ref a) U (.ref a) S Q W A Y Z
end
end L2
namespace Dp
open L2
section
variable {X:Cx}{zU:Kd}{a e:Expr}{es:s_ Expr}{wa:DW}{ws:D8}
def dH(d:D)(c:s_ D)(P:D->Prop):Prop:=∃(b:s_ D) (y:D) (j:Nat),d=.tup b/\c=[y]/\Ce (.tup b)/\Ce y/\(∃x,b[j]?=P3 x/\FN x y=q_)/\(∀m x,m<j->b[m]?=P3 x->FN x y=r_)/\P (.int (j:Int))
def Ze(c:DW)(ws:D8):DW:=λn b P=>c n b λd e=>(∃f,d=.tup f)/\ws e b λg h=>dH d g λz=>P z h
theorem dQ{K:Frag}:eN K .sh "tuple" cO dH:=by
 intro U M H d F x G P Q k I l n w q;let⟨h,y,j,rfl,rfl,⟨o,r,_⟩,⟨s,t,u⟩,⟨J,b,c⟩,f,w⟩:=w;let⟨v,rfl,z⟩:=C4 n;let⟨a,A,rfl,B,C⟩:=l.tup
 have g:∀(m:Nat) (p:ja),(Be h)[m]?=P3 p->∃x,h[m]?=P3 x/\p=toPy x:=λm p e=>by
  rw[CU,gR]at e;let⟨x,i,rfl⟩:=g0.mp e
  grind
 refine⟨a,A,v,_,_,j,rfl,rfl,B,C.rv o,z.rv s,r,t,u,⟨_,by rw[CU,gR,b];rfl,c⟩,λm p D e=>?_,q _ H (.int j) .refl rfl w⟩;let⟨E,i,rfl⟩:=g m p e;exact f m E D i
theorem Wj{k:Nat}{f b:Pos}(G:Room k X.A)(I:DE X a zU wa)(J:XQ X (e::es) ws)
  (h:attributeBase a "index" X.env (eval a X.env)=eval a X.env:=by rfl)
  (j:((backTo b (starEach (e::es) X.env)).all (λx=>!x.1)&&(backToKw b (keywordEach [] X.env)).all (λx=>x.1.isSome)
   && decide ((e::es).length+([]:s_ jJ).length+(if([]:s_ jJ).isEmpty then 0 else 1)<30))=q_:=by rfl)
  (i:(f.endLine==b.line)=q_:=by rfl) (s:starEach (e::es) X.env=(r_,eval e X.env)::starEach es X.env:=by rfl) (c:(backTo b (starEach es X.env)).any (·.1)=r_:=by rfl):
  DE X (.Call (.Attribute a "index" f) (e::es) [] b) .sh (Ze wa ws):=by
 let⟨t,K,L⟩:=I;let⟨u,N,O⟩:=J;refine⟨_,aA PySem.F.slot_tuple_index PySem.F.type_tuple_index (aK G) K N h j i s c,λC M H n y B P Q R w q=>?_⟩;refine L C M H n y B _ _ R w λx S d T o U W p=>?_;have r:=R.step o U;have D:=W.tpOf R.dom R.vM;let⟨⟨Y,rfl⟩,p⟩:=p;refine⟨by let⟨a,Z,rfl,hn,s⟩:=D.tup;exact⟨a,Z,rfl,hn⟩,?_⟩;refine O C M S T y B _ _ r p λvs H2 ds n2 l E r2 p2=>?_;have m:=r.step l E;refine dQ C.V M H2 (.tup Y) ds x vs _ _ m.dom m.vM (D.pres (r.pres l) l R.uV) r2 p2 λv H3 z g vr pz=>?_;exact q v H3 z n2 ((o.trans l).trans g.ext) (E.grow g) (VR.back (o.trans l) vr) pz
end
end Dp
namespace Nt
open L2 Dp
def WQ:D->Bool
 |.int i=>decide (0<=i)
 |_=>r_
def bg(N:Net):D->Bool
 |.tup a=>((a.length:Int)==(N.ps.length:Int))&&a.all WQ
 |_=>r_
def fA:D->Int
 |.int i=>i
 |_=>0
def Ib(N:Net)(b:s_ D)(a:Str):Int:=fA ((BR (N.ps.map .inr) b (.inr a)).getD .non)
def FA(i:Int):Int:=if i<0 then -i else i
def Jf(N:Net):D->Bool
 |.tup c=>bg N (.tup c)&&N.ts.all λt=>decide (FA (Ib N c t.a - Ib N c t.b)<=t.len)
 |_=>r_
def Dz(m:Int):t_ Int->Int
 |some d=>if d<m then d else m
 |none=>m
def KU:W2:=λa n P=>∃(N:Net) (d:D),a=[.sh (enc N),.sh d]/\okN N/\P (.bl (bg N d)) n
def W_:W2:=λd n P=>∃(N:Net) (c:s_ D) (a b:Str),d=[.sh (enc N),.sh (.tup c),.sh (.str a),.sh (.str b)]/\okN N/\c.length=N.ps.length/\(∀x∈c,WQ x=q_)/\a∈N.ps/\b∈N.ps/\P (.int (FA (Ib N c a - Ib N c b))) n
def S4:W2:=λa n P=>∃(N:Net) (d:D),a=[.sh (enc N),.sh d]/\okN N/\P (.bl (Jf N d)) n
def Ob:W2:=λa n P=>∃(N:Net) (s:Str) (m:Int),a=[.sh (enc N),.sh (.str s),.sh (.int m)]/\okN N/\s∈N.ps/\∀F:Of,Told N s F->P (.tup (N.ps.map λx=>.int (Dz m ((F x).map (·.1))))) n
def Gr:AY:=(Au (NJ (AQ C_ (AB (AG (Cp Gb (AF (AV BC (AC 0) (wC (D.int 0))) AU))) (AB (AG (AC 1)) AO))) (Cp OE (AF (Bp [p_] (BQ (AC 1)) (Ae 0) DB (NJ (AQ Lx (AB (AG (AC 0)) AO)) (AV (f2 λi j=>D.bl (decide (j<=i))) (AC 0) (wC (D.int 0))))) AU))))
def OQ:AY:=(Au (Cp aj (AF (AV LU (AV BC (AC 1) (Ze (AV BC (AC 0) (wC (D.int 0))) (AF (AC 2) AU))) (AV BC (AC 1) (Ze (AV BC (AC 0) (wC (D.int 0))) (AF (AC 3) AU)))) AU)))
def Lo:AY:=(Ad (BK (CW (AW (AQ KU (AB (AG (AC 0)) (AB (AG (AC 1)) AO))))) (Au (wC (D.bl r_))) Aw)
 (Au (Cp OE (AF (Bp [P3 0,P3 1,p_,p_,p_] (BQ (AV BC (AC 0) (wC (D.int 1)))) (E_ 3 (As (Ae 2) (As (Ae 3) (As (Ae 4) Ck)))) DB (AV WV (AQ W_ (AB (AG (AC 0)) (AB (AG (AC 1)) (AB (AG (AC 2)) (AB (AG (AC 3)) AO))))) (AC 4))) AU))))
def Fy:AY:=(Ad (Ay 3 (AQ Ly (AB (AG (AC 0)) (AB (AG (AC 1)) AO))))
 (Au (Cp BY (AF (Bp [P3 2,P3 3,p_] (BQ (AV BC (AC 0) (wC (D.int 0)))) (Ae 2) DB (Xa (AW (AV (JL r_) (AC 2) (AC 1))) (Cp WU (AF (AC 0) (AF (AV BC (AV CI (AC 1) (AC 2)) (wC (D.int 0))) AU))) (AC 0))) AU))))
theorem Ri:∀{b:s_ Key}{a:s_ D}{k:Key}{z:D},BR b a k=P3 z->z∈a
 |[],_,k,z,h=>by cases h
 |_::_,[],k,z,h=>by cases h
 |e::b,d::a,k,z,h=>by
  have c:(if e=k then P3 d else BR b a k)=P3 z:=h
  split at c
  ·grind
  ·exact Rs _ (Ri c)
theorem U6:∀{b:s_ Str}{c:s_ D}{j:Nat}{a:Str},b.Nodup->b[j]?=P3 a->BR (b.map .inr) c (.inr a)=c[j]?
 |[],c,j,a,_,h=>by simp at h
 |p::b,[],j,a,_,h=>by rfl
 | p::b,x::c,j,a,d,h=>by
  rw[gk]at d;show(if jH p=.inr a then P3 x else BR _ c _)=_;cases j with
  |zero=>
   grind
  |succ j=>
   rw[if_neg λz=>d.1 (by rw[jn z];exact iS h),U6 d.2 h];simp
theorem ge_int{d:D}(h:WQ d=q_):∃i,d=.int i/\0<=i:=by
 cases d with
 |int i=>exact⟨i,rfl,of_decide_eq_true h⟩
 |_=>cases h
theorem Xn{c:s_ Str}(h:rising c):c.Nodup:=List.Pairwise.imp (λ{a b} z e=>by grind) h
theorem eS{N:Net}{b:s_ D}(f:b.length=N.ps.length)(d:∀x∈b,WQ x=q_){a:Str}(e:a∈N.ps):BR (N.ps.map .inr) b (.inr a)=P3 (.int (Ib N b a)):=by
 let⟨z,c⟩:=Ij (ds:=b) (by grind) (TM.mpr ⟨a,e,rfl⟩);let⟨i,rfl,_⟩:=ge_int (d z (Ri c));unfold Ib;rw[c];rfl
section
variable {ss:s_ Slot}{n:Nat}{Pd:D->Nat->Prop}
theorem Kz(h:KU ss n Pd):Gr (EE Pd) n (ss++Uf 0 .no):=by
 let⟨N,d,rfl,c,p⟩:=h;have f:=c.2.1;unfold Gr;exists _,AL (j:=0) rfl,_,_,rfl,rfl,_,d,rfl;cases d with
 | tup a=>
  have g:Pd (.bl (((a.length:Int)==(N.ps.length:Int))&&a.all WQ)) n:=p;rw[No];refine RW (b1:=((a.length:Int)==(N.ps.length:Int))) (λk l=>?_) g;have o:a.length=N.ps.length:=by have:=beq_iff_eq.mp k;omega
  refine⟨by show a.length<=10000000;omega,?_⟩;refine Bn (λd=>.bl (WQ d)) (λe=>∃s,e=[s]) _ _ _ _ ?_ ⟨_,rfl⟩ ?_
  ·rintro d q e m r ⟨s,rfl⟩ b
   exists[d],rfl,rfl;cases d with
   |int i=>exact b _ ⟨_,rfl⟩
   |_=>exact b _ ⟨_,rfl⟩
  ·rw[gy]
   exact LX (p:=WQ) (P:=λz=>Pd z n) l
 |_=>exact p
theorem ZG{N:Net}(b:okN N){d:s_ D}(k:d.length=N.ps.length)(l:∀x∈d,WQ x=q_){a:Str}(f:a∈N.ps):∃j:Nat,d[j]?=P3 (.int (Ib N d a))/\Ce (.tup (N.ps.map .str))/\Ce (.str a)/\(∃x,(N.ps.map D.str)[j]?=P3 x/\FN x (.str a)=q_)/\∀(m:Nat) (x:D),m<j->(N.ps.map D.str)[m]?=P3 x->FN x (.str a)=r_:=by
 have g:=Xn b.1.rise;let⟨j,h⟩:=je.mp f;refine⟨j,by rw[←U6 g h,eS k l f],Mf b.1.names,?_,⟨.str a,by simp_all,by rw[Se,beq_self_eq_true]⟩,λm x s i=>?_⟩
 ·exact CP (B:=0) (by decide) (λc o=>by have:=(b.1.names a f).2.2 c o;omega) (Tk _)
 ·rw[gR]at i
  let⟨y,p,rfl⟩:=g0.mp i;rw[Se,beq_eq_false_iff_ne];intro e;subst e;let⟨t,q⟩:=ZB.mp p;let⟨u,r⟩:=ZB.mp h
  have:=(List.getElem_inj g).mp (q.trans r.symm)
  omega
theorem L4(h:W_ ss n Pd):OQ (EE Pd) n (ss++Uf 0 .no):=by
 let⟨N,v,a,b,rfl,d,e,f,g,k,p⟩:=h;let⟨i,l,c,m,o,q⟩:=ZG d e f g;let⟨j,r,_,s,t,u⟩:=ZG d e f k;exact⟨_,AL rfl,⟨_,rfl⟩,_,_,i,rfl,rfl,c,m,o,q,_,AL l,_,AL rfl,⟨_,rfl⟩,_,_,j,rfl,rfl,c,s,t,u,_,AL r,p⟩
theorem O_(h:S4 ss n Pd):Lo (EE Pd) n (ss++Uf 0 .no):=by
 let⟨N,d,rfl,e,p⟩:=h;have ok:=e.1;have u:=e.2.2;unfold Lo;exists N,d,rfl,e;show if(!(bg N d))=q_ then _ else _
 cases g:bg N d with
 | false=>
  have:Jf N d=r_:=by
   cases d with
   |tup c=>show(bg N (.tup c)&&_)=r_;rw[g];rfl
   |_=>rfl
  rw[this]at p;exact CQ p
 | true=>
  cases d with
  | tup c=>
   have f:(((c.length:Int)==(N.ps.length:Int))&&c.all WQ)=q_:=g;rw[gX]at f;have v:c.length=N.ps.length:=by have:=beq_iff_eq.mp f.1;omega
   have w:∀x∈c,WQ x=q_:=iQ.mp f.2;have k:Pd (.bl (bg N (.tup c)&&N.ts.all λt=>decide (FA (Ib N c t.a - Ib N c t.b)<=t.len))) n:=p;rw[g,Bool.true_and]at k;refine CS ⟨_,AL (j:=1) rfl,by show(N.ts.map Ai).length<=10000000;rw[No];omega,?_⟩;refine Bn (λd=>match d with|.tup [.str a,.str b,.int l]=>.bl (decide (FA (Ib N c a - Ib N c b)<=l))|_=>.non) (λo=>∃q r s,o=[.sh (enc N),.sh (.tup c),q,r,s]) _ _ _ _ ?_ ⟨_,_,_,rfl⟩ ?_
   ·rintro d y o m D ⟨q,r,s,rfl⟩ i
    let⟨t,A,rfl⟩:=TM.mp y;let⟨B,C,_⟩:=ok.tin t A;exact⟨rfl,rfl,N,c,t.a,t.b,rfl,e,v,w,B,C,i _ ⟨_,_,_,rfl⟩⟩
   ·rw[gy,ij]
    exact LX (p:=λt:Aq=>decide (FA (Ib N c t.a - Ib N c t.b)<=t.len)) (P:=λz=>Pd z n) k
  |_=>cases g
theorem Jy(h:Ob ss n Pd):Fy (EE Pd) n (ss++Uf 1 .no):=by
 let⟨N,s,m,rfl,b,i,p⟩:=h;have k:=b.2.1;unfold Fy;refine⟨N,s,rfl,b,i,λc e F M T=>?_⟩;refine⟨_,AL (j:=0) rfl,by grind,?_⟩;refine Bn (λd=>match d with|.str x=>.int (Dz m ((F x).map (·.1)))|_=>.non) (λf=>∃g,f=[.sh (.int m),.sh (.dic c e),g]) _ _ _ _ ?_ ⟨_,rfl⟩ ?_
 ·rintro d l f o r ⟨g,rfl⟩ a
  let⟨x,t,rfl⟩:=TM.mp l;exists c,e,_,rfl,BE x;show if((BR c e (.inr x)).isSome)=q_ then _ else _
  have a:r (.int (Dz m ((F x).map (·.1)))) o [.sh (.int m),.sh (.dic c e),.sh (.str x)]:=a _ ⟨.sh (.str x),rfl⟩;rw[M.at_];cases ex:F x with
  |none=>
   rw[ex]at a;exact CS a
  |some q=>
   rw[ex]at a;exact CQ ⟨c,e,_,J9 q,rfl,BE x,by rw[M.at_,ex];rfl,_,AL (j:=0) rfl,a⟩
 ·rw[gy,ij]
  exact p F T
end
theorem RR{m:Int}(a:0<=m){o:t_ Int}(b:∀d,o=P3 d->0<=d):0<=Dz m o/\Dz m o<=m:=by
 cases o with
 |none=>exact⟨a,jo _⟩
 |some d=>
  show 0<=(if d<m then d else m)/\(if d<m then d else m)<=m
  grind
end Nt
namespace Dp
open L2
mutual
def flat:D->Bool
 |.tup ds=>WR ds
 |.lst _=>r_
 |.dic _ _=>r_
 |.fdi _ _=>r_
 |.dit _ _=>r_
 |_=>q_
def WR:s_ D->Bool
 |[]=>q_
 |d::ds=>flat d&&WR ds
end
section
variable {K:Frag}{M M':Addr->Prop}{H:Hp}
mutual
theorem YM:∀(d:D) {v:V},flat d=q_->At K M H d v->At K M' H d v
 |.non,_,_,h=>h
 |.bl _,_,_,h=>h
 |.int _,_,_,h=>h
 |.str _,_,_,h=>h
 |.tup ds,_,f,⟨a,vs,e,n,h⟩=>⟨a,vs,e,n,Py ds f h⟩
 |.lst _,_,f,_=>by cases f
 |.dic _ _,_,f,_=>by cases f
 |.fdi _ _,_,f,_=>by cases f
 |.dit _ _,_,f,_=>by cases f
theorem Py:∀(ds:s_ D) {vs:s_ V},WR ds=q_->Ats K M H ds vs->Ats K M' H ds vs
 |[],_,_,h=>h
 |d::ds,_,f,⟨v,r,e,h,hs⟩=>⟨v,r,e,YM d (gX _ _▸f:_/\_).1 h,Py ds (gX _ _▸f:_/\_).2 hs⟩
end
end
end Dp
set_option maxHeartbeats 400000
namespace Dp
open L2
end Dp
namespace Nt
open L2 Dp
abbrev TJ(t b:Int):D:=.tup [.int t,.int b]
def Kv(k:Nat)(A:Net)(t b:Int)(u:Aq)(c:D):Prop:=
 (CD A t b u=r_/\∃p:s_ Int,c=.tup [.str "in",.tup (p.map .int)]/\(∀x∈p,x<=10 ^ 29)/\Jf A (.tup (p.map .int))=q_/\u.len*t<FA (Ib A (p.map .int) u.a - Ib A (p.map .int) u.b)*b) \/
 (CD A t b u=q_/\∃(w:s_ Str) (d:Int),c=.tup [.str "out",Dg w]/\walkedK k A u.a u.b w d/\d*b<=u.len*t)
def PapGK(k:Nat)(N:Net)(t b:Int):s_ Aq->s_ Aq->s_ D->Prop
 |_,[],[]=>True
 |a,u::r,c::d=>Kv k (sub N a) t b u c/\PapGK k N t b (Ag N t b a [u]) r d
 |_,_,_=>False
theorem PapGK.len{k:Nat}{N:Net}{t b:Int}:∀{kept a:s_ Aq}{c:s_ D},PapGK k N t b kept a c->c.length=a.length
 |_,[],[],_=>rfl
 |_,u::a,r::c,h=>by rw[gS,gS,PapGK.len h.2]
 |_,[],_::_,h=>h.elim
 |_,_::_,[],h=>h.elim
theorem Cy{N:Net}{t b:Int}:∀(c:s_ Aq) {a r:s_ Aq},Ag N t b a (c++r)=Ag N t b (Ag N t b a c) r
 |[],_,_=>rfl
 |u::c,a,r=>by
  rw[mj,Cw,Cw]
  split <;>exact Cy _
section
variable {N:Net}{t b:Int}{pre post:s_ Aq}{u:Aq}
theorem LI(nd:(pre++u::post).Nodup):u∈Ag N t b [] (pre++u::post)↔CD (sub N (Ag N t b [] pre)) t b u=r_:=by
 let⟨_,c,a⟩:=iB.mp nd;have d:u∉Ag N t b [] _:=λz=>((Bb).2 u z).elim (λz=>absurd z gU) λz=>a u z u Op rfl;rw[Cy,Cw];cases e:CD _ t b u with
 |true=>
  refine⟨λz=>?_,λz=>by cases z⟩
  rcases(Bb).2 u z with z|z
  ·grind
  grind
 |false=>
  exact⟨λ_=>rfl,λ_=>(Bb).1 u (f8 _ (Re.mpr rfl))⟩
theorem Uj(nd:(pre++u::post).Nodup)(f:Bo (pre++u::post)){v:Aq}:(v∈Ag N t b [] (pre++u::post)/\BJ (Bh v) (Bh u)=q_)↔v∈Ag N t b [] pre:=by
 let⟨_,i,g⟩:=iB.mp nd;let⟨_,j,h⟩:=kP.mp f;constructor
 ·rintro⟨a,c⟩
  rw[Cy]at a
  rcases(Bb (rest:=u::post)).2 v a with z|z
  ·exact z
  ·rcases TW.mp z with rfl|z
   ·rw[Bq]at c;cases c
   simp_all
 ·intro a
  have d:v∈pre:=((Bb (rest:=pre)).2 v a).elim (λz=>absurd z gU) id;refine⟨by rw[Cy];exact(Bb (rest:=u::post)).1 v a,?_⟩;cases e:BJ (Bh v) (Bh u)with
  |true=>rfl
  |false=>exact absurd (Kw (B8 _ _ e (h v d u Op))) (g v d u Op)
theorem M9(nd:(pre++u::post).Nodup)(a:Bo (pre++u::post)):(⟨(sub N (Ag N t b [] (pre++u::post))).ps,(sub N (Ag N t b [] (pre++u::post))).ts.filter λv=>BJ (Bh v) (Bh u)⟩:Net)=sub N (Ag N t b [] pre):=by
 unfold sub
 congr 1
 rw[List.filter_filter];refine kC λv _=>?_;rw[iN,gX,decide_eq_true_eq,decide_eq_true_eq,and_comm];exact Uj nd a
end
def GD:W2:=λa n P=>∃(M:Net) (u:Aq),a=[.sh (enc M),.sh (Ai u)]/\okN M/\P (enc ⟨M.ps,M.ts.filter λv=>BJ (Bh v) (Bh u)⟩) n
def GV:W2:=λa n P=>∃t b l:Int,a=[.sh (TJ t b),.sh (.int l)]/\Oe t b/\P (.int (l*t / b+1)) n
def GU:W2:=λd n P=>∃(N:Net) (t b:Int),d=[.sh (enc N),.sh (TJ t b)]/\okN N/\Oe t b/\∀(a:s_ Aq) (c:s_ D),a.Perm N.ts->Bo a->PapGK 30 N t b [] a c->P (.tup c) n
def IL:AY:=(Au (AQ GC (AB (AG (AC 0)) (AB (Cr (Bp [P3 1,p_] (BQ (AV BC (AC 0) (wC (D.int 1)))) (Ae 1) (AW (AV Fn (AQ NC (AB (AG (AC 1)) AO)) (AQ NC (AB (AG (AC 0)) AO)))) (AC 1))) AO))))
def JO:AY:=(Au (AV A0 (AV (QS XG λi j=>D.int (i / j)) (AV Cf (AC 1) (AV BC (AC 0) (wC (D.int 0)))) (AV BC (AC 0) (wC (D.int 1)))) (wC (D.int 1))))
def aY:AY:=(Ad (Ay 5 (AQ GD (AB (AG (AC 2)) (AB (AG (AC 4)) AO))))
 (BK (AW (AV (LW r_) (AC 4) (AV BC (AC 2) (wC (D.int 1))))) (Od 3 "list" Fp (AF (Bc (AF (wC (D.str "in")) (AF (AQ Ob (AB (AG (AC 5)) (AB (AG (AV BC (AC 4) (wC (D.int 0)))) (AB (AG (AQ GV (AB (AG (AC 1)) (AB (AG (AV BC (AC 4) (wC (D.int 2)))) AO)))) AO)))) AU))) AU)) (Od 3 "list" Fp (AF (Bc (AF (wC (D.str "out")) (AF (AQ Um (AB (AG (AC 5)) (AB (AG (AV BC (AC 4) (wC (D.int 0)))) (AB (AG (AV BC (AC 4) (wC (D.int 1)))) AO)))) AU))) AU))))
def Ej:AY:=(Ad (Ay 2 (AQ CJ (AB (AG (AC 0)) (AB (AG (AC 1)) AO))))
 (Ad (C3 3 (DZ AU))
 (Ad (D9 (BQ (AQ DN (AB (AG (AV BC (AC 0) (wC (D.int 1)))) AO))) (Ae 4) aY)
 (Au (Cp BY (AF (Av 3) AU))))))
theorem Il{N:Net}(a:okN N)(S:s_ Aq):thn N (sub N S).ts:=He a li
theorem walkedK.up{k:Nat}(c:k<=1000){M:Net}{a b:Str}{w:s_ Str}{d:Int}(h:walkedK k M a b w d):walked M a b w d:=⟨h.1,h.2.1,h.2.2.1,gc h.2.2.2.1 c,h.2.2.2.2⟩
theorem SX{M:Net}{a:s_ D}(h:Jf M (.tup a)=q_):a.length=M.ps.length/\∀x∈a,WQ x=q_:=by
 have h:=(gX _ _▸h).1;have h:=gX _ _▸h
 grind
section
variable {ss:s_ Slot}{n:Nat}{Pd:D->Nat->Prop}
theorem Qq(h:GD ss n Pd):IL (EE Pd) n (ss++Uf 0 .no):=by
 let⟨M,u,rfl,a,p⟩:=h;have ok:=a.1;have g:=a.2.2;unfold IL;refine⟨_,AL (j:=1) rfl,by show(M.ts.map Ai).length<=10000000;rw[No];omega,?_⟩;refine Fi (λd=>match d with|.tup [.str x,.str y,.int l]=>BJ [.inl l,.inr x,.inr y] (Bh u)|_=>r_) id (λf=>∃s,f=[.sh (Ai u),s]) _ _ _ _ ?_ ⟨_,rfl⟩ ?_
 ·rintro d i f m w z ⟨s,rfl⟩ k o
  let⟨v,A,rfl⟩:=TM.mp i;exists _,_,_,rfl,_,_,_,rfl,Bh v,Bh u,rfl,rfl,rfl;rw[UH];show if BJ (Bh v) (Bh u)=q_ then _ else _
  exact CB (λc=>k _ ⟨_,rfl⟩ c) λc=>o _ ⟨_,rfl⟩ (ig.mpr c)
 ·rw[gy,nE]
  have e:(M.ts.map Ai).filter (λd=>match d with|.tup [.str x,.str y,.int l]=>BJ [.inl l,.inr x,.inr y] (Bh u)|_=>r_)=(M.ts.filter λv=>BJ (Bh v) (Bh u)).map Ai:=by
   rw[m8];rfl
  rw[e];have b:=He a (li (l:=M.ts) (p:=λv=>BJ (Bh v) (Bh u)));refine⟨M,_,M.ts.filter λv=>BJ (Bh v) (Bh u),rfl,rfl,by have:=iX (λv=>BJ (Bh v) (Bh u)) M.ts;omega,λq r t=>?_⟩;rw[G2 r t (E9 b.2)];exact p
theorem PC(h:GV ss n Pd):JO (EE Pd) n (ss++Uf 0 .no):=by
 let⟨t,b,l,rfl,⟨a,c,d,e⟩,p⟩:=h;exact⟨_,AL rfl,.inr (by omega),_,AL rfl,⟨by omega,by omega⟩,p⟩
end
theorem Kc{M:Net}(ok:M.Ok){x y:Str}{d:Int}(h:Wk M x y d):Wk M y x d:=by
 induction h with
 |nil=>exact .nil
 |snoc _ a b=>
  let⟨t,c,rfl,e⟩:=a.tie ok;let⟨f,g⟩:=KL c;rw[Int.add_comm];refine Wk.cons ?_ b
  grind
theorem KH{N:Net}(g:Str->Int){a:Str}(b:a∈N.ps):Ib N ((N.ps.map g).map .int) a=g a:=by
 unfold Ib;rw[ij,KA,if_pos b];rfl
theorem UT{M:Net}(ok:M.Ok)(g:Str->Int)(c:∀x∈M.ps,0<=g x)(h:∀t∈M.ts,FA (g t.a - g t.b)<=t.len):Jf M (.tup ((M.ps.map g).map .int))=q_:=by
 show(((((M.ps.map g).map _).length==(M.ps.length:Int))&&((M.ps.map g).map _).all _)&&M.ts.all _)=q_;rw[No,No,beq_self_eq_true,gX];refine⟨iQ.mpr λd e=>?_,iQ.mpr λt f=>?_⟩
 ·let⟨i,j,rfl⟩:=TM.mp e
  let⟨x,k,rfl⟩:=TM.mp j;exact decide_eq_true (c x k)
 ·let⟨l,m,_⟩:=ok.tin t f
  rw[KH g l,KH g m]
  simp_all
theorem OC{M:Net}(ok:M.Ok){s x:Str}{o:t_ Int}(h:dq M s x o):∀d,o=P3 d->0<=d:=λd e=>by
 rw[e]at h;exact(h).1.pos ok
theorem RQ{M:Net}(ok:M.Ok){s:Str}{G:Kn}(h:∀x,dq M s x (G x)){m:Int}{t:Aq}(i:t∈M.ts):FA (Dz m (G t.a) - Dz m (G t.b))<=t.len:=by
 let⟨_,_,_,C,_⟩:=ok.tin t i;let⟨u,v⟩:=KL i
 have j:∀{y z:Str}{l:Int},Ed M y z l->∀d,G y=P3 d->∃c,G z=P3 c/\c<=d+l:=λ{y z l} w d e=>by
  have k:=h y;rw[e]at k;have n:Wk M s z (d+l):=Wk.snoc (show Least M s y d from k).1 w;have f:=h z;cases o:G z with
  |none=>rw[o]at f;exact absurd n (f _)
  |some c=>rw[o]at f;exact⟨c,rfl,(show Least M s z c from f).2 _ n⟩
 have A:=j u;have B:=j v;cases p:G t.a with
 |none=>
  cases g:G t.b with
  |none=>unfold FA Dz;split <;>omega
  |some b=>grind
 | some a=>
  cases g:G t.b with
  |none=>grind
  |some b=>
   let⟨D,q,E⟩:=A a p;rw[g]at q;cases q
   let⟨F,r,H⟩:=B b g;rw[p]at r;cases r
   show(if(if a<m then a else m) - (if b<m then b else m)<0 then -((if a<m then a else m) - (if b<m then b else m))else(if a<m then a else m) - (if b<m then b else m))<=t.len
   split <;>split <;>split <;>omega
theorem aW{k:Nat}{A:Net}(j:okN A){t b:Int}(K:Oe t b){u:Aq}(B:u.a∈A.ps)(C:u.b∈A.ps)(p:0<=u.len)(q:CD A t b u=r_){s y:Str}(r:(s=u.a/\y=u.b)\/(s=u.b/\y=u.a)){G:Kn}(i:∀x,dq A s x (G x)){m more:Int}(g:0<=m)(D:m<=10 ^ 20)(w:u.len*t<m*b)(L:0<=more)(M:more<=10 ^ 28):Kv k A t b u (.tup [.str "in",.tup ((A.ps.map λx=>more+Dz m (G x)).map .int)]):=by
 have ok:=j.1;refine .inl ⟨q,_,rfl,λx E=>?_,UT ok _ (λx _=>?_) λv F=>?_,?_⟩
 ·let⟨z,_,rfl⟩:=TM.mp E
  have:=(RR g (OC ok (i z))).2
  show more+Dz m (G z)<=_;omega
 ·have:=(RR g (OC ok (i x))).1
  show 0<=more+Dz m (G x);omega
 ·have:=RQ ok i (m:=m) F
  rw[show more+Dz m (G v.a) - (more+Dz m (G v.b))=Dz m (G v.a) - Dz m (G v.b) by omega];exact this
 ·rw [KH _ B,KH _ C]
  have f:Dz m (G s)=0:=by
   have h:=i s;cases e:G s with
   |none=>rw[e]at h;exact absurd .nil (h 0)
   |some d=>
    rw[e]at h;have h:Least A s s d:=h;have H:d=0:=Int.le_antisymm (h.2 0 .nil) (h.1.pos ok);subst H;show(if(0:Int)<m then 0 else m)=0
    split <;>omega
  have l:u.len*t<Dz m (G y)*b:=by
   have h:=i y;cases e:G y with
   |none=>exact w
   | some d=>
    rw[e]at h;have h:Least A s y d:=h;show _<(if d<m then d else m)*b
    split
    ·refine kd λc=>?_
     have:CD A t b u=q_:=nearB_iff.mpr ⟨d,?_,by omega⟩
     ·rw[q]at this;cases this
     ·rcases r with⟨rfl,rfl⟩|⟨rfl,rfl⟩
      ·exact h
      ·exact⟨Kc ok h.1,λI n=>h.2 I (Kc ok n)⟩
    ·exact w
  have J:0<=Dz m (G y):=(RR g (OC ok (i y))).1
  have o:FA (more+Dz m (G u.a) - (more+Dz m (G u.b)))=Dz m (G y):=by
   rcases r with⟨rfl,rfl⟩|⟨rfl,rfl⟩
   ·rw[f];unfold FA;split <;>omega
   ·rw[f];unfold FA;split <;>omega
  rw[o];exact l
theorem PapGK.snoc{k:Nat}{N:Net}{t b:Int}{u:Aq}{d:D}:∀{c a:s_ Aq}{e:s_ D},PapGK k N t b a c e->Kv k (sub N (Ag N t b a c)) t b u d->PapGK k N t b a (c++[u]) (e++[d])
 |[],a,[],_,h=>⟨h,trivial⟩
 |v::c,a,r::e,h,f=>⟨h.1,PapGK.snoc h.2 (by rw[←Cy _];exact f)⟩
 |[],_,_::_,h,_=>h.elim
 |_::_,_,[],h,_=>h.elim
section
variable {ss:s_ Slot}{n:Nat}{Pd:D->Nat->Prop}
theorem TV{k:Nat}{A:Net}{t b:Int}{u:Aq}{a:D}(h:Kv k A t b u a):∃(s:Str) (y:D),a=.tup [.str s,y]/\(s="in"\/s="out"):=by
 rcases h with⟨_,c,rfl,_⟩|⟨_,w,d,rfl,_⟩
 ·exact⟨_,_,rfl,.inl rfl⟩
 simp_all
theorem PapGK.shape{k:Nat}{N:Net}{t b:Int}:∀{kept c:s_ Aq}{a:s_ D},PapGK k N t b kept c a->∀r∈a,∃(s:Str) (y:D),r=.tup [.str s,y]/\(s="in"\/s="out")
 |_,[],[],_=>λr d=>absurd d gU
 |_,u::c,r::a,h=>λx f=>(TW.mp f).elim (λe=>by rw[e];exact TV h.1) (PapGK.shape h.2 x)
 |_,[],_::_,h=>h.elim
 |_,_::_,[],h=>h.elim
theorem Uh{l t b:Int}(a:1<=b):l*t<(l*t / b+1)*b:=Int.lt_ediv_add_one_mul_self _ (by omega)
theorem PB(h:GU ss n Pd):Ej (EE Pd) n (ss++Uf 4 .no):=by
 let⟨N,t,b,rfl,i,H,p⟩:=h;have I:=H;let⟨X,b2,t1,Y⟩:=I;have ok:=i.1;have a0:=i.2.2;have a1:=i.2.1;have a2:=PySem.sizeLine_eq;unfold Ej;refine⟨N,t,b,rfl,i,X,b2,t1,Y,λa3 y C=>?_⟩;have a4:=y.length_eq;refine⟨z0,_,AL (j:=1) rfl,_,N.ts,rfl,rfl,by omega,λc q1 q2=>?_⟩;obtain rfl:=Bg (q1.trans y.symm) q2 C;have E:c.Nodup:=y.nodup_iff.mpr (A5 ok.trise)
 have go:∀(q f:s_ Aq) (s:s_ D) (J K:Slot),f++q=c->PapGK 30 N t b [] f s->
   BP (Ae 4) aY {EE Pd with nx:=Au (Cp BY (AF (Av 3) AU)) (EE Pd)} (q.map Ai) n [.sh (enc N),.sh (TJ t b),.sh (enc (sub N (Ag N t b [] c))),.ow (.lst s),J,K]:=by
  intro q
  induction q with
  |nil=>
   intro f s J K e z;rw[gq]at e;exact p c s y C (e▸z)
  | cons u q Z=>
   intro f s J K e z;have M:u∈N.ts:=y.subset (by rw[←e];exact f8 _ Op);let⟨O,hb,_,l1,l2⟩:=ok.tin u M;have e':f++[u]++q=c:=by rw[iA];exact e
   have A:s.length<sizeLine:=by
    have h1:=z.len;have h2:=congrArg kY e;rw[eq,gS]at h2;omega
   have P:decide (u∈(sub N (Ag N t b [] c)).ts)=!CD (sub N (Ag N t b [] f)) t b u:=by
    rw[←e]at E ⊢;rw[iN,decide_eq_true_eq,sub_mem,LI E,Bool.not_eq_true'];exact⟨λh=>h.2,λh=>⟨M,h⟩⟩
   unfold aY;exists sub N (Ag N t b [] c),u,rfl,Ep i _
   have ea:(⟨(sub N (Ag N t b [] c)).ps,(sub N (Ag N t b [] c)).ts.filter λv=>BJ (Bh v) (Bh u)⟩:Net)=sub N (Ag N t b [] f):=by
    rw[←e]at E C ⊢;exact M9 E C
   rw[ea];exists _,AL (j:=1) rfl,E7 ok M,(C6 ok λv hv=>(sub_mem.mp hv).1).1,_,rfl;rw[IM,P];have l:=Ep i (Ag N t b [] f);cases Q:CD (sub N (Ag N t b [] f)) t b u with
   | false=>
    refine⟨_,rfl,rfl,_,AL (j:=0) rfl,_,AL (j:=2) rfl,t,b,u.len,rfl,H,sub N (Ag N t b [] f),u.a,u.len*t / b+1,rfl,l,O,λF hF=>⟨z2,_,_,rfl,rfl,A,?_⟩⟩;have e0:0<=u.len*t / b:=Int.ediv_nonneg (Int.mul_nonneg (by omega) (by omega)) (by omega);have e1:u.len*t / b<=u.len*t:=Int.ediv_le_self _ (Int.mul_nonneg (by omega) (by omega));have e2:u.len*t<=1000000*1000000:=Int.mul_le_mul l2 Y (by omega) (by omega);have B:=aW (k:=30) l H O hb (by omega) Q (.inl ⟨rfl,rfl⟩) (G:=λx=>(F x).map (·.1)) hF.far (m:=u.len*t / b+1) (more:=0) (by omega) (by omega) (Uh X) (jo _) (by decide)
    have er:((sub N (Ag N t b [] f)).ps.map λx=>(0:Int)+Dz (u.len*t / b+1) ((F x).map (·.1))).map D.int=(sub N (Ag N t b [] f)).ps.map λx=>.int (Dz (u.len*t / b+1) ((F x).map (·.1))):=by
     rw[ij];refine kZ λx _=>?_;show D.int (0+_)=_;rw[Int.zero_add]
    rw[er]at B;exact Z (f++[u]) _ _ _ e' (z.snoc B)
   | true=>
    refine⟨_,rfl,rfl,_,AL (j:=0) rfl,_,AL (j:=1) rfl,sub N (Ag N t b [] f),u.a,u.b,rfl,l,O,hb,λo ho=>?_⟩;let⟨d,hd,R⟩:=nearB_iff.mp Q;cases o with
    |none=>exact absurd hd.1 (ho d)
    |some w=>
     let⟨d',r,rfl,S,T,U,V,W⟩:=ho;have ed:d'=d:=U.unique hd;subst ed;refine⟨z2,_,_,rfl,rfl,A,Z (f++[u]) _ _ _ e' (z.snoc (.inr ⟨Q,u.a::r,d',rfl,⟨⟨r,rfl⟩,S,T,V,W⟩,R⟩))⟩
 exact go c [] [] _ _ rfl trivial
end
end Nt
set_option maxHeartbeats 4000000
namespace Nt
open L2 Dp
theorem Wk.trans{N:Net}{x y z:Str}{d e:Int}(h:Wk N x y d)(g:Wk N y z e):Wk N x z (d+e):=by
 induction g with
 |nil=>grind
 |snoc _ f a=>rw[←nQ];exact .snoc a f
def Uu(N M:Net)(t b:Int):Prop:=∀{x y:Str}{d:Int},Wk N x y d->∃a,Wk M x y a/\a*b<=d*t
theorem X8{x y z:Int}(h:x<=y)(a:0<=z):x*z<=y*z:=lg h a
theorem XX{N:Net}{c:s_ Aq}{t b:Int}(a:okN N)(j:thn N c)(h:IP N c t b):Uu N ⟨N.ps,c⟩ t b:=by
 intro x y d f
 induction f with
 |nil=>exact⟨0,.nil,by omega⟩
 | snoc f e k=>
  rename_i y z d l
  let⟨s,m,v⟩:=k;let⟨u,n,w,o⟩:=e.tie a.1;let⟨p,⟨q,_⟩,A⟩:=h u n
  have r:Wk ⟨N.ps,c⟩ y z p:=by
   rcases o with⟨g,i⟩|⟨g,i⟩
   ·grind
   ·rw[←g,←i];exact Kc (j.okN a).1 q
  exists _,m.trans r
  grind
theorem Mh{N:Net}(a:okN N){t b:Int}(g:1<=b)(i:b<=t){c:s_ Aq}(j:c.Perm N.ts):IP N (sub N (Ag N t b [] c)).ts t b:=by
 intro u f
 rcases HI (j.mem_iff.mpr f)with h|⟨s,k,d,l,m⟩
 ·exact Pe a (He a li) i g (sub_mem.mpr ⟨f,h⟩)
 ·let⟨e,n,o⟩:=Hx (Ep a _).1 _ d (On _) (l.1.mono λv p=>by
   let⟨q,r⟩:=sub_mem.mp p;exact sub_mem.mpr ⟨q,k v r⟩)
  exact⟨e,n,mq (X8 o (by omega)) m⟩
def IX:W2:=λc n P=>∃(N:Net) (a:s_ Aq) (t b:Int),c=[.sh (enc N),.sh (.tup [.int t,.int b]),.sh (enc ⟨N.ps,a⟩)]/\okN N/\thn N a/\Oe t b/\Uu N ⟨N.ps,a⟩ t b/\P (.bl q_) n
def bF:AY:=(BK (Eo (AW (AV (JL q_) (AC 6) (AC 5))) (AW (AV (f2 λi j=>D.bl (decide (j<i))) (AV Cf (AV CI (AC 5) (AC 6)) (AV BC (AC 1) (wC (D.int 1)))) (AV Cf (AV CI (AC 4) (AC 6)) (AV BC (AC 1) (wC (D.int 0))))))) (Au (wC (D.bl r_))) Aw)
def FH:AY:=(Ad (D9 (BQ (AV BC (AC 0) (wC (D.int 0)))) (Ae 3) (Ad (Ay 4 (U2 (AQ DA (AB (Cr (AV BC (AC 0) (wC (D.int 1)))) (AB (AG (AC 3)) AO)))))
 (Ad (Ay 5 (U2 (AQ DA (AB (Cr (AV BC (AC 2) (wC (D.int 1)))) (AB (AG (AC 3)) AO)))))
 (D9 (Yv (AC 4)) (Ae 6) bF))))
 (Au (wC (D.bl q_))))
theorem Rh:∀{a:s_ Key}{b:s_ D},a.length=b.length->a.Nodup->(∀k∈a,∀z,BR a b k=P3 z->FF z=q_)->Cd b=q_
 |[],[],_,_,_=>rfl
 |k::a,d::b,c,f,h=>by
  rw[gk]at f;show(FF d&&Cd b)=q_;rw[h k Op d (if_pos rfl),Rh (kj c) f.2 λj g z i=>h j (Rs _ g) z ((if_neg λe=>f.1 (by grind)).trans i)];rfl
 |[],_::_,c,_,_=>by cases c
 |_::_,[],c,_,_=>by cases c
theorem SU{d:s_ Key}{b:s_ D}{K:Kn}(M:Dmap d b D.int K):Cd b=q_:=Rh M.len M.nd λk e z c=>by
 let⟨x,rfl⟩:=M.dom k e;rw[M.at_]at c;let⟨a,_,rfl⟩:=g0.mp c;rfl
section
variable {ss:s_ Slot}{n:Nat}{Pd:D->Nat->Prop}
theorem Jz(h:IX ss n Pd):FH (EE Pd) n (ss++Uf 4 .no):=by
 let⟨N,C,t,b,rfl,e,Z,⟨b1,b2,t1,t2⟩,hw,p⟩:=h;have G:=Z.okN e;have a0:=PySem.sizeLine_eq;unfold FH;exists _,AL (j:=0) rfl;refine Df (all:=N.ps.map D.str) (λw m f=>m=n/\∃H I J g,f=[.sh (enc N),.sh (.tup [.int t,.int b]),.sh (enc ⟨N.ps,C⟩),H,I,J,g]) ?_ ?_ _ [] _ _ rfl ⟨rfl,_,_,_,_,rfl⟩
 ·rintro m f ⟨rfl,H,I,J,g,rfl⟩
  exact p
 ·rintro w d R m f nx y ⟨rfl,H,I,J,g,rfl⟩ L
  have hd:d∈N.ps.map D.str:=by rw[y];exact f8 _ Op
  let⟨s,S,rfl⟩:=TM.mp hd;refine⟨_,AL (j:=1) rfl,N,s,_,N.ts,rfl,rfl,λ_=>Iff.rfl,e,S,λr E K u T=>⟨r,E,rfl,SU u,?_⟩⟩;refine⟨_,AL (j:=1) rfl,⟨N.ps,C⟩,s,_,C,rfl,rfl,λ_=>Iff.rfl,G,S,λi l K' z U=>⟨i,l,rfl,SU z,?_⟩⟩;exists r,E,rfl,λk A=>?_
  ·let⟨x,rfl⟩:=u.dom k A
   have:=(e.1.names x (T.ins x ((u.mem x).mp A))).2.1
   show x.length<=sizeLine;omega
  refine Df (all:=r.map XJ) (λw F f=>F=m/\∃g,f=[.sh (enc N),.sh (.tup [.int t,.int b]),.sh (enc ⟨N.ps,C⟩),.sh (.str s),.sh (.fdi r E),.sh (.fdi i l),g]) ?_ ?_ _ [] _ _ rfl ⟨rfl,_,rfl⟩
  ·rintro F f ⟨rfl,g,rfl⟩
   exact L _ _ ⟨rfl,_,_,_,_,rfl⟩
  ·rintro V v M F f a1 o ⟨rfl,g,rfl⟩ B
   have O:v∈r.map XJ:=by rw[o];exact f8 _ Op
   let⟨k,A,rfl⟩:=TM.mp O;let⟨x,rfl⟩:=u.dom k A;have hx:=(u.mem x).mp A;have P:=B F _ ⟨rfl,.sh (.str x),rfl⟩;cases Q:K x with
   |none=>exact absurd Q hx
   | some d=>
    let⟨W,X,h1⟩:=hw (T.least x d Q).1;cases q:K' x with
    |none=>exact absurd q (U.all x W X)
    |some v=>
     have le:=(U.least x v q).2 W X;have a2:v*b<=d*t:=mq (X8 le (by omega)) h1;have v1:BR r E (.inr x)=P3 (.int d):=by rw[u.at_,Q];rfl
     have Y:BR i l (.inr x)=P3 (.int v):=by rw[z.at_,q];rfl
     exists _,_,_,rfl,BE x;rw[Y];refine CS ⟨_,_,_,_,rfl,BE x,Y,_,AL (j:=1) rfl,.inr ⟨by omega,by omega⟩,_,_,_,_,rfl,BE x,v1,_,AL (j:=0) rfl,.inr ⟨by omega,by omega⟩,?_⟩;exact CB (λc=>absurd (of_decide_eq_true c:d*t<v*b) (by omega)) λ_=>P
end
abbrev B9(M:Net)(u:Aq):Net:=⟨M.ps,M.ts.filter λv=>BJ (Bh v) (Bh u)⟩
def To(M:Net)(t b:Int)(u:Aq)(d:D):D:=if Jf M d=q_ then(match d with
 |.tup c=>if FA (Ib M c u.a - Ib M c u.b)*b<=u.len*t then .str "near" else .non
 |_=>.non)else .str "fair"
def aZ(M:Net)(t b:Int)(u:Aq):D->D
 |.tup [.str s,y]=>if decide (u∈M.ts)=(s=="in")then(if u∈M.ts then To (B9 M u) t b u y else MN (B9 M u) t b u y)else .str "word"
 |_=>.non
def DU:D->Bool
 |.tup [.str s,_]=>s=="in"||s=="out"
 |_=>r_
def Dx(M:Net)(t b:Int):Nat->s_ Aq->s_ D->D
 |k,u::a,d::c=>match aZ M t b u d with
  |.str w=>KJ w k
  |_=>Dx M t b (k+1) a c
 |_,_,_=>.non
def RN(M:Net)(t b:Int)(a:s_ Aq):D->D
 |.tup c=>if c.length=a.length then(if c.all DU=q_ then Dx M t b 0 a c else KJ "shape" 0)else KJ "shape" 0
 |_=>KJ "shape" 0
theorem SV{d:D}(h:DU d=q_):∃(s:Str) (y:D),d=.tup [.str s,y]/\(s="in"\/s="out"):=by
 unfold DU at h
 split at h
 ·grind
 ·cases h
theorem Tl(M:Net)(t b:Int)(u:Aq)(d:D):To M t b u d=.non\/∃w,To M t b u d=.str w:=by
 unfold To
 split
 ·split
  ·split
   ·grind
   simp_all
  simp_all
 grind
theorem JK(M:Net)(t b:Int)(u:Aq)(d:D):aZ M t b u d=.non\/∃w,aZ M t b u d=.str w:=by
 unfold aZ
 split
 ·split
  ·split
   ·exact Tl _ _ _ _ _
   ·exact Ie _ _ _ _ _
  grind
 simp_all
section
variable {N M A:Net}{t b:Int}{u:Aq}{ts ord:s_ Aq}
theorem af(ok:A.Ok){a:s_ D}(f:Jf A (.tup a)=q_){x y:Str}{d:Int}(h:Wk A x y d):FA (Ib A a x - Ib A a y)<=d:=by
 induction h with
 |nil=>rw[Int.sub_self];decide
 |snoc _ g c=>
  let⟨v,l,rfl,m⟩:=g.tie ok;have e:=of_decide_eq_true (iQ.mp (gX _ _▸f).2 v l)
  rcases m with⟨rfl,rfl⟩|⟨rfl,rfl⟩ <;>revert c e <;>generalize Ib A a _=i <;>generalize Ib A a _=j <;>generalize Ib A a x=k <;>unfold FA <;>intro c e <;>split <;>split at c <;>split at e <;>omega
theorem ag(ok:A.Ok)(g:1<=b){y:D}(h:To A t b u y=.non):CD A t b u=r_:=by
 unfold To at h
 split at h
 ·rename_i c
  cases y with
  | tup i=>
   have h:(if FA _*b<=u.len*t then D.str _ else .non)=.non:=h
   split at h
   ·cases h
   ·rename_i e
    refine ig.mpr λz=>e ?_;let⟨d,f,a⟩:=nearB_iff.mp z;exact mq (X8 (af ok c f.1) (by omega)) a
  |_=>cases c
 ·cases h
theorem SM(ok:M.Ok):∀{r:s_ Str}{x:Str}{s l:Int},GZ M.ts x r s=P3 l->∃d,walk M (x::r) d/\l=s+d
 |[],x,s,l,h=>⟨0,rfl,by have:s=l:=gW h;omega⟩
 | y::r,x,s,l,h=>by
  have h:(match look M.ts x y with|some l=>GZ M.ts y r (s+l)|none=>p_)=P3 l:=h;cases e:look M.ts x y with
  |none=>grind
  | some a=>
   rw[e]at h;let⟨d,f,k⟩:=SM ok h
   have g:Ed M x y a:=by
    unfold look at e;cases c:(EY M.ts x).find? λz=>decide (z.1=y)with
    |none=>grind
    |some q=>
     rw[c]at e;have i:q.1=y:=of_decide_eq_true (m7 (p:=λz:Str×Int=>decide (z.1=y)) c);have j:q.2=a:=gW e;rw[←i,←j];exact ke c
   exact⟨a+d,⟨a,d,g,f,rfl⟩,by omega⟩
theorem VH(w:s_ Str):Qd (Dg w)=w:=Dh w
theorem MM(c:okN A){w:s_ Str}{d:Int}(g:walked A u.a u.b w d)(f:d*b<=u.len*t):MN A t b u (Dg w)=.non:=by
 have e:=RD c g;let⟨⟨r,rfl⟩,h,_⟩:=g;unfold MN aN;rw[e,VH,h];simp[f]
theorem SG(ok:A.Ok)(E:1<=b){y:D}(h:MN A t b u y=.non):Gj A t b u:=by
 unfold MN at h
 split at h
 ·rename_i l c
  split at h
  ·rename_i f
   have c:(match N7 A y with|.int l=>if((Qd y).head?==P3 u.a&&(Qd y).getLast?==P3 u.b)=q_ then D.int l else .non|_=>.non)=.int l:=c
   rcases Mc A y with e|⟨x,r,q,rfl,e⟩
   ·rw[e]at c;cases c
   ·rw [e]at c
    have o:Qd (Dg (x::r))=x::r:=VH _;rw[o]at c;have c:(if((x::r).head?==P3 u.a&&(x::r).getLast?==P3 u.b)=q_ then D.int q else .non)=.int l:=c
    split at c
    ·rename_i s
     cases c;let⟨g,i⟩:=(gX _ _▸s:_/\_);have g:x=u.a:=gW (eq_of_beq g);have i:=eq_of_beq i
     have j:N7 A (Dg (x::r))=if x∈A.ps then TX (GZ A.ts x r 0)else .non:=by
      show(if((x::r).map D.str).all Dt then UE A (strsOf ((x::r).map D.str))else D.non)=_;rw[all_strs,if_pos rfl,show strsOf ((x::r).map D.str)=x::r from o];rfl
     rw[j]at e
     split at e
     ·cases n:GZ A.ts x r 0 with
      |none=>rw[n]at e;cases e
      |some v=>
       rw[n]at e;have e:v=l:=by injection e
       let⟨d,w,F⟩:=SM ok n;let⟨k,z,B⟩:=GH ok w i x Op;let⟨m,p,C⟩:=Hx ok k.toNat k (On _) z;rw[g]at p;exact⟨m,p,mq (X8 (show m<=l by omega) (by omega)) f⟩
     ·cases e
    ·cases c
  ·cases h
 ·cases h
theorem Mq:∀{c:s_ Aq}{f:s_ D}{k:Nat},f.length=c.length->Dx M t b k c f=.non->∀u∈c,∃d∈f,aZ M t b u d=.non
 |[],[],_,_,_=>λu h=>by cases h
 | v::c,d::f,k,a,h=>λu g=>by
  unfold Dx at h
  rcases JK M t b v d with e|⟨w,e⟩
  ·rw[e]at h
   rcases TW.mp g with rfl|g
   ·grind
   ·let⟨i,j,l⟩:=Mq (kj a) h u g
    grind
  ·rw[e]at h;cases h
 |[],_::_,_,a,_=>by cases a
 |_::_,[],_,a,_=>by cases a
theorem Kk(a:okN N)(c:thn N ts):ts=N.ts.filter λv=>decide (v∈ts):=
 G2 ((kW (A5 c.2) ((A5 a.1.trise).filter _)).mpr λv=>by simpa using c.1 v) (E9 c.2) (E9 (a.1.trise.filter _))
theorem Mj(i:okN N)(m:thn N ts)(F:1<=b)(n:ord.Perm N.ts)(L:Bo ord){p:D}(h:RN ⟨N.ps,ts⟩ t b ord p=.non):ts=(sub N (Ag N t b [] ord)).ts:=by
 have o:=m.okN i;have G:ord.Nodup:=n.nodup_iff.mpr (A5 i.1.trise);have k:∀u,(B9 ⟨N.ps,ts⟩ u).Ok:=λu=>NN o.1 (λv g=>(jM.mp g).1) (m.2.filter _)
 have q:∀u∈ord,(u∈ts↔CD (B9 ⟨N.ps,ts⟩ u) t b u=r_):=by
  cases p with
  | tup r=>
   have h:(if r.length=ord.length then(if r.all DU=q_ then Dx ⟨N.ps,ts⟩ t b 0 ord r else KJ "shape" 0)else KJ "shape" 0)=.non:=h
   split at h
   ·rename_i O
    split at h
    ·rename_i P
     intro u Q;let⟨d,R,e⟩:=Mq O h u Q;let⟨s,y,rfl,V⟩:=SV (iQ.mp P d R);have e:(if decide (u∈ts)=(s=="in")then(if u∈ts then To (B9 ⟨N.ps,ts⟩ u) t b u y else MN (B9 ⟨N.ps,ts⟩ u) t b u y)else .str "word")=.non:=e
     split at e
     ·by_cases c:u∈ts
      ·rw[if_pos c]at e
       exact⟨λ_=>ag (k u) F e,λ_=>c⟩
      ·rw[if_neg c]at e
       refine⟨λz=>absurd z c,λz=>?_⟩;rw[nearB_iff.mpr (SG (k u) F e)]at z;cases z
     ·cases e
    ·cases h
   ·cases h
  |_=>cases h
 have S:∀(f a:s_ Aq),a++f=ord->(∀v∈a,v∈ts↔v∈Ag N t b [] a)->∀v∈ord,v∈ts↔v∈Ag N t b [] ord:=by
  intro f
  induction f with
  |nil=>intro a e h;rw[gq]at e;rw[←e];exact h
  | cons u f T=>
   intro a e h;refine T (a++[u]) (by rw[iA];exact e) λv g=>?_;rw[←e]at G;let⟨_,W,H⟩:=iB.mp G;have I:=(kP.mp (show Bo (a++u::f) by rw[e];exact L));have l:u∉a:=λz=>H u z u Op rfl;have w:u∉Ag N t b [] a:=λz=>((Bb (rest:=a)).2 u z).elim (λz=>absurd z gU) l
   have U:B9 ⟨N.ps,ts⟩ u=sub N (Ag N t b [] a):=by
    show(⟨N.ps,ts.filter _⟩:Net)=⟨N.ps,_⟩
    congr 1
    rw[Kk i m,List.filter_filter];refine kC λv g=>?_;rw[iN,gX,decide_eq_true_eq,decide_eq_true_eq];have x:v∈a++u::f:=by rw[e];exact n.mem_iff.mpr g
    constructor
    ·rintro⟨j,B⟩
     rcases gP.mp x with z|z
     ·exact(h v z).mp B
     ·rcases TW.mp z with rfl|z
      ·rw[Bq]at j;cases j
      ·rw[(iL.mp I.2.1).1 v z]at j;cases j
    ·intro J
     have C:v∈a:=((Bb (rest:=a)).2 v J).elim (λz=>absurd z gU) id;refine⟨?_,(h v C).mpr J⟩;cases c:BJ (Bh v) (Bh u)with
     |true=>rfl
     |false=>exact absurd (Kw (B8 _ _ c (I.2.2 v C u Op))) (H v C u Op)
   have K:=q u (by rw[←e];exact f8 _ Op);rw[U]at K;rw[Cy,Cw]
   rcases gP.mp g with g|g
   ·have:v≠u:=λz=>l (z▸g)
    rw[h v g]
    split
    ·exact Iff.rfl
    ·show _↔v∈Ag N t b [] a++[u]
     rw[gP,Re];exact⟨.inl,λz=>z.elim id λz=>absurd z this⟩
   ·rw[Re.mp g,K]
    split
    ·rename_i z
     rw[z];exact⟨λz=>(by cases z),λz=>absurd z w⟩
    ·rename_i z
     exact⟨λ_=>f8 _ (Re.mpr rfl),λ_=>ig.mpr z⟩
 have E:=S ord [] rfl (λv g=>by cases g);show ts=N.ts.filter _;exact(Kk i m).trans (kC λv g=>by rw[iN,decide_eq_true_eq,decide_eq_true_eq];exact E v (n.mem_iff.mpr g))
theorem RI(i:okN N){c:s_ D}(p:ord.Perm N.ts)(q:Bo ord)(h:PapGK 30 N t b [] ord c):RN (sub N (Ag N t b [] ord)) t b ord (.tup c)=.non:=by
 have j:ord.Nodup:=p.nodup_iff.mpr (A5 i.1.trise)
 have m:∀{u:Aq}{a f:s_ Aq}{r:D},a++u::f=ord->Kv 30 (sub N (Ag N t b [] a)) t b u r->aZ (sub N (Ag N t b [] ord)) t b u r=.non:=λ{u a f r} e C=>by
  have v:B9 (sub N (Ag N t b [] ord)) u=sub N (Ag N t b [] a):=by rw[←e]at j q ⊢;exact M9 j q
  have E:u∈N.ts:=p.subset (by rw[←e];exact f8 _ Op)
  have n:u∈(sub N (Ag N t b [] ord)).ts↔CD (sub N (Ag N t b [] a)) t b u=r_:=by
   rw[sub_mem];rw[←e]at j ⊢;exact⟨λz=>(LI j).mp z.2,λz=>⟨E,(LI j).mpr z⟩⟩
  rcases C with⟨l,F,rfl,_,G,H⟩|⟨l,w,d,rfl,I,o⟩
  ·show(if decide (u∈(sub N (Ag N t b [] ord)).ts)=(("in":Str)=="in")then(if u∈(sub N (Ag N t b [] ord)).ts then To (B9 (sub N (Ag N t b [] ord)) u) t b u (.tup (F.map .int))else _)else _)=_
   rw[if_pos (n.mpr l),decide_eq_true (n.mpr l),if_pos (by decide),v];unfold To;rw[if_pos G];show(if FA _*b<=u.len*t then D.str "near" else .non)=_;rw[if_neg (by omega)]
  ·have x:u∉(sub N (Ag N t b [] ord)).ts:=λz=>by rw[n.mp z]at l;cases l
   show(if decide (u∈(sub N (Ag N t b [] ord)).ts)=(("out":Str)=="in")then(if u∈(sub N (Ag N t b [] ord)).ts then _ else MN (B9 (sub N (Ag N t b [] ord)) u) t b u (Dg w))else _)=_;rw[if_neg x,decide_eq_false x,if_pos (by decide),v];exact MM (Ep i _) (I.up (by decide)) o
 have J:∀(g a:s_ Aq) (c:s_ D) (k:Nat),a++g=ord->PapGK 30 N t b (Ag N t b [] a) g c->Dx (sub N (Ag N t b [] ord)) t b k g c=.non:=by
  intro g
  induction g with
  |nil=>intro a c k _ B;cases c <;>rfl
  | cons u g K=>
   intro a c k e B
   match c,B with
   |r::c,⟨L,O⟩=>
    unfold Dx;rw[m e L];exact K (a++[u]) c (k+1) (by rw[iA];exact e) (by rw[Cy];exact O)
 show(if c.length=ord.length then(if c.all DU=q_ then Dx _ t b 0 ord c else KJ "shape" 0)else KJ "shape" 0)=.non;rw[if_pos h.len,if_pos (iQ.mpr λd P=>?_)]
 ·exact J ord [] c 0 rfl h
 ·let⟨s,y,rfl,Q⟩:=h.shape d P
  rcases Q with rfl|rfl <;>rfl
end
end Nt
namespace Dp
open L2
section
variable {K:Frag}{C:Fm}{M:Addr->Prop}{H H':Hp}{n n':Nat}{ρ zO:s_ Slot}{σ zP:L2.St}{i:Nat}{a0 a1 a2:Addr}{A B:s_ D}
theorem WY(b:ρ.length=σ.length){i:Nat}{s:Slot}(h:ρ[i]?=P3 s):(ρ++zO)[i]?=P3 s/\((σ++zP)[i]?).getD p_=(σ[i]?).getD p_:=by
 have a:=(ZB.mp h).1;exact⟨by rw[iR a];exact h,by rw[iR (by omega)]⟩
theorem Rel.fewer(R:Rel K C M H n (ρ++zO) (σ++zP))(b:ρ.length=σ.length):Rel K C M H n ρ σ:=by
 have k:∀{i:Nat}{s:Slot},ρ[i]?=P3 s->(ρ++zO)[i]?=P3 s/\((σ++zP)[i]?).getD p_=(σ[i]?).getD p_:=λh=>WY b h;refine⟨b,R.sub,R.dom,R.ext,R.fU,R.uV,R.vM,R.feed,λi s q=>?_,R.pin,λi d a q z=>?_,λi s a q o z=>?_,λi j s t a c f e g l m=>?_,λp r=>?_⟩
 ·rw[←(k q).2];exact R.sl i s (k q).1
 ·exact R.br0 i d a (k q).1 ((k q).2.trans z)
 ·exact R.new i s a (k q).1 o ((k q).2.trans z)
 ·exact R.two i j s t a (k c).1 f (k e).1 g ((k c).2.trans l) ((k e).2.trans m)
 ·let⟨u,v,w,x⟩:=R.kept p r
  exact⟨u,v,w,λi d q=>by rw[←(k q).2];exact x i d (k q).1⟩
theorem Rel.more(R:Rel K C M H n ρ σ):Rel K C M H n (ρ++[.no,.no]) (σ++[p_,p_]):=by
 have k:∀{i:Nat}{s:Slot},(ρ++[.no,.no])[i]?=P3 s->s=.no\/ρ[i]?=P3 s/\((σ++[p_,p_])[i]?).getD p_=(σ[i]?).getD p_:=λ{i s} h=>by
  by_cases l:i<ρ.length
  ·rw[iR l]at h
   exact .inr ⟨h,(WY (zO:=[]) (zP:=[p_,p_]) R.len h).2⟩
  ·rw[iC (by omega)]at h
   match i - ρ.length,h with
   |0,h=>exact .inl (gW h).symm
   |1,h=>exact .inl (gW h).symm
 refine⟨by rw[eq,eq,R.len];rfl,R.sub,R.dom,R.ext,R.fU,R.uV,R.vM,R.feed,λi s q=>?_,R.pin,λi d a q z=>?_,λi s a q o z=>?_,λi j s t a b f c g m r=>?_,λp u=>?_⟩
 ·rcases k q with rfl|⟨q,e⟩
  ·trivial
  ·rw[e];exact R.sl i s q
 ·rcases k q with e|⟨q,e⟩
  ·cases e
  ·exact R.br0 i d a q (e.symm.trans z)
 ·rcases k q with rfl|⟨q,e⟩
  ·cases o
  ·exact R.new i s a q o (e.symm.trans z)
 ·rcases k b with rfl|⟨b,v⟩
  ·cases f
  ·rcases k c with rfl|⟨c,w⟩
   ·cases g
   ·exact R.two i j s t a b f c g (v.symm.trans m) (w.symm.trans r)
 ·let⟨x,y,D,E⟩:=R.kept p u
  refine⟨x,y,D,λi d q=>?_⟩
  rcases k q with e|⟨q,e⟩
  ·cases e
  ·rw[e];exact E i d q
theorem st1{a:Type}{l:s_ a}{x y z:a}:(l++[x,y]).set l.length z=l++[z,y]:=by simp_all
theorem Rp{a:Type}{l:s_ a}{x y z:a}:(l++[x,y]).set (l.length+1) z=l++[x,z]:=by simp_all
theorem bi{a:Type}{l:s_ a}{x y:a}:(l++[x,y])[l.length]?=P3 x:=by simp
theorem bh{a:Type}{l:s_ a}{x y:a}:(l++[x,y])[l.length+1]?=P3 y:=by simp_all
structure Nest (K:Frag) (C:Fm) (M:Ch->Prop) (H:Hp) (n:Nat) (ρ:List Slot) (σ:L2.St) (a0 a1 a2:Ch) (A B:List D):Prop where
 r:Rel K C M H n (ρ++[.ow (.lst A),.ow (.lst B)]) (σ++[P3 (.ref a1),P3 (.ref a2)])
 l:ρ.length=σ.length
 o:H a0=P3 (.lst [.ref a1,.ref a2])
 m:¬M a0
variable (h:Nest K C M H n ρ σ a0 a1 a2 A B)
include h
theorem Nest.rel:Rel K C M H n ρ σ:=h.r.fewer h.l
theorem Nest.step(e:Ext C.U H H')(f:FeedC K C.F M H' n'):Nest K C M H' n' ρ σ a0 a1 a2 A B:=⟨h.r.step e f,h.l,(h.r.pres e).1 _ _ h.o h.m,h.m⟩
theorem Nest.one:M a1/\¬C.V a1/\Tops K M H a1 (.lst A):=by
 let⟨a,e,q⟩:=h.r.sl _ _ bi;rw[h.l,bi]at e
 grind
theorem Nest.two:M a2/\¬C.V a2/\Tops K M H a2 (.lst B):=by
 let⟨a,e,q⟩:=h.r.sl _ _ bh;rw[h.l,bh]at e
 grind
theorem Nest.at1:((σ++[P3 (V.ref a1),P3 (V.ref a2)])[ρ.length]?).getD p_=P3 (.ref a1):=by rw[h.l,bi];rfl
theorem Nest.at2:((σ++[P3 (V.ref a1),P3 (V.ref a2)])[ρ.length+1]?).getD p_=P3 (.ref a2):=by rw[h.l,bh];rfl
theorem Nest.app1{d:D}{v:V}(c:At K M H d v){a:s_ V}(e:H a1=P3 (.lst a)):Nest K C M (A2 H a1 (.lst (a++[v]))) n ρ σ a0 a1 a2 (A++[d]) B:=by
 let⟨m,j,k,f,g⟩:=h.one;cases e.symm.trans f;have b:=Dd (o:=.lst (a++[v])) m e;have R:=h.r.mut (e:=.lst _) bi h.at1 ⟨_,AX,(g.pres b).append (Ats.one (c.pres b))⟩;rw[st1]at R;exact⟨R,h.l,by rw[AT λz=>h.m (by grind)];exact h.o,h.m⟩
theorem Nest.app2{d:D}{v:V}(c:At K M H d v){a:s_ V}(e:H a2=P3 (.lst a)):Nest K C M (A2 H a2 (.lst (a++[v]))) n ρ σ a0 a1 a2 A (B++[d]):=by
 let⟨m,j,k,f,g⟩:=h.two;cases e.symm.trans f;have b:=Dd (o:=.lst (a++[v])) m e;have R:=h.r.mut (e:=.lst _) bh h.at2 ⟨_,AX,(g.pres b).append (Ats.one (c.pres b))⟩;rw[Rp]at R;exact⟨R,h.l,by rw[AT λz=>h.m (by grind)];exact h.o,h.m⟩
theorem Nest.done:∃d,Rel K C d H n (ρ.set i (.sh (.lst [.lst A,.lst B]))) (σ.set i (P3 (.ref a0))):=by
 have c:=h.r.freeze bi h.at1;rw[st1]at c;have R2:=c.freeze bh h.at2;rw[Rp]at R2;have a:=R2.sl _ _ bi;have b:=R2.sl _ _ bh;rw[h.at1]at a;rw[h.at2]at b;let⟨_,e,a⟩:=a;let⟨_,f,b⟩:=b;cases e;cases f;exact⟨_,(R2.fewer h.l).set ⟨a0,_,rfl,⟨λz=>h.m z.1.1,h.o⟩,_,_,rfl,a,_,_,rfl,b,rfl⟩⟩
end
def Yu(i j:Nat)(m o:D8)(c:Gg)(p:D8)(q:Gg)(W:W2)(z:Int)(g:AY):AY:=λh n a=>i<a.length/\a[j]?=P3 .fd/\i≠j/\m n a λA r=>A.length<=1000/\o r a λB s=>B.length<=1000/\c s (a.set i .no) λb k=>
 (fun(G:s_ D->Nat->Prop)=>if b=q_ then p k (a.set i .no) λt f=>∃d,t=[d]/\G (A++[d]) f else G A k) λA f=>A.length<=1001/\q f (a.set i .no) λb l=>
 if b=q_ then ∃d,B[1]?=P3 d/\W [.fd,.sh d,.sh (.int z)] l λe u=>g h u (a.set i (.sh (.lst [.lst A,.lst (B++[e])])))else g h l (a.set i (.sh (.lst [.lst A,.lst B])))
section
variable {X:Cx}{κ:Kd}{i j k:Nat}{y g f:Str}{es1 es2:s_ Expr}{e6 c c2:Expr}{wa wb w6:D8}{wc wc2:Gg}{W:W2}{z:Int}{rest:s_ Stmt}{wr:AY}{ps:s_ Str}{p0 p1 p2 p3 p4 p5 p6 p7 p8 p9 q0 q1 q2 q3 q5 q6 q7 q8 q9 r0 r1 r2 r3 r5 r6 r7 r8 r9:Pos}{k0 k1 k2 k3 k4:Nat}
theorem We(hN:X.N.Nodup)(hi:X.N[i]?=P3 y)(hy:Loc X.env.scope y)(hv:∀p,PE X (.Name y p) (B3 i))(hf:∀p,PE X (.Name g p) (B3 j))(h1:XD X es1 wa)(h2:XD X es2 wb)(hc:DT X c wc)(h6:XD X [e6] w6)(b5:DT X c2 wc2)(G:Got X.prog X.w X.K X.mg X.base f k ps .sh W)(hr:Room k X.A)(hg:Gl X f)(S:QU X κ rest wr)
  (a4:swapsWith (.List [.List es1 p0,.List es2 p1] p2) (P3 (.Name y p3)) p4.line X.env=pure r_:=by rfl) (hx:X.fn y=q_\/X.env.scope.names.lookup y=P3 .local:=by first|exact .inl rfl|exact .inr rfl|assumption)
  (a5:((backTo q5 (starEach [e6] X.env)).all (λx=>!x.1)&&(backToKw q5 (keywordEach [] X.env)).all (λx=>x.1.isSome)&&decide (([e6]:s_ gj).length+([]:s_ jJ).length+(if([]:s_ jJ).isEmpty then 0 else 1)<30))=q_:=by rfl)
  (Y:(q3.endLine==q5.line)=q_:=by rfl) (b7:starEach [e6] X.env=(r_,eval e6 X.env)::starEach [] X.env:=by rfl) (b8:swapsWith (.Call (.Attribute (.Subscript (.Name y q0) (.Constant (.int 0) k0 q1) q2) "append" q3) [e6] [] q5) p_ q6.line X.env=pure r_:=by rfl)
  (J:(r3.endLine==r5.line)=q_:=by rfl) (a7:swapsWith (.Call (.Attribute (.Subscript (.Name y r0) (.Constant (.int 1) k1 r1) r2) "append" r3) [.Call (.Name f p5) [.Name g p6,.Subscript (.Subscript (.Name y p7) (.Constant (.int 1) k2 p8) p9) (.Constant (.int 1) k3 r7) r8,.Constant (.int z) k4 r9] [] q8] [] r5) p_ r6.line X.env=pure r_:=by rfl)
  (b9:(f==("__debug__":Str))=r_:=by decide):
  QU X κ (.Assign [.Name y p3] (.List [.List es1 p0,.List es2 p1] p2) p4::.If c [.Expr (.Call (.Attribute (.Subscript (.Name y q0) (.Constant (.int 0) k0 q1) q2) "append" q3) [e6] [] q5) q6] [] q7::
   .If c2 [.Expr (.Call (.Attribute (.Subscript (.Name y r0) (.Constant (.int 1) k1 r1) r2) "append" r3) [.Call (.Name f p5) [.Name g p6,.Subscript (.Subscript (.Name y p7) (.Constant (.int 1) k2 p8) p9) (.Constant (.int 1) k3 r7) r8,.Constant (.int z) k4 r9] [] q8] [] r5) r6] [] q9::rest) (Yu i j wa wb wc w6 wc2 W z wr):=by
 let⟨t1,a1,b1⟩:=h1;let⟨t2,a2,b2⟩:=h2;let⟨tc,ac,bc⟩:=hc;let⟨t6,a6,b6⟩:=h6;let⟨d7,c0,c1⟩:=b5;let⟨tr,ar,br⟩:=S;let⟨fa,fd,G,hm,hk,hb,hW⟩:=G;have d8:=PySem.sizeLine_eq
 have a8:∀{C:Fm}{M:Ch->Prop}{H:Hp}{n:Nat}{h:s_ Slot}{m:L2.St}{a t l:Ch}{A B:s_ D}{u:E2}{E:Ends},GF X.K C κ u E->Nest X.K C M H n (h.set i .no) (m.set i (P3 (.ref a))) a t l A B->wr u n (h.set i (.sh (.lst [.lst A,.lst B])))->tr E (m.set i (P3 (.ref a))) H:=λ{C M H n h m a t l A B u E} L N w=>by
  let⟨M',R⟩:=N.done (i:=i);rw[List.set_set,List.set_set]at R;exact br C M' H n _ _ u E R L w
 obtain⟨t3,c3,I⟩:∃t3,PSs X (.If c2 [.Expr (.Call (.Attribute (.Subscript (.Name y r0) (.Constant (.int 1) k1 r1) r2) "append" r3) [.Call (.Name f p5) [.Name g p6,.Subscript (.Subscript (.Name y p7) (.Constant (.int 1) k2 p8) p9) (.Constant (.int 1) k3 r7) r8,.Constant (.int z) k4 r9] [] q8] [] r5) r6] [] q9::rest) t3 /\
   ∀(C:Fm) (M:Ch->Prop) (H:Hp) (n:Nat) (h:s_ Slot) (m:L2.St) (a t l:Ch) (A B:s_ D) (u:E2) (E:Ends),GF X.K C κ u E->Nest X.K C M H n (h.set i .no) (m.set i (P3 (.ref a))) a t l A B->(m.set i (P3 (V.ref a)))[i]?=P3 (P3 (.ref a))->(h.set i .no)[j]?=P3 .fd->B.length<=1000->(wc2 n (h.set i .no) λb n5=>
   if b=q_ then ∃d,B[1]?=P3 d/\W [.fd,.sh d,.sh (.int z)] n5 λe n6=>wr u n6 (h.set i (.sh (.lst [.lst A,.lst (B++[e])])))else wr u n5 (h.set i (.sh (.lst [.lst A,.lst B]))))->t3 E (m.set i (P3 (.ref a))) H:=by
  refine⟨_,BD (MZ c0 (CL (KD (PM PySem.F.plainAttrs_list PySem.F.slot_list_append PySem.F.type_list_append Ba (DQ ix_list (hv _) A1 (by intro _ _;rfl)) (BF (Nl G hr hg hm hk hb .nil Vv (BF (hf _) (BF (DQ ix_list (DQ ix_list (hv _) A1 (by intro _ _;rfl)) A1 (by intro _ _;rfl)) (BF A1 B6))) b9) B6) rfl rfl J rfl rfl) a7)) Hl) ar,λC M H n h m a t l A B u E L N h0 O hB w=>?_⟩;refine c1 C M H n _ _ _ _ N.rel w λb H5 n5 e5 f5 w=>?_;have r:=N.step e5 f5;cases b with
  |false=>exact a8 L r w
  |true=>
   let⟨d,hd,w⟩:=w;let⟨m2,c4,c5,c6,Z⟩:=r.two;let⟨v5,c7,c8⟩:=Z.get hd;let⟨fa,c9,d0⟩:=r.rel.sl j _ O;exists .ref a,h0,a,_,1,.ref l,rfl,rfl,.inl (.inl r.o),rfl,LL (d:=.lst B) (T:="list") rfl (r.two.2.2.att c4);exists .ref fa.1,getD_some c9,.ref a,h0,a,_,1,.ref l,rfl,rfl,.inl (.inl r.o),rfl,l,c5,1,v5,rfl,rfl,.inl (.inl c6),AL (j:=1) c7;have P:=r.rel;refine⟨hW _ _ _ w,C.F,C.U,C.V,_,n5,[.fd,.sh d,.sh (.int z)],_,⟨P.dom,P.fU,P.uV,P.vM,P.feed,.cons ⟨⟨fa,rfl,d0⟩,rfl⟩ (.cons ⟨⟨v5,rfl,c8⟩,rfl⟩ (.cons ⟨⟨_,rfl,rfl⟩,rfl⟩ .nil))⟩,w,λv H6 e n6 e6 f6 r6 w=>?_⟩;have N2:=r.step e6 f6;let⟨_,_,d1,a9,d2⟩:=N2.two;exact⟨l,d1,v,rfl,rfl,a9,by rw[d2.length];omega,a8 L (N2.app2 r6 a9) w⟩
 refine⟨_,BD (E4 hN hi hy (Iz (BF (Iz a1) (BF (Iz a2) B6))) a4 hx) (BD (MZ ac (CL (KD (PM PySem.F.plainAttrs_list PySem.F.slot_list_append PySem.F.type_list_append Ba (DQ ix_list (hv _) A1 (by intro _ _;rfl)) a6 rfl a5 Y b7 rfl) b8)) Hl) c3),λC M H n h m u E R L w=>?_⟩;let⟨b0,d3,d4,w⟩:=w;refine b1 C M H n h m _ _ R w λv1 H1 A n1 e1 f1 s1 w=>?_;refine⟨by rw[s1.length];omega,λt a0=>?_⟩;have R0:=(R.step e1 f1).more;have g1:Grow H1 (A2 H1 t (.lst v1)):=Ar a0;have P:=R0.setOw (i:=h.length) (d:=.lst A) g1.ext (f1.grow g1) a0 ⟨v1,AX,s1.pres (Dv a0)⟩;rw[st1,R.len,st1]at P;refine b2 C _ _ n1 h m _ _ (P.fewer R.len) w.2 λv2 H2 B n2 e2 f2 s2 w=>?_;let⟨hB,w⟩:=w;refine⟨by rw[s2.length];omega,λl a3=>?_⟩;have R2:=P.step e2 f2;have g2:Grow H2 (A2 H2 l (.lst v2)):=Ar a3;have R3:=R2.setOw (i:=h.length+1) (d:=.lst B) g2.ext (f2.grow g2) a3 ⟨v2,AX,s2.pres (Dv a3)⟩;rw[Rp,R.len,Rp]at R3;refine⟨(show 2<=sizeLine by omega),λa b3=>?_⟩;have g3:Grow (A2 H2 l (.lst v2)) (A2 (A2 H2 l (.lst v2)) a (.lst [.ref t,.ref l])):=Ar b3;have R4:=R3.step g3.ext (R3.feed.grow g3);have Q:i<m.length:=by rw[←R.len];exact b0
 have R5:=R4.setS (i:=i) (s:=.no) (o:=P3 (.ref a)) rfl (λ_ z=>by cases z) trivial;rw[List.set_append_left _ _ b0,List.set_append_left _ _ Q]at R5
 have N0:Nest X.K C _ _ n2 (h.set i .no) (m.set i (P3 (.ref a))) a t l A B:=⟨R5,by rw[i7,i7,R.len],AX,λz=>by
  let⟨o,q⟩:=R3.dom a z;rw[b3]at q;cases q⟩
 have h0:(m.set i (P3 (V.ref a)))[i]?=P3 (P3 (.ref a)):=by rw[lD Q]
 have O:(h.set i .no)[j]?=P3 .fd:=by rw[lQ d4];exact d3
 refine bc C _ _ n2 _ _ _ _ N0.rel w λb H4 n3 e4 f4 w=>?_;have r:=N0.step e4 f4;cases b with
 |false=>exact I C _ _ _ h m a t l _ _ u E L r h0 O hB w.2
 |true=>
  let⟨m1,d5,d9,e0,a4⟩:=r.one;exists .ref a,h0,a,_,0,.ref t,rfl,rfl,.inl (.inl r.o),rfl,LL (d:=.lst A) (T:="list") rfl (r.one.2.2.att d5);refine b6 C _ _ n3 _ _ _ _ r.rel w λvs H6 ds n6 e6 f6 r6 w=>?_;let⟨d,rfl,w⟩:=w;let⟨v,_,rfl,hv,rfl⟩:=r6;have N2:=r.step e6 f6;let⟨_,_,d6,b4,Z⟩:=N2.one;exact⟨t,d6,v,rfl,rfl,b4,by rw[Z.length];simp only[eq,gl]at w;omega,I C _ _ _ h m a t l _ _ u E L (N2.app1 hv b4) h0 O hB w.2⟩
end
end Dp
namespace L2
section
variable {X:Cx}
def cW(K:Frag):V->s_ V->Hp->VK->Prop:=λx g H Q=>∃(a:Ch) (c:s_ V) (y:V) (b:s_ ja) (d:ja) (j:Nat),x=.ref a/\g=[y]/\SqL K H a c/\RVs H b c/\RV H d y/\jE b=q_/\d.canLay0=q_/\d.depth<=100 /\
 (∃e,b[j]?=P3 e/\iF e d=q_)/\(∀m f,m<j->b[m]?=P3 f->iF f d=r_)/\Q (.int (j:Int)) H
theorem aL{k:Nat}(N:Room k X.A):ZW X "list.index" (cW X.K):=by
 intro O s P H x vs v us Q I R S h;let⟨l,xs,y,b,d,j,rfl,rfl,T,f,U,C,V,dd,⟨dj,hj,W⟩,g,q⟩:=h;cases R;let⟨u,rfl,Y⟩:=S.one;let⟨a,r,Z,z⟩:=I.list T;let⟨as,ra⟩:=RVs.reads I f r;let⟨bs,rb⟩:=RV.reads I U Y;have hm:=PySem.SeqAt.readsAll_map b a as C ra;have D:b.length=a.length:=by grind
 have hu:=N.un;have E:min (im b) d.depth<=d.depth:=kN _ _
 have i:∀m o,b[m]?=P3 o->∀(h:m<a.toArray.size),PySem.SeqAt.readOf s.heap a.toArray[m]=o:=λm o e h=>by
  rw[←hm,gR]at e;have h':m<a.length:=by simpa using h
  simp_all
 have a0:j<a.length:=by grind
 have hz:=r.length;have a1:=PySem.sizeLine_eq;let⟨⟨a2,dt,G,sl⟩,n,e,J,L,M⟩:=Z;simp only at J M L;subst J M L;have p:=PySem.SeqAt.list_indexAt l a.toArray n p_ sl u _ j (by omega) (by omega) (by simp_all) (λm t B=>?_) X.prog X.w X.A (wants (EP X O P Q) X.xe) s ⟨e,PySem.SeqAt.items_eqAt (vs:=a.toArray) (by omega) rb C V (by omega),⟨.int j,H,I.tok _,⟨_,rfl⟩,q⟩⟩
 ·exact jj (jm PySem.F.slot_list_index.plain PySem.F.entry_list_index (PySem.F.slot_list_index.check _ _ _ _ _ _ _ _ ⟨_,e,rfl⟩ (PySem.F.args_list_index_2 _ _) p))
 have c:m<b.length:=by simp_all
 rw[i m b[m] (FM c) t];exact g m b[m] B (FM c)
end
end L2
namespace Dp
open L2
def dL(d:D)(b:s_ D)(P:D->Prop):Prop:=∃(a:s_ D) (y:D) (j:Nat),d=.lst a/\b=[y]/\Ce (.tup a)/\Ce y/\(∃x,a[j]?=P3 x/\FN x y=q_)/\(∀m x,m<j->a[m]?=P3 x->FN x y=r_)/\P (.int (j:Int))
theorem dS{K:Frag}:eN K .sh "list" (cW K) dL:=by
 intro U M H d F x G P Q k I l n w q;let⟨h,y,j,rfl,rfl,⟨o,r,_⟩,⟨s,t,u⟩,⟨J,b,c⟩,f,w⟩:=w;let⟨v,rfl,z⟩:=C4 n;let⟨a,A,rfl,_,B,C⟩:=l
 have g:∀(m:Nat) (p:ja),(Be h)[m]?=P3 p->∃x,h[m]?=P3 x/\p=toPy x:=λm p e=>by
  rw[CU,gR]at e;let⟨x,i,rfl⟩:=g0.mp e
  grind
 refine⟨a,A,v,_,_,j,rfl,rfl,.inl B,C.rv o,z.rv s,r,t,u,⟨_,by rw[CU,gR,b];rfl,c⟩,λm p D e=>?_,q _ H (.int j) .refl rfl w⟩;let⟨E,i,rfl⟩:=g m p e;exact f m E D i
end Dp
namespace Nt
open L2 Dp
def Sz:W2:=λc n P=>∃(M:Net) (t b:Int) (u:Aq) (d:D),c=[.sh (enc M),.sh (TJ t b),.sh (Ai u),.sh d]/\okN M/\Oe t b/\u.a∈M.ps/\u.b∈M.ps/\P (To M t b u d) n
def S2:W2:=λc n P=>∃(N:Net) (a:s_ Aq) (t b:Int) (u:Aq) (d:D),c=[.sh (TJ t b),.sh (enc ⟨N.ps,a⟩),.sh (Ai u),.sh d]/\okN N/\thn N a/\Oe t b/\u∈N.ts/\DU d=q_/\fair d/\P (aZ ⟨N.ps,a⟩ t b u d) n
def S3:W2:=λa n P=>∃d:D,a=[.sh d]/\fair d/\P (.bl (DU d)) n
def d7(N:Net)(t b:Int)(d p:D)(Q:D->Prop):Prop:=okN N/\N.ps.length<=24/\Oe t b/\bE d/\fair p/\(thinB N d=r_\/(∀e,p≠.tup e)->Q (KJ "shape" 0))/\∀c a:s_ Aq,d=enc ⟨N.ps,c⟩->thn N c->a.Perm N.ts->Bo a->Q (RN ⟨N.ps,c⟩ t b a p)
def IY:WX:=λa n P c=>∃(N:Net) (t b:Int) (d p:D),a=[.sh (enc N),.sh (TJ t b),.sh d,.sh p]/\d7 N t b d p λr=>Kl r P c n
def bV(w:Int)(N:Net)(c:s_ Aq)(t b:Int)(p:D)(r:Bool):Prop:=∀a d:s_ Aq,a.Perm N.ts->Bo a->d.Perm (Fk N c)->Bo d->r=Gm (if w=0 then P1 ⟨N.ps,c⟩ t b d p else RN ⟨N.ps,c⟩ t b a p)
def FE:W2:=λc n P=>∃(w:Int) (N:Net) (a:s_ Aq) (t b:Int) (p:D),c=[.sh (.int w),.sh (enc N),.sh (TJ t b),.sh (enc ⟨N.ps,a⟩),.sh p]/\(w=0\/w=1)/\okN N/\N.ps.length<=24/\Oe t b/\thn N a/\fair p/\∀r:Bool,bV w N a t b p r->P (.bl r) n
def GB:W2:=λc n P=>∃(N:Net) (a:s_ Aq) (t b:Int) (A B:s_ D),c=[.sh (enc N),.sh (TJ t b),.sh (enc ⟨N.ps,a⟩),.sh (.lst [.lst A,.lst B])]/\okN N/\N.ps.length<=24/\Oe t b/\b<=t/\thn N a/\A.length<=100/\B.length<=100/\(∀d∈A,fair d)/\(∀d∈B,fair d)/\P (.bl q_) n
def O5(d:D):Prop:=fine (10 ^ 29) d/\Cq d<=1700/\D_ d<=2
def KZ:W2:=λd n P=>∃(N:Net) (b:s_ Aq) (c:s_ D),d=[.fd,.sh (enc N),.sh (enc ⟨N.ps,b⟩),.sh (.tup c)]/\okN N/\thn N b/\b≠[]/\N.ps.length<=8/\N.ts.length<=14/\c.length=N.ts.length/\(∀r∈c,O5 r)/\1<=n/\∀(a:s_ Aq) (p:D),thn N a->fair p->P (.tup [enc ⟨N.ps,a⟩,p]) (n - 1)
def Ei:AY:=(Ad (BK (CW (AW (AQ S4 (AB (AG (AC 0)) (AB (AG (AC 3)) AO))))) (Au (wC (D.str "fair"))) Aw)
 (Au (Xa (AW (AQ GS (AB (AG (AQ W_ (AB (AG (AC 0)) (AB (AG (AC 3)) (AB (AG (AV BC (AC 2) (wC (D.int 0)))) (AB (AG (AV BC (AC 2) (wC (D.int 1)))) AO)))))) (AB (AG (AC 1)) (AB (AG (AV BC (AC 2) (wC (D.int 2)))) AO))))) (wC (D.str "near")) (wC D.non))))
def dA:AY:=(Ad (Ay 5 (AQ GD (AB (AG (AC 1)) (AB (AG (AC 2)) AO))))
 (Au (Xa (AW (AC 4)) (AQ Sz (AB (AG (AC 5)) (AB (AG (AC 0)) (AB (AG (AC 2)) (AB (AG (AV BC (AC 3) (wC (D.int 1)))) AO))))) (AQ NB (AB (AG (AC 5)) (AB (AG (AC 0)) (AB (AG (AC 2)) (AB (AG (AV BC (AC 3) (wC (D.int 1)))) AO))))))))
def Ek:AY:=(Ad (Ay 4 (AV (LW r_) (AC 2) (AV BC (AC 1) (wC (D.int 1)))))
 (Ad (BK (AW (AV (HL q_) (AC 4) (AV (HL r_) (AV BC (AC 3) (wC (D.int 0))) (wC (D.str "in"))))) (Au (wC (D.str "word"))) Aw)
 dA))
def Gc:AY:=(Au (NJ (AQ C_ (AB (AG (wC (D.int 2))) (AB (AG (AC 0)) AO))) (AV (LW r_) (AV BC (AC 0) (wC (D.int 0))) (Bc (AF (wC (D.str "in")) (AF (wC (D.str "out")) AU))))))
def dB(a:PX):AY:=(Ad (Ay 6 (AQ S2 (AB (AG (AC 1)) (AB (AG (AC 2)) (AB (AG (AC 5)) (AB (AG (AV BC (AC 3) (AC 4))) AO))))))
 (BK (AW (AV (Fo q_) (AC 6) (wC D.non))) (λb=>(G1 "NoPaper" ["word","number"] (AF (AC 6) (AF (AC 4) AU))) b a) Aw))
def DK(a:PX):AY:=(Ad (BK (Eo (CW (AW (AQ QQ (AB (AG (AC 0)) (AB (AG (AC 2)) AO))))) (CW (AW (AQ C_ (AB (AG (Cp Gb (AF (AV BC (AC 0) (wC (D.int 1))) AU))) (AB (AG (AC 3)) AO)))))) (λb=>(G1 "NoPaper" ["word","number"] (AF (wC (D.str "shape")) (AF (wC (D.int 0)) AU))) b a) Aw)
 (Ad (BK (CW (AW (Cp OE (AF (Bp [p_] (BQ (AC 3)) (Ae 0) DB (AQ S3 (AB (AG (AC 0)) AO))) AU)))) (λb=>(G1 "NoPaper" ["word","number"] (AF (wC (D.str "shape")) (AF (wC (D.int 0)) AU))) b a) Aw)
 (Ad (D9 (U3 (AQ DN (AB (AG (AV BC (AC 0) (wC (D.int 1)))) AO))) (E_ 2 (As (Ae 4) (As (Ae 5) Ck))) (dB a))
 (Au (wC (D.bl q_))))))
def Gu:AY:=(Ad (Ay 5 (wC (D.bl r_)))
 (Ad (bu (bx (AW (AV (HL r_) (AC 0) (wC (D.int 0)))) (Uy 5 (Zf (YT r_) (QY KY (AB (AG (AC 1)) (AB (AG (AC 2)) (AB (AG (AC 3)) (AB (AG (AC 4)) AO))))) (wC (D.bl q_)))) (Uy 5 (Zf (YT r_) (QY IY (AB (AG (AC 1)) (AB (AG (AC 2)) (AB (AG (AC 3)) (AB (AG (AC 4)) AO))))) (wC (D.bl q_)))))
 (QW "NoPaper" (λa=>(Ay 5 (wC (D.bl r_))))
 U1))
 (Au (AC 5))))
def cL:AY:=(BK (AW (AQ FE (AB (AG (AC 4)) (AB (AG (AC 0)) (AB (AG (AC 1)) (AB (AG (AC 2)) (AB (AG (AC 5)) AO))))))) (Ad (BK (CW (AW (AQ IX (AB (AG (AC 0)) (AB (AG (AC 1)) (AB (AG (AC 2)) AO)))))) (Au (wC (D.bl r_))) Aw)
 (BK (Kf (AW (AV (HL r_) (AC 4) (wC (D.int 1)))) (AW (AV (HL q_) (Cp WT (AF (AC 2) AU)) (Cp WT (AF (AQ CJ (AB (AG (AC 0)) (AB (AG (AC 1)) AO))) AU))))) (Au (wC (D.bl r_))) Aw)) Aw)
def Fz:AY:=(Ad (D9 (Eb (AF (wC (D.int 2)) AU)) (Ae 4) (D9 (BQ (AV BC (AC 3) (AC 4))) (Ae 5) cL))
 (Au (wC (D.bl q_))))
def EC:AY:=(Ad (Ay 4 (AV BC (AV BC (AC 2) (wC (D.int 1))) (AQ BG (AB (Az 0) (AB (AG (Cp Gb (AF (AV BC (AC 2) (wC (D.int 1))) AU))) AO)))))
 (Ad (Ay 5 (Bc (AF (AV BC (AC 2) (wC (D.int 0))) (AF (Cp BY (AF (Bp [P3 4,p_] (BQ (AV BC (AC 2) (wC (D.int 1)))) (Ae 1) (AW (AV YO (AC 1) (AC 0))) (AC 1)) AU)) AU))))
 (Ad (Ay 6 (d8 "list" dL (AQ DN (AB (AG (AV BC (AC 1) (wC (D.int 1)))) AO)) (AF (AC 4) AU)))
 (Ad (Ay 7 (Bc (AF (wC (D.str "out")) (AF (AQ Um (AB (AG (AC 5)) (AB (AG (AV BC (AC 4) (wC (D.int 0)))) (AB (AG (AV BC (AC 4) (wC (D.int 1)))) AO)))) AU))))
 (Au (Bc (AF (AC 5) (AF (AV A0 (AV A0 (MO ER (AC 3) Bj (Bx (AC 6))) (Bc (AF (AC 7) AU))) (MO ER (AC 3) (Bx (AV A0 (AC 6) (wC (D.int 1)))) Bj)) AU))))))))
def SN:AY:=(Ad (BK (CW (AW (AQ GB (AB (AG (AC 2)) (AB (AG (AC 3)) (AB (AG (AC 8)) (AB (AG (AC 11)) AO))))))) (Au (wC (D.bl r_))) Aw)
 (BK (AW (AV (HL q_) (AV (Fo q_) (AC 10) (wC D.non)) (AQ FE (AB (AG (wC (D.int 0))) (AB (AG (AC 2)) (AB (AG (AC 3)) (AB (AG (AC 8)) (AB (AG (AC 10)) AO)))))))) (Au (wC (D.bl r_))) Aw))
def ZF:AY:=(Yu 11 1 (AF (AC 10) (AF (AC 6) (AF (AQ Lz (AB (Az 1) (AB (AG (AC 6)) (AB (AG (wC (D.int 3))) AO)))) AU))) (AF (AC 5) (AF (AQ Lz (AB (Az 1) (AB (AG (AC 5)) (AB (AG (wC (D.int 4))) AO)))) AU)) (AW (AV (Fo q_) (AC 10) (wC D.non))) (AF (AQ Lz (AB (Az 1) (AB (AG (AC 10)) (AB (AG (wC (D.int 3))) AO)))) AU) (AW (AV (HL r_) (AQ BG (AB (Az 1) (AB (AG (wC (D.int 2))) AO))) (wC (D.int 0)))) Lz 4
 SN)
def ZE:AY:=(Ad (Ay 10 (AQ GR (AB (AG (AC 2)) (AB (AG (AC 3)) (AB (AG (AC 8)) AO)))))
 ZF)
def SQ:AY:=(Ad (bz (AQ KZ (AB (Az 1) (AB (AG (AC 2)) (AB (AG (AC 4)) (AB (AG (AC 5)) AO))))) (E_ 2 (As (Ae 8) (As (Ae 9) Ck))))
 (BK (CW (AW (AQ GB (AB (AG (AC 2)) (AB (AG (AC 3)) (AB (AG (AC 8)) (AB (AG (DZ (AF (DZ (AF (AQ GR (AB (AG (AC 2)) (AB (AG (AC 3)) (AB (AG (AC 8)) AO)))) AU)) (AF (DZ (AF (AC 9) AU)) AU)))) AO))))))) (Au (wC (D.bl r_))) Aw))
def WC:AY:=(Ad (Ay 8 (AV BC (DZ (AF (AQ OZ (AB (Az 1) (AB (AG (AC 2)) (AB (AG (AC 3)) AO)))) (AF (AC 4) AU))) (Cp Pz (AF (AV (HL r_) (AQ BG (AB (Az 1) (AB (AG (wC (D.int 3))) AO))) (wC (D.int 0))) AU))))
 ZE)
def SO:AY:=(Ad (D9 (Eb (AF (wC (D.int 5)) AU)) (Ae 7) WC)
 (Au (wC (D.bl q_))))
def WB:AY:=(Ad (D9 (Eb (AF (AV Cf (wC (D.int 3)) (Cp Pz (AF (AV YO (AV BC (AC 4) (wC (D.int 1))) (Bc AU)) AU))) AU)) (Ae 7) SQ)
 SO)
def M6:AY:=(Ad (Ay 2 (AQ Yn (AB (Az 1) (AB (AG (wC (D.int 8))) (AB (AG (wC (D.int 14))) AO)))))
 (Ad (Ay 3 (AQ OY (AB (Az 1) AO)))
 (Ad (Ay 4 (AQ CJ (AB (AG (AC 2)) (AB (AG (AC 3)) AO))))
 (Ad (Ay 5 (AQ GU (AB (AG (AC 2)) (AB (AG (AC 3)) AO))))
 (Ad (Ay 6 (AQ GR (AB (AG (AC 2)) (AB (AG (AC 3)) (AB (AG (AC 4)) AO)))))
 (Ad (BK (Eo (CW (AW (AQ FE (AB (AG (wC (D.int 0))) (AB (AG (AC 2)) (AB (AG (AC 3)) (AB (AG (AC 4)) (AB (AG (AC 6)) AO)))))))) (CW (AW (AQ FE (AB (AG (wC (D.int 1))) (AB (AG (AC 2)) (AB (AG (AC 3)) (AB (AG (AC 4)) (AB (AG (AC 5)) AO))))))))) (Au (wC (D.bl r_))) Aw)
 WB))))))
theorem E3(f:s_ Aq):∃e:s_ Aq,e.Perm f/\Bo e:=by
 refine⟨f.mergeSort λs t=>!BJ _ _,List.mergeSort_perm _ _,(List.pairwise_mergeSort (λa b c i g=>?_) (λa b=>?_) f).imp λh=>by simpa using h⟩
 ·simp at i g ⊢
  cases j:BJ _ _ with
  |false=>rfl
  |true=>
   cases d:BJ _ _ with
   |true=>rw[B7 _ _ _ j d]at g;cases g
   |false=>rw[B8 _ _ d i]at j;grind
 ·cases c:BJ _ _ with
  |false=>rfl
  |true=>
   cases d:BJ _ _ with
   |false=>rfl
   |true=>have:=B7 _ _ _ c d;rw[Bq]at this;cases this
section
variable {ss:s_ Slot}{n:Nat}{Pd:D->Nat->Prop}{Pr:PX}
theorem Xp(h:Sz ss n Pd):Ei (EE Pd) n (ss++Uf 0 .no):=by
 let⟨M,t,b,u,d,rfl,e,⟨i,k,l,m⟩,o,q,p⟩:=h;unfold Ei;exists M,_,rfl,e;unfold To at p;cases f:Jf M d with
 |false=>rw[f,if_neg gh]at p;exact CQ p
 | true=>
  rw[f,if_pos rfl]at p;cases d with
  |tup g=>
   let⟨r,s⟩:=SX f;refine CS ⟨_,AL (j:=0) rfl,_,AL (j:=1) rfl,M,_,u.a,u.b,rfl,e,r,s,o,q,_,AL (j:=2) rfl,_,t,b,u.len,rfl,i,k,l,m,?_⟩;have p:Pd (if FA (Ib M g u.a - Ib M g u.b)*b<=u.len*t then .str "near" else .non) n:=p
   by_cases c:FA (Ib M g u.a - Ib M g u.b)*b<=u.len*t
   ·rw[if_pos c]at p;rw[decide_eq_true c];exact CQ p
   ·rw[if_neg c]at p;rw[decide_eq_false c];exact CS p
  |_=>cases f
theorem V_{d:D}(h:fair d):Ce d:=CP (by decide) h.1 (by have:=h.2.2;omega)
theorem Xs(h:S3 ss n Pd):Gc (EE Pd) n (ss++Uf 0 .no):=by
 let⟨d,rfl,a,p⟩:=h;have b:∀x∈[("in":Str),"out"],∀c∈cs x,c<1114112:=by decide +kernel
 have f:Ce (.tup [.str "in",.str "out"]):=CP (B:=10) (by decide) ⟨b _ (by simp),b _ (by simp),trivial⟩ (by decide);exists 2,_,rfl;cases d with
 | tup g=>
  match g,a,p with
  | [x,y],a,p=>
   exists _,AL (j:=0) rfl,z2,V_ (Hz a Op),f,_,rfl
   have e:DU (.tup [x,y])=([D.str "in",.str "out"].any λz=>FN z x):=by
    cases x with
    |str s=>
     show(s=="in"||s=="out")=(("in":Str)==s||(("out":Str)==s||false))
     grind
    |_=>rfl
   simp_all
  |[],a,p=>exact p
  |[x],a,p=>cases x <;>exact p
  |x::y::z::r,a,p=>
   cases x <;>exact p
 |_=>exact p
theorem Xr(h:S2 ss n Pd):Ek (EE Pd) n (ss++Uf 2 .no):=by
 let⟨N,a,t,b,u,d,rfl,f,m,q,r,w,x,p⟩:=h;have ok:=f.1;have e:=m.okN f;let⟨z,A,_⟩:=ok.tin u r;let⟨s,y,rfl,C⟩:=SV w;have o:fair y:=Hz x (Rs _ Op);have g:okN (B9 ⟨N.ps,a⟩ u):=⟨NN e.1 (λv B=>(jM.mp B).1) (m.2.filter _),e.2.1,gc (iX _ _) e.2.2⟩;have p:Pd (if decide (u∈a)=(s=="in")then(if u∈a then To (B9 ⟨N.ps,a⟩ u) t b u y else MN (B9 ⟨N.ps,a⟩ u) t b u y)else .str "word") n:=p;unfold Ek;exists _,AL (j:=1) rfl,E7 ok r,(C6 ok m.1).1,_,rfl;rw[IM];exists _,AL (j:=0) rfl
 have i:∀k:Bool,decide (u∈a)=k->Pd (if k=q_ then To (B9 ⟨N.ps,a⟩ u) t b u y else MN (B9 ⟨N.ps,a⟩ u) t b u y) n->dA (EE Pd) n [.sh (TJ t b),.sh (enc ⟨N.ps,a⟩),.sh (Ai u),.sh (.tup [.str s,y]),.sh (.bl k),.no]:=λk D p=>by
  exists⟨N.ps,a⟩,u,rfl,e;cases k with
  |true=>exact⟨_,AL (j:=1) rfl,B9 ⟨N.ps,a⟩ u,t,b,u,y,rfl,g,q,z,A,p⟩
  |false=>exact⟨_,AL (j:=1) rfl,B9 ⟨N.ps,a⟩ u,t,b,u,y,rfl,g,q,o,p⟩
 show if(!(decide (u∈a)==(s==("in":Str))))=q_ then _ else _
 by_cases c:decide (u∈a)=(s=="in")
 ·rw[if_pos c]at p
  rw[c,beq_self_eq_true];refine CS (i _ c ?_)
  by_cases l:u∈a
  ·rw[if_pos l]at p;rw[←c,decide_eq_true l];exact p
  ·rw[if_neg l]at p;rw[←c,decide_eq_false l];exact p
 ·rw[if_neg c]at p
  rw[beq_eq_false_iff_ne.mpr c];exact CQ p
theorem Qn(h:IY ss n Pd Pr):DK Pr (EE Pd) n (ss++Uf 3 .no):=by
 let⟨N,t,b,d,p,rfl,k,I,X,⟨Y,Z,f3⟩,T,q0,q⟩:=h;have J:=k.2.2;have a0:=PySem.sizeLine_eq;unfold DK;exists N,d,rfl,k.1,I,J,Y,Z,f3;show if(!thinB N d)=q_ then _ else _
 cases c:thinB N d with
 |false=>exact CQ (.inr ⟨rfl,rfl,q0 (.inl c)⟩)
 | true =>
  let⟨l,rfl,B⟩:=thinB_iff.mp c;have B:thn N l:=B;have a1:=B.okN k;let⟨g,K,x2⟩:=E3 N.ts;have f:=q l g rfl B K x2;refine CS ⟨_,AL (j:=1) rfl,_,_,rfl,rfl,_,_,rfl,?_⟩;show if(!(tupleOfB ((N.ts.map Ai).length:Int) p))=q_ then _ else _
  have C:(N.ts.map Ai).length=N.ts.length:=No ..;rw[C];cases p with
  | tup a=>
   have f:Kl (if a.length=g.length then(if a.all DU=q_ then Dx ⟨N.ps,l⟩ t b 0 g a else KJ "shape" 0)else KJ "shape" 0) Pd Pr n:=f;show if(!((a.length:Int)==(N.ts.length:Int)))=q_ then _ else _
   by_cases E:a.length=N.ts.length
   ·rw [if_pos (E.trans K.length_eq.symm)]at f
    rw[show((a.length:Int)==(N.ts.length:Int))=q_ by rw[E];exact beq_self_eq_true _];refine CS ⟨by show a.length<=10000000;omega,?_⟩;refine Bn (λd=>.bl (DU d)) (λU=>∃s,U=[s]) _ _ _ _ ?_ ⟨_,rfl⟩ ?_
    ·rintro d hd U n' nx ⟨s,rfl⟩ L
     exact⟨d,rfl,Hz T hd,L _ ⟨_,rfl⟩⟩
    rw[gy];exists _,_,rfl,F2 DU a;show if(!((a.map DU).all id))=q_ then _ else _
    rw[show((a.map DU).all id)=a.all DU by rw[ni];rfl];cases M:a.all DU with
    |false=>rw[M,if_neg gh]at f;exact CQ (.inr ⟨rfl,rfl,f⟩)
    | true=>
     refine CS ⟨_,AL (j:=1) rfl,_,N.ts,rfl,rfl,by omega,λm H o2=>⟨_,rfl,?_⟩⟩;have V:Kl (if a.length=m.length then(if a.all DU=q_ then Dx ⟨N.ps,l⟩ t b 0 m a else KJ "shape" 0)else KJ "shape" 0) Pd Pr n:=q l m rfl B H o2;rw[if_pos (E.trans H.length_eq.symm),if_pos M]at V
     have go:∀(A:s_ Aq) (y o:s_ D) (O P Q:Slot),y++o=a->o.length=A.length->(∀u∈A,u∈N.ts)->Kl (Dx ⟨N.ps,l⟩ t b y.length A o) Pd Pr n->
       BP (E_ 2 (As (Ae 4) (As (Ae 5) Ck))) (dB Pr) {EE Pd with nx:=Au (wC (D.bl q_)) (EE Pd)} (Fq y.length (A.map Ai)) n [.sh (enc N),.sh (TJ t b),.sh (enc ⟨N.ps,l⟩),.sh (.tup a),O,P,Q]:=by
      intro A
      induction A with
      |nil=>intro y o O P Q _ i _ r;cases o with
       |nil=>exact r
       |cons _ _=>cases i
      | cons u A ih=>
       intro y o O P Q e i F r
       match o,i,r with
       | w::o,i,r=>
        have G:a[y.length]?=P3 w:=by rw[←e,iC (On _),me];rfl
        have W:=iS G
        exists rfl,rfl,_,AL G,N,l,t,b,u,w,rfl,k,B,X,F u Op,iQ.mp M w W,Hz T W;unfold Dx at r
        rcases JK ⟨N.ps,l⟩ t b u w with S|⟨x,S⟩
        ·rw[S]at r ⊢
         exists rfl
         have:=ih (y++[w]) o (.sh (.int (y.length:Int))) (.sh (Ai u)) (.sh .non) (by rw[iA];exact e) (kj i) λv hv=>F v (Rs _ hv)
         rw[eq,gl]at this;exact this r
        ·rw[S]at r ⊢
         exact⟨rfl,.inr ⟨rfl,rfl,r⟩⟩
     exact go m [] a _ _ _ rfl (E.trans H.length_eq.symm) (λu hu=>H.mem_iff.mp hu) V
   ·rw[if_neg (λz=>E (z.trans K.length_eq))]at f
    rw[show((a.length:Int)==(N.ts.length:Int))=r_ by rw[beq_eq_false_iff_ne];omega];exact CQ (.inr ⟨rfl,rfl,f⟩)
  |_=>exact CQ (.inr ⟨rfl,rfl,f⟩)
end
theorem Sf(M:Net)(t b:Int):∀(a:s_ Aq) (c:s_ D) (k:Nat),IA M t b k a c=.non\/∃w j,IA M t b k a c=KJ w j/\(w="way"\/w="far")/\j<k+a.length
 |[],_,_=>.inl rfl
 |_::_,[],_=>.inl rfl
 | u::a,d::c,k=>by
  have e:MN M t b u d=.non\/MN M t b u d=.str "far"\/MN M t b u d=.str "way":=by
   unfold MN
   split
   ·split
    ·exact .inl rfl
    ·exact .inr (.inl rfl)
   ·exact .inr (.inr rfl)
  unfold IA
  rcases e with e|e|e
  ·rw[e]
   rcases Sf M t b a c (k+1)with h|⟨w,j,h,f,g⟩
   ·exact .inl h
   ·exact .inr ⟨w,j,h,f,by rw[gS];omega⟩
  ·rw[e];exact .inr ⟨_,k,rfl,.inr rfl,by rw[gS];omega⟩
  ·rw[e];exact .inr ⟨_,k,rfl,.inl rfl,by rw[gS];omega⟩
theorem YW(M:Net)(t b:Int)(a:s_ Aq)(p:D):P1 M t b a p=.non\/∃w j,P1 M t b a p=KJ w j/\(w="way"\/w="far"\/w="shape")/\j<=a.length:=by
 unfold P1
 split
 ·split
  ·rcases Sf M t b a _ 0 with h|⟨w,j,h,c,d⟩
   ·exact .inl h
   ·exact .inr ⟨w,j,h,by rcases c with c|c <;>simp[c],by omega⟩
  ·exact .inr ⟨_,0,rfl,.inr (.inr rfl),Tk _⟩
 ·exact .inr ⟨_,0,rfl,.inr (.inr rfl),Tk _⟩
theorem Oq:∀{d e:s_ Aq},d.map Ai=e.map Ai->d=e
 |[],[],_=>rfl
 |t::d,u::e,h=>by
  have c:Ai t=Ai u:=by injection h
  have j:d.map Ai=e.map Ai:=by injection h
  rw[Oq j];let⟨a,b,l⟩:=t;let⟨k,m,n⟩:=u;unfold Ai at c;injection c with c
  injection c with f c
  injection c with g c
  injection c with i _
  injection f with f
  injection g with g
  injection i with i
  subst f g i;rfl
theorem P4(M:Net)(t b:Int):∀(a:s_ Aq) (c:s_ D) (k:Nat),Dx M t b k a c=.non\/∃w j,Dx M t b k a c=KJ w j
 |[],_,_=>.inl rfl
 |_::_,[],_=>.inl rfl
 |u::a,d::c,k=>by
  unfold Dx
  rcases JK M t b u d with e|⟨w,e⟩
  ·rw[e];exact P4 M t b a c _
  ·rw[e];grind
theorem YX(M:Net)(t b:Int)(a:s_ Aq)(p:D):RN M t b a p=.non\/∃w j,RN M t b a p=KJ w j:=by
 unfold RN
 split
 ·split
  ·split
   ·exact P4 _ _ _ _ _ _
   grind
  grind
 grind
section
variable {ss:s_ Slot}{n:Nat}{Pd:D->Nat->Prop}
theorem Tb(h:FE ss n Pd):Gu (EE Pd) n (ss++Uf 1 .no):=by
 let⟨w,N,x,t,b,p,rfl,G,i,o,D,y,E,q⟩:=h;have z:=y.okN i;have A:=VE z;have F:bE (enc ⟨N.ps,x⟩):=⟨A.1.mono (by decide),by have:=A.2.1;omega,by have:=A.2.2;omega⟩
 have r:∀{c:s_ Aq},enc ⟨N.ps,x⟩=enc ⟨N.ps,c⟩->c=x:=λ{c} e=>by
  refine(Oq ?_).symm;injection e with e;injection e with _ e;injection e with e;injection e
 unfold Gu
 rcases G with rfl|rfl
 ·refine⟨N,t,b,_,p,rfl,i,o,D,F,E,λd=>?_,λc B e H s u=>?_⟩
  ·refine λa=>q r_ λf B _ _ _ _=>?_
   rcases d with d|d
   ·rw[y.thinB]at d;cases d
   ·rw[if_pos rfl]
    cases p with
    |tup C=>exact absurd rfl (d C)
    |_=>rfl
  ·obtain rfl:=r e
   rcases YW ⟨N.ps,c⟩ t b B p with g|⟨w,k,g,_⟩
   ·rw[g]
    refine q q_ λf j _ _ l m=>?_;rw[if_pos rfl,Bg (l.trans s.symm) m u,g];rfl
   ·rw[g]
    refine λa=>q r_ λf j _ _ l m=>?_;rw[if_pos rfl,Bg (l.trans s.symm) m u,g];rfl
 ·refine⟨N,t,b,_,p,rfl,i,o,D,F,E,λd=>?_,λc f e H s u=>?_⟩
  ·refine λa=>q r_ λf B _ _ _ _=>?_
   rcases d with d|d
   ·rw[y.thinB]at d;cases d
   ·rw[if_neg (by decide)]
    cases p with
    |tup C=>exact absurd rfl (d C)
    |_=>rfl
  ·obtain rfl:=r e
   rcases YX ⟨N.ps,c⟩ t b f p with g|⟨w,k,g⟩
   ·rw[g]
    refine q q_ λv j l m _ _=>?_;rw[if_neg (by decide),Bg (l.trans s.symm) m u,g];rfl
   ·rw[g]
    refine λa=>q r_ λv j l m _ _=>?_;rw[if_neg (by decide),Bg (l.trans s.symm) m u,g];rfl
theorem P2{M:Net}{t b:Int}:∀{c:s_ Aq}{f:s_ D}{k:Nat},f.length=c.length->IA M t b k c f=.non->∀u∈c,∃d,MN M t b u d=.non
 |[],[],_,_,_=>λu h=>by cases h
 | v::c,d::f,k,a,h=>λu g=>by
  unfold IA at h
  rcases Ie M t b v d with e|⟨w,e⟩
  ·rw[e]at h
   rcases TW.mp g with rfl|g
   ·grind
   ·exact P2 (kj a) h u g
  ·rw[e]at h;cases h
 |[],_::_,_,a,_=>by cases a
 |_::_,[],_,a,_=>by cases a
theorem S9{N:Net}{a g:s_ Aq}{t b:Int}{p:D}(f:okN N)(i:thn N a)(j:1<=b)(l:b<=t)(m:g.Perm (Fk N a))(h:P1 ⟨N.ps,a⟩ t b g p=.non):IP N a t b:=λu o=>by
 by_cases c:u∈a
 ·exact Pe f i l j c
 ·cases p with
  | tup k=>
   have h:(if k.length=g.length then IA _ t b 0 g k else KJ _ 0)=.non:=h
   split at h
   ·rename_i e
    let⟨d,q⟩:=P2 e h u (m.mem_iff.mpr (jM.mpr ⟨o,decide_eq_true c⟩));exact SG (i.okN f).1 j q
   ·cases h
  |_=>cases h
theorem WI{d:D}(h:q_=Gm d):d=.non:=by cases d <;>first|rfl|cases h
theorem Ql(h:GB ss n Pd):Fz (EE Pd) n (ss++Uf 2 .no):=by
 let⟨N,f,t,b,A,B,rfl,a,v,x,J,g,Y,lB,O,P,q⟩:=h;have y:=x;let⟨l,Q,R,S⟩:=y;have z:=g.okN a;have C:=VE z;have sh:Rq (enc ⟨N.ps,f⟩):=Xl (B:=1000001) (by decide) C.1 (by have:=C.2.2;omega) (by have:=C.2.1;omega);let⟨E,m,u⟩:=E3 N.ts;let⟨T,K,U⟩:=E3 (Fk N f);unfold Fz;exists _,rfl,⟨by decide,by decide⟩
 have c:∀(w:Int) (L:s_ D) (F:E2),(w=0\/w=1)->(∀d∈L,fair d)->(∀i,F.nx n [.sh (enc N),.sh (TJ t b),.sh (enc ⟨N.ps,f⟩),.sh (.lst [.lst A,.lst B]),.sh (.int w),i])->∀i,BP (Ae 5) cL F L n [.sh (enc N),.sh (TJ t b),.sh (enc ⟨N.ps,f⟩),.sh (.lst [.lst A,.lst B]),.sh (.int w),i]:=by
  intro w L F G M H
  induction L with
  |nil=>exact H
  | cons d L o=>
   intro i;have o:=o λd V=>M d (Rs _ V);refine⟨w,N,f,t,b,d,rfl,G,a,v,x,g,M d Op,λr I=>?_⟩;have I:=I E T m u K U;cases r with
   |false=>exact CS (o _)
   | true=>
    have k:=WI I
    have p:IP N f t b:=by
     rcases G with rfl|rfl
     ·rw[if_pos rfl]at k;exact S9 a g l J K k
     ·rw[if_neg (by decide)]at k;rw[Mj a g l m u k];exact Mh a l J m
    refine CQ ⟨N,f,t,b,rfl,a,g,x,XX a g p,?_⟩
    rcases G with rfl|rfl
    ·exact o _
    ·rw[if_neg (by decide)]at k
     refine⟨_,rfl,sh,N,t,b,rfl,a,l,Q,R,S,λs W X=>?_⟩;obtain rfl:=Bg (W.trans m.symm) X u
     have e:(⟨N.ps,f⟩:Net)=sub N (Ag N t b [] s):=by
      show(⟨N.ps,f⟩:Net)=⟨N.ps,_⟩
      congr 1
      exact Mj a g l m u k
     rw[←e];exists _,rfl,sh;generalize VI (enc ⟨N.ps,f⟩)=Z;show if(!(Z==Z))=q_ then _ else _
     rw[beq_self_eq_true];exact CS (o _)
 exists _,AL (j:=0) rfl;refine c 0 A _ (.inl rfl) O (λi=>?_) _;exists _,AL (j:=1) rfl;exact c 1 B _ (.inr rfl) P (λi=>q) _
end
theorem RM{u v:Aq}:FN (Ai v) (Ai u)=decide (v=u):=by
 have:=IM (ts:=[v]) (t:=u)
 rw[show([v].map _).any _=(FN _ (Ai u)||false)from rfl]at this
 grind
theorem NW{N:Net}(ok:N.Ok){w:s_ Str}(e:w.length<=30)(h:∀x∈w,x∈N.ps):fine (10 ^ 29) (Dg w)/\Cq (Dg w)<=270/\D_ (Dg w)<=1:=by
 have c:CC _<=9*(w.map D.str).length:=Ik λd a=>by
  let⟨x,b,rfl⟩:=TM.mp a
  have:=(ok.names x (h x b)).2.1
  show x.length+1<=9;omega
 rw[No]at c;exists Dw λd a=>?_,by show CC _<=270;omega
 ·let⟨x,b,rfl⟩:=TM.mp a
  exact(Ef (ok.names x (h x b))).1.mono (by decide)
 ·have:ES (w.map D.str)<=0:=dps_le.mpr λd a=>by
   let⟨x,b,rfl⟩:=TM.mp a;exact On _
  show ES _+1<=1;omega
theorem VP{N:Net}(ok:N.Ok){a b:Str}{o:t_ (s_ Str)}(h:Way N a b o):O5 (.tup [.str "out",Fe o]):=by
 have f:=by show ∀c∈cs "out",c<1114112;decide +kernel
 cases o with
 |none=>exact⟨⟨f,trivial,trivial⟩,by decide,by decide⟩
 | some w=>
  let⟨d,r,_,_,_,_,g,e⟩:=h;let⟨i,j,k⟩:=NW ok g e;exists⟨f,i,trivial⟩,?_
  ·show 3+1+(Cq (Dg w)+1+0)<=1700
   omega
  ·show max 0 (max (D_ (Dg w)) 0)+1<=2
   omega
theorem MX{a:s_ D}(c:a.length<=40)(h:∀r∈a,O5 r):fine (10 ^ 29) (.tup a)/\Cq (.tup a)<=1701*a.length/\D_ (.tup a)<=3:=by
 have e:=dps_le.mpr λd b=>(h d b).2.2;exact⟨Dw λd b=>(h d b).1,Ik λd b=>lI (h d b).2.1,by show ES a+1<=3;omega⟩
section
variable {ss:s_ Slot}{n:Nat}{Pd:D->Nat->Prop}
theorem Td(h:KZ ss n Pd):EC (EE Pd) n (ss++Uf 4 .no):=by
 let⟨N,g,t,rfl,y,A,K,l8,T,U,C,hn,p⟩:=h;have ok:=y.1;have V:=PySem.sizeLine_eq;have W:=A.okN y;have lt:g.length<=N.ts.length:=sub_len (A5 A.2) (A5 ok.trise) A.1;have X:(g.map Ai).length=g.length:=No ..;have l1:1<=g.length:=List.length_pos_iff.mpr K;unfold EC;refine⟨_,AL (j:=1) rfl,_,AL (j:=1) rfl,_,_,rfl,rfl,(g.length:Int),by rw[X],by omega,by omega,by omega,λa a0 a1=>?_⟩;obtain⟨a,rfl⟩:∃k:Nat,a=(k:Int):=⟨a.toNat,by omega⟩;have O:a<g.length:=by omega
 obtain⟨u,P⟩:∃u,g[a]=u:=⟨_,rfl⟩;have L:u∈g:=P▸hV O;have i:=A.1 u L;let⟨Y,Z,_⟩:=ok.tin u i;exists Ai u,AL (by rw[gR,FM O,P];rfl);refine⟨_,AL (j:=0) rfl,_,AL (j:=1) rfl,by show(g.map Ai).length<=10000000;omega,?_⟩;refine Fi (λd=>!FN d (Ai u)) id (λQ=>∃s,Q=[.sh (Ai u),s]) _ _ _ _ ?_ ⟨_,rfl⟩ ?_
 ·rintro d hd Q m nx sk ⟨s,rfl⟩ h1 h2
  let⟨v,E,rfl⟩:=TM.mp hd;exists E7 ok (A.1 v E),E7 ok i;exact CB (λc=>h1 _ ⟨_,rfl⟩ c) λc=>h2 _ ⟨_,rfl⟩ (ig.mpr c)
 rw[gy,nE]
 have e:(g.map Ai).filter (λd=>!FN d (Ai u))=(g.filter λv=>!decide (v=u)).map Ai:=by
  rw[m8]
  congr 1
  exact kC λv _=>by show(!FN (Ai v) (Ai u))=_;rw[RM]
 rw[e];have B:thn N (g.filter λv=>!decide (v=u)):=⟨λv E=>A.1 v (jM.mp E).1,A.2.filter _⟩;generalize(g.filter λv=>!decide (v=u))=ts' at B;have w:=B.okN y;refine⟨z2,_,AL (j:=1) rfl,_,N.ts,rfl,rfl,by omega,λF H o2=>⟨rfl,?_⟩⟩;have R:F.Nodup:=H.nodup_iff.mpr (A5 ok.trise);let⟨f,S,I⟩:=List.append_of_mem (H.mem_iff.mpr i);have a2:f.length<N.ts.length:=by rw[←H.length_eq,I,eq,gS];omega
 exists F.map Ai,Ai u,f.length,rfl,rfl,(C6 ok λv E=>H.mem_iff.mp E).1,E7 ok i,⟨Ai u,by rw[gR,I,iC (On _),me];rfl,by rw[RM,decide_eq_true rfl]⟩,λm x M J=>?_
 ·rw[gR,I,iR M,FM M]at J
  have J:Ai f[m]=x:=gW J;rw[←J,RM];refine decide_eq_false λz=>?_;rw[I]at R;exact(iB.mp R).2.2 f[m] (hV M) u Op z
 refine⟨_,AL (j:=0) rfl,_,AL (j:=1) rfl,⟨N.ps,ts'⟩,u.a,u.b,rfl,w,Y,Z,λo ho=>⟨z2,?_⟩⟩;have G:=VP w.1 ho;have c1:=(P9 t p_ (P3 (f.length:Int)));have c2:=(P9 t (P3 ((f.length:Int)+1)) p_);have e1:(Dp.cutD t p_ (P3 (f.length:Int))++[D.tup [.str "out",Fe o]]).length=(Dp.cutD t p_ (P3 (f.length:Int))).length+1:=eq;exists z1,by show _+1<=sizeLine;omega,by omega,z2;refine p _ _ B ?_
 have q:∀r∈Dp.cutD t p_ (P3 (f.length:Int))++[D.tup [.str "out",Fe o]]++Dp.cutD t (P3 ((f.length:Int)+1)) p_,O5 r:=λr l=>by
  rcases gP.mp l with l|l
  ·rcases gP.mp l with l|l
   ·exact C r (c1.1 r l)
   ·rw[Re.mp l];exact G
  ·exact C r (c2.1 r l)
 have e2:(Dp.cutD t p_ (P3 (f.length:Int))++[D.tup [.str "out",Fe o]]++Dp.cutD t (P3 ((f.length:Int)+1)) p_).length<=29:=by rw[eq];omega
 let⟨g1,g2,g3⟩:=MX (by omega) q;exact⟨g1.mono (by decide),by omega,by omega⟩
theorem Rt{N:Net}{t b:Int}(f:okN N)(q:N.ps.length<=8):∀{o a:s_ Aq}{k:s_ D},PapGK 30 N t b a o k->∀r∈k,O5 r
 |[],_,[],_=>λr g=>by cases g
 | u::o,a,x::k,h=>λr g=>by
  rcases TW.mp g with rfl|g
  ·rcases h.1 with⟨_,p,rfl,i,s,_⟩|⟨_,w,d,rfl,v,_⟩
   ·let⟨j,y⟩:=SX s
    have j:(p.map D.int).length=N.ps.length:=j
    have z:∀d∈p.map D.int,fine (10 ^ 29) d:=λd e=>by
     let⟨x,l,rfl⟩:=TM.mp e;have B:0<=x:=of_decide_eq_true (y _ e);have C:=i x l;show x.natAbs<=10 ^ 29;omega
    have E:CC (p.map D.int)<=201*(p.map D.int).length:=Ik λd e=>by
     let⟨x,l,rfl⟩:=TM.mp e;exact On _
    have F:ES (p.map D.int)<=0:=dps_le.mpr λd e=>by
     let⟨x,l,rfl⟩:=TM.mp e;exact On _
    exists⟨by show ∀c∈cs "in",c<1114112;decide +kernel,Dw z,trivial⟩,?_
    ·show 2+1+(CC (p.map D.int)+1+0)<=1700
     omega
    ·show max 0 (max (ES (p.map D.int)+1) 0)+1<=2
     omega
   ·let⟨_,_,_,j,m⟩:=v
    let⟨A,G,H⟩:=NW f.1 j m;exists⟨by show ∀c∈cs "out",c<1114112;decide +kernel,A,trivial⟩,?_
    ·show 3+1+(Cq (Dg w)+1+0)<=1700
     omega
    ·show max 0 (max (D_ (Dg w)) 0)+1<=2
     omega
  ·exact Rt f q h.2 r g
 |[],_,_::_,h=>h.elim
 |_::_,_,[],h=>h.elim
end
theorem Oh{N:Net}{e c:s_ Aq}{t b:Int}{k:Nat}(i:k<=1000)(f:okN N)(l:thn N e){a:s_ (s_ Str)}(h:PapOkK k ⟨N.ps,e⟩ t b c a):P1 ⟨N.ps,e⟩ t b c (.tup (a.map Dg))=.non:=by
 have m:∀{c:s_ _}{a:s_ _}{j:Nat},PapOkK k ⟨N.ps,e⟩ t b c a->IA _ t b j c (a.map _)=.non:=λ{c}=>by
  induction c with
  |nil=>intro a j h;cases a <;>rfl
  | cons u c n=>
   intro a j h
   match a,h with
   |w::a,⟨⟨d,o,g⟩,h⟩=>
    rw[g7];unfold IA;rw[MM (l.okN f) (o.up i) g];exact n h
 show(if(a.map _).length=c.length then IA _ t b 0 c _ else KJ _ 0)=.non;rw[No,if_pos h.len];exact m h
def sml(d:D):Prop:=fine (10 ^ 29) d/\Cq d<=25000/\D_ d<=3
theorem sml.fair{d:D}(h:sml d):fair d:=⟨h.1.mono (by decide),by have:=h.2.1;omega,by have:=h.2.2;omega⟩
theorem HZ{M:Net}{t b:Int}{k:Nat}(e:k<=30)(ok:M.Ok):∀{f:s_ Aq}{a:s_ (s_ Str)},PapOkK k M t b f a->∀d∈a.map Dg,O5 d
 |[],[],_=>λd h=>by cases h
 | u::f,w::a,⟨⟨_,g,_⟩,h⟩=>λd c=>by
  rcases TW.mp c with rfl|c
  ·let⟨i,j,l⟩:=NW ok (gc g.2.2.2.1 e) g.2.2.2.2
   exact⟨i,by omega,by omega⟩
  ·exact HZ e ok h d c
 |[],_::_,h=>h.elim
 |_::_,[],h=>h.elim
theorem Fb{rs:s_ D}(c:rs.length<=14)(h:∀r∈rs,O5 r):sml (.tup rs):=by
 let⟨a,d,b⟩:=MX (by omega) h;exact⟨a,by omega,b⟩
noncomputable abbrev S6 (N:Net) (t b:Int) (a:s_ Aq) (c:s_ D) (ow:D) (r:s_ Slot):s_ Slot:=.no::.fd::.sh (enc N)::.sh (TJ t b)::.sh (enc (sub N (Ag N t b [] a)))::.sh (.tup c)::.sh ow::r
section
variable {N:Net}{t b:Int}{ord:s_ Aq}{rs:s_ D}{ow:D}{s7:Slot}
theorem cN(f:okN N)(l8:N.ps.length<=8)(J:N.ts.length<=14)(w:Oe t b)(bt:b<=t)(ho:sml ow)(hr:sml (.tup rs)){s:E2}{n:Nat}(hn:70<=n)(K:∀x L i k h,n - 70<=x->s.nx x (S6 N t b ord rs ow [s7,L,i,k,h])){L i k h:Slot}:
  WC s n (S6 N t b ord rs ow [s7,L,i,k,h]):=by
 have a5:=PySem.sizeLine_eq;have C:N.ps.length<=24:=by omega
 let⟨b0,bb,t0,tt⟩:=w;have w:Oe t b:=⟨b0,bb,t0,tt⟩;have hT:thn N (sub N (Ag N t b [] ord)).ts:=Il f _;unfold WC;refine⟨N,t,b,rfl,f,w,by omega,λa S u a6=>⟨z2,?_⟩⟩;refine⟨3,rfl,by decide,by decide,by omega,λr r0 r1=>?_⟩
 have l:∀a:s_ Aq,thn N a->ZE s (S - 1) (S6 N t b ord rs ow [s7,.sh (enc ⟨N.ps,a⟩),i,k,h]):=λa u=>by
  let⟨o1,x1,x2⟩:=E3 N.ts;let⟨o,G,M⟩:=E3 (Fk N a);have ll:o.length<=14:=by rw[G.length_eq];exact gc (iX _ _) J
  have next:∀Y:D,sml Y->(∀o:s_ Aq,o.Perm (Fk N a)->Bo o->Gm (P1 ⟨N.ps,a⟩ t b o Y)=!Gm Y)->ZF s (S - 1) (S6 N t b ord rs ow [s7,.sh (enc ⟨N.ps,a⟩),i,.sh Y,h]):=λY T c=>by
   have p:∀(A B:s_ D) (x:Nat),A.length<=100->B.length<=100->(∀d∈A,fair d)->(∀d∈B,fair d)->n - 70<=x->SN s x (S6 N t b ord rs ow [s7,.sh (enc ⟨N.ps,a⟩),i,.sh Y,.sh (.lst [.lst A,.lst B])]):=λA B x H lB v hB O=>by
    exists N,a,t,b,A,B,rfl,f,C,w,bt,u,H,lB,v,hB;refine⟨rfl,0,N,a,t,b,Y,rfl,.inl rfl,f,C,w,u,T.fair,λq I=>?_⟩;have I:=I o1 o x1 x2 G M;rw[if_pos rfl,c o G M]at I;rw[I];show if(!((!Gm Y)==(!Gm Y)))=q_ then _ else _
    rw[beq_self_eq_true];exact K _ _ _ _ _ O
   let⟨U,y2,y3⟩:=T;let⟨V,w2,w3⟩:=ho;let⟨W,g2,g3⟩:=hr;refine⟨(by decide:11<12),rfl,by decide,?_⟩;refine⟨ow,10 ^ 29,3,rfl,by decide,V,by decide,by decide,by omega,by omega,λE m1 a1 a2 a3 a4=>⟨(by decide:3<=1000),?_⟩⟩;refine⟨.tup rs,10 ^ 29,4,rfl,by decide,W,by decide,by decide,by omega,by omega,λy m2 X c2 c3 c4=>⟨(by decide:2<=1000),rfl,?_⟩⟩;have f0:fair Y:=sml.fair ⟨U,y2,y3⟩;have f1:fair ow:=sml.fair ⟨V,w2,w3⟩;have f2:fair E:=⟨a1.mono (by decide),by omega,by omega⟩;have Z:fair (.tup rs):=sml.fair ⟨W,g2,g3⟩;have f4:fair y:=⟨X.mono (by decide),by omega,by omega⟩
   have g:∀(A:s_ D) (m:Nat),A.length<=100->(∀d∈A,fair d)->n - 57<=m->A.length<=1001/\(AW (AV (HL r_) (AQ BG (AB (Az 1) (AB (AG (wC (D.int 2))) AO))) (wC (D.int 0)))) m (S6 N t b ord rs ow [s7,.sh (enc ⟨N.ps,a⟩),i,.sh Y,.no]) λb5 n5=>
     if b5=q_ then ∃d,[D.tup rs,y][1]?=P3 d/\Lz [.fd,.sh d,.sh (.int 4)] n5 λe n6=>SN s n6 (S6 N t b ord rs ow [s7,.sh (enc ⟨N.ps,a⟩),i,.sh Y,.sh (.lst [.lst A,.lst ([.tup rs,y]++[e])])])
     else SN s n5 (S6 N t b ord rs ow [s7,.sh (enc ⟨N.ps,a⟩),i,.sh Y,.sh (.lst [.lst A,.lst [.tup rs,y]])]):=λA m H v hm=>by
    refine⟨by omega,2,rfl,by decide,by decide,by omega,λr r0 r1=>?_⟩;refine CB (λ_=>⟨y,rfl,y,10 ^ 29+1,4,rfl,by decide,X,by decide,by decide,by omega,by omega,λe3 m3 P d2 d3 d4=>?_⟩) λ_=>?_
    ·refine p A _ m3 H (show 3<=100 by decide) v (λd c=>?_) (by omega)
     simp only[mj,gy,TW,gU,or_false]at c
     rcases c with rfl|rfl|rfl
     ·exact Z
     ·exact f4
     ·exact⟨P.mono (by decide),by omega,by omega⟩
    ·refine p A _ _ H (show 2<=100 by decide) v (λd c=>?_) (by omega)
     simp only[TW,gU,or_false]at c
     rcases c with rfl|rfl
     ·exact Z
     ·exact f4
   have v:∀d∈[Y,ow,E],fair d:=λd c=>by
    simp only[TW,gU,or_false]at c
    rcases c with rfl|rfl|rfl
    ·exact f0
    ·exact f1
    ·exact f2
   cases hy:Gm Y with
   |true=>exact g [Y,ow,E] m2 (show 3<=100 by decide) v (by omega)
   | false=>
    refine⟨Y,10 ^ 29,3,rfl,by decide,U,by decide,by decide,by omega,by omega,λQ m4 P d2 d3 d4=>⟨Q,rfl,?_⟩⟩
    exact g [Y,ow,E,Q] m4 (show 4<=100 by decide) (λd c=>by
     rcases gP.mp (show d∈[Y,ow,E]++[Q]from c)with c|c
     ·exact v d c
     ·rw[Re.mp c];exact⟨P.mono (by decide),by omega,by omega⟩) (by omega)
  refine⟨N,a,t,b,rfl,f,u,w,λws F a0=>?_,λa7=>?_⟩
  ·have hw:=F o G M
   refine next (.tup (ws.map Dg)) (Fb (by rw[No,hw.len];exact ll) (HZ (show N.ps.length<=30 by omega) (u.okN f).1 hw)) λR q1 q2=>?_;rw[Oh (show N.ps.length<=1000 by omega) f u (F R q1 q2)];rfl
  ·exact next .non ⟨trivial,Tk _,Tk _⟩ λ_ _ _=>rfl
 show ∃z,atI [enc ⟨N.ps,a⟩,enc (sub N (Ag N t b [] ord))] (if(r==0)=q_ then 1 else 0)=P3 z/\_;cases r==0 with
 |true=>exact⟨_,AL (j:=1) rfl,l _ hT⟩
 |false=>exact⟨_,AL (j:=0) rfl,l _ u⟩
theorem Yz(g:okN N)(r:N.ps.length<=8)(i:N.ts.length<=14)(s:Oe t b)(u:b<=t)(v:sml ow)(w:sml (.tup rs)){o:E2}{n:Nat}(y:350<=n)(q:∀p,o.rt (.bl q_) p){e f a c:Slot}:
  SO o n (S6 N t b ord rs ow [s7,e,f,a,c]):=by
 exists _,rfl,⟨by decide,by decide⟩;refine JE (λk m j=>70*k<=m/\∃s7 e f a c,j=(S6 N t b _ rs ow [s7,e,f,a,c])) ?_ ?_ _ _ _ ⟨by assumption,_,_,_,_,_,rfl⟩
 ·rintro m j ⟨x,s7,e,f,a,c,rfl⟩
  exact q _
 ·rintro k d m j z ⟨x,s7,e,f,a,c,rfl⟩ l
  exact cN g r i s u v w (by omega) λp e f a c h=>l _ _ ⟨by omega,_,_,_,_,_,rfl⟩
theorem cM (a:okN N) (J:N.ps.length ≤ 8) (h:N.ts.length ≤ 14) (y:Oe t b) (I:b ≤ t) (Q:sml ow) (K:rs.length=N.ts.length) (C:∀ r ∈ rs,O5 r) {A:E2}{n:Nat} (hn:400 ≤ n) (q:∀ Y,A.rt (.bl q_) Y) {u v i l:Slot}:
    WB A n (S6 N t b ord rs ow [s7,u,v,i,l]):=by
  have E:N.ps.length ≤ 24:=by omega
  have R:thn N (sub N (Ag N t b [] ord)).ts:=Il a _;have S:sml (.tup rs):=Fb (by omega) C;have Z:=y;unfold WB;exists _,AL (j:=1) rfl,z0,(C6 a.1 R.1).1,CP (B:=0) (d:=.tup []) (by decide) trivial (by decide)
  obtain⟨g,L,w⟩:∃ g:Bool,(!FN (.tup ((sub N (Ag N t b [] ord)).ts.map Ai)) (.tup []))=g ∧ (g=q_ → (sub N (Ag N t b [] ord)).ts ≠ []):=by
    refine⟨_,rfl,λz e=>?_⟩;rw[e]at z;cases z
  have L:(!FN (.tup ((sub N (Ag N t b [] ord)).ts.map Ai)) (.tup []))=g:=L
  have F:∀ c:Nat,c ≤ 3 → (sub N (Ag N t b [] ord)).ts ≠ [] → BP (Ae 7) SQ {A with nx:=SO A} (Dq 0 c) n (S6 N t b ord rs ow [s7,u,v,i,l]):=λc hc M=>by
    refine JE (λk m O=>350 + 5 * k ≤ m ∧ ∃ s7 u v,O=(S6 N t b ord rs ow [s7,u,v,i,l])) ?_ ?_ _ _ _ ⟨by rw[CZ];omega,_,_,_,rfl⟩
    · rintro m O ⟨hm,s7,u,v,rfl⟩
      exact Yz a J h y I Q S (by omega) q
    · rintro k d m O nx ⟨hm,s7,u,v,rfl⟩ G
      unfold SQ;refine⟨N,_,rs,rfl,a,R,M,J,h,K,C,by omega,λo p s T=>⟨rfl,rfl,?_⟩⟩;refine⟨N,o,t,b,rfl,a,s,y,λws P U=>?_,λa0=>?_⟩
      · let⟨V,W,p2⟩:=E3 (Fk N o)
        have X:=P V W p2;have ll:V.length ≤ 14:=by rw[W.length_eq];exact gc (iX _ _) h
        have hY:=(Fb (rs:=ws.map Dg) (by rw[No,X.len];exact ll) (HZ (show N.ps.length ≤ 30 by omega) (s.okN a).1 X)).fair;exact⟨z1,z1,z2,N,o,t,b,[_],[p],rfl,a,E,y,I,s,(show 1 ≤ 100 by decide),(show 1 ≤ 100 by decide),λd x=>(by rw[Re.mp x];exact hY),λd x=>(by rw[Re.mp x];exact T),G _ _ ⟨by omega,_,_,_,rfl⟩⟩
      ·exact⟨z1,z1,z2,N,o,t,b,[_],[p],rfl,a,E,y,I,s,(show 1 ≤ 100 by decide),(show 1 ≤ 100 by decide),λd x=>(by rw[Re.mp x];exact sml.fair ⟨trivial,Tk _,Tk _⟩),λd x=>(by rw[Re.mp x];exact T),G _ _ ⟨by omega,_,_,_,rfl⟩⟩
  have H:∀ g:Bool,(g=q_ → (sub N (Ag N t b [] ord)).ts ≠ []) → Pz [.bl g] λz=>Cf (.int 3) z λz=>∃ j,[z]=[D.int j] ∧ (-2 ^ 62 ≤ j ∧ j < 2 ^ 62) ∧ BP (Ae 7) SQ {A with nx:=SO A} (Dq 0 j.toNat) n (S6 N t b ord rs ow [s7,u,v,i,l]):=λg w=>by
   cases g with
   |true=>exact⟨.inl ⟨by decide,by decide⟩,_,rfl,⟨by decide,by decide⟩,F 3 (On _) (w rfl)⟩
   |false=>exact⟨.inl ⟨by decide,by decide⟩,_,rfl,⟨by decide,by decide⟩,Yz a J h y I Q S (by omega) q⟩
  exact H _ λz=>w (L ▸ z)
end
theorem Qo:M6 {nx:=λ_ _=>False,rt:=λd _=>d=.bl q_} 3000 (.no::.fd::Uf 10 .no):=by
 unfold M6;refine⟨8,14,rfl,by decide,by decide,by decide,λN R ok S A g G=>?_⟩;have a:okN N:=⟨ok,by omega,by omega⟩;refine⟨rfl,by omega,λt b T p B C H=>?_⟩;have h:Oe t b:=⟨p,by omega,by omega,C⟩;have i:N.ps.length<=24:=by omega
 refine⟨N,t,b,rfl,a,p,by omega,by omega,C,λI f m=>?_⟩;refine⟨N,t,b,rfl,a,h,λc D J K e=>?_⟩;obtain rfl:=Bg (J.trans f.symm) K m;have j:thn N (N.ts.filter λu=>decide (u∈Ag N t b [] c)):=Il a _;have k:IP N (N.ts.filter λu=>decide (u∈Ag N t b [] c)) t b:=Mh a p B f;have l:=Rt a A e;have q:D.length=N.ts.length:=e.len.trans f.length_eq;have L:sml (.tup D):=Fb (by omega) l;let⟨n,o,s⟩:=E3 (Fk N (N.ts.filter λu=>decide (u∈Ag N t b [] c)));refine⟨N,_,t,b,rfl,a,j,h,λM v _=>?_,fun⟨u,hu,hn⟩=>absurd (k u (jM.mp hu).1) hn⟩;have w:=v n o s;have O:n.length<=14:=by rw[o.length_eq];exact gc (iX _ _) g
 have E:sml (.tup (M.map Dg)):=Fb (by rw[No,w.len];exact O) (HZ (show N.ps.length<=30 by omega) (j.okN a).1 w);refine⟨0,N,_,t,b,_,rfl,.inl rfl,a,i,h,j,E.fair,λr x=>?_⟩;have F:=x c n f m o s;rw[if_pos rfl,Oh (show N.ps.length<=1000 by omega) a j w]at F;rw[show r=q_ from F];refine⟨1,N,_,t,b,_,rfl,.inr rfl,a,i,h,j,L.fair,λP y=>?_⟩;have z:=y c n f m o s;rw[if_neg (by decide)]at z;have Q:=RI a f m e;rw[show(⟨N.ps,N.ts.filter λu=>decide (u∈Ag N t b [] c)⟩:Net)=sub N (Ag N t b [] c)from rfl,Q]at z;rw[show P=q_ from z];exact cM a A g h B E q l (by omega) λ_=>rfl
end Nt
namespace K15
open L2 Dp Nt
section
variable (P:Program)(w:World)(K:Frag)(mg:Str->t_ Value)(base:Heap)
abbrev HU:Prop:=Got P w K mg base "is_whole" 1 ["thing"] .sh Lx
abbrev Bv:Prop:=Got P w K mg base "is_tuple_of" 1 ["count","thing"] .sh C_
abbrev Js:Prop:=Got P w K mg base "is_rising" 1 ["things"] .sh KS
abbrev JS:Prop:=Got P w K mg base "rank_of" 1 ["tie"] .sh NC
abbrev D5:Prop:=Got P w K mg base "order_of" 4 ["ties"] .fr DN
abbrev HQ:Prop:=Got P w K mg base "steps_of" 1 ["net"] .sh Oa
abbrev RY:Prop:=Got P w K mg base "only" 1 ["net","ties"] .sh GC
abbrev Jr:Prop:=Got P w K mg base "is_tie_of" 2 ["net","thing"] .sh Ym
abbrev JT:Prop:=Got P w K mg base "is_thin" 3 ["net","thing"] .sh QQ
abbrev HV:Prop:=Got P w K mg base "ahead_of" 2 ["net","tie"] .sh GD
abbrev HS:Prop:=Got P w K mg base "left_out" 5 ["net","thin"] .fr ND
abbrev F7:Prop:=Got P w K mg base "length_of" 2 ["net","thing"] .sh W9
abbrev Em:Prop:=Got P w K mg base "length_between" 3 ["net","a","b","thing"] .sh S1
abbrev IT:Prop:=Got P w K mg base "nearest_of" 1 ["waiting","found"] .sh S0
abbrev FC:Prop:=Got P w K mg base "least_ways" 2 ["net","start"] .fr Ly
abbrev IS:Prop:=Got P w K mg base "way_of" 3 ["net","a","b"] .sh Um
abbrev IU:Prop:=Got P w K mg base "are_prices" 2 ["net","thing"] .sh KU
abbrev F6:Prop:=Got P w K mg base "price_gap" 1 ["net","prices","a","b"] .sh W_
abbrev NA:Prop:=Got P w K mg base "is_fair" 3 ["net","thing"] .sh S4
abbrev Gw:Prop:=Got P w K mg base "prices_from" 3 ["net","place","most"] .sh Ob
abbrev ED:Prop:=Got P w K mg base "is_within" 1 ["length","times","number"] .sh GS
abbrev F8:Prop:=Got P w K mg base "least_beyond" 1 ["times","number"] .sh GV
abbrev HR:Prop:=Got P w K mg base "near_way" 4 ["net","times","tie"] .sh HW
abbrev JR:Prop:=Got P w K mg base "thinned" 5 ["net","times"] .sh CJ
abbrev F9:Prop:=Got P w K mg base "greedy_paper" 6 ["net","times"] .sh GU
abbrev IR:Prop:=Got P w K mg base "ways_paper" 6 ["net","times","thin"] .sh GR
abbrev F4:Prop:=Got P w K mg base "way_fault" 4 ["net","times","tie","thing"] .sh NB
abbrev F5:Prop:=Got P w K mg base "prices_fault" 4 ["net","times","tie","thing"] .sh Sz
abbrev F_:Prop:=Got P w K mg base "greedy_fault" 5 ["times","thin","tie","entry"] .sh S2
abbrev EG:Prop:=Got P w K mg base "is_greedy_entry" 2 ["thing"] .sh S3
abbrev Gx:Prop:=Yp P w K mg base "lets_greedy" 6 ["net","times","thin","paper"] .sh IY
abbrev Jq:Prop:=Yp P w K mg base "lets_ways" 6 ["net","times","thin","paper"] .sh KY
abbrev BU:Prop:=Got P w K mg base "_law_next" 1 ["_law_feed_here","_law_many"] .sh BG
abbrev Gz:Prop:=Got P w K mg base "_law_places" 2 ["_law_feed_here","_law_many"] .fr KW
abbrev G0:Prop:=Got P w K mg base "_law_length" 2 ["_law_feed_here","_law_scale"] .sh Yo
abbrev Lw:Prop:=Got P w K mg base "_law_net" 3 ["_law_feed_here","_law_most","_law_ties"] .sh Yn
abbrev IV:Prop:=Got P w K mg base "_law_times" 2 ["_law_feed_here"] .sh OY
abbrev DM:Prop:=Got P w K mg base "_law_in_order" 1 ["_law_ties"] .fr DN
abbrev FD:Prop:=Got P w K mg base "_law_least" 1 ["_law_ties","_law_place"] .fr DA
abbrev D6:Prop:=Got P w K mg base "_law_thinned" 2 ["_law_net_here","_law_times_here"] .sh CJ
abbrev Lv:Prop:=Got P w K mg base "_law_odd" 2 ["_law_feed_here","_law_thing"] .sh W8
abbrev Jt:Prop:=Got P w K mg base "_law_bent" 7 ["_law_feed_here","_law_thing","_law_deep"] .sh (JU 4)
abbrev En:Prop:=Got P w K mg base "_law_some_thin" 3 ["_law_feed_here","_law_net_here","_law_times_here"] .sh OZ
abbrev GA:Prop:=Got P w K mg base "_law_lets" 7 ["_law_which","_law_net_here","_law_times_here","_law_thin","_law_paper"] .sh FE
abbrev Gy:Prop:=Got P w K mg base "_law_within" 2 ["_law_net_here","_law_times_here","_law_thin"] .sh IX
abbrev IW:Prop:=Got P w K mg base "_law_right" 8 ["_law_net_here","_law_times_here","_law_thin","_law_papers"] .sh GB
abbrev FJ:Prop:=Got P w K mg base "_law_one_less" 4 ["_law_feed_here","_law_net_here","_law_told","_law_greedy"] .sh KZ
end
section
variable {P:Program}{w:World}{K:Frag}{mg:Str->t_ Value}{base:Heap}
variable {f:Addr}{fd:FuncData}
theorem Jw:Ac ["self","word","number"] ["self","word","number"] (AM B4):=by constructor <;>first|rfl|decide +kernel
theorem J7{f C U:Ch}{fd:hU}(c:XC K "NoPaper" C U)(F:Fun K "__init__" "NoPaper.__init__" B4 f fd):A3 P w K mg base CA 1 f fd ["self","word","number"] (Kp C "word" "number"):=by
 refine F.ok Jw (λj H Q E h=>by let⟨a,b,g,rfl,_⟩:=h;rfl) (λk A i s H j Q E o h=>?_);let⟨a,b,g,rfl,l,m⟩:=h;exists _,BD (cv c c.nw (pv 0) (pv 1) rfl) (CL (cu c c.nn (pv 0) (pv 2) rfl));refine⟨b,rfl,V.ref a,rfl,a,rfl,l,λd n e=>⟨g,rfl,V.ref a,rfl,a,d,[(("word":Str),b)],rfl,AX,?_,(by decide:1<1000),?_⟩⟩
 ·rw[AT e,AX]
 ·rw[show FL "number" g [(("word":Str),b)]=[(("word":Str),b),(("number":Str),g)]from by unfold FL;rw[if_neg (by decide)];rfl]
  exact m d n e
theorem O3:Ac ["thing"] ["thing"] (AM G9):=by walk_at "s"
theorem PY(T:Txt K mg)(F:Fu K "is_whole" G9 f fd):A3 P w K mg base CA 1 f fd ["thing"] (DC K .sh Lx 1):=
 EZ F O3 (λa=>(AK (Ab (Ft (E8 SR (dv 0) rfl T.Gaa rfl T.Gai (by decide +kernel)) (HM (ay (E8 WD (dv 0) rfl T.Gaa rfl T.Gao (by decide +kernel)))))))) O9
theorem Kr:Ac ["count","thing"] ["count","thing"] (AM EK):=by walk_at "s"
theorem LA(T:Txt K mg)(F:Fu K "is_tuple_of" EK f fd):A3 P w K mg base CA 1 f fd ["count","thing"] (DC K .sh C_ 2):=
 EZ F Kr (λa=>(AK (Ab (Ft (E8 kit_tuple (dv 1) rfl T.Gaa rfl T.Gab (by decide +kernel)) (HM (Cj CH EX (Ao BM DY rfl T.Gac PySem.boot_len (AR (dv 1) AZ)) (dv 0) (Ah _))))))) Ky
theorem NU:Ac ["things"] ["things"] (AM FX):=by walk_at "s"
theorem Ny(T:Txt K mg)(F:Fu K "is_rising" FX f fd):A3 P w K mg base CA 1 f fd ["things"] (DC K .sh KS 1):=
 EZ F NU (λa=>(AK (Ab (Ao (Eh rfl) M_ rfl T.Gag jL (AR (QT [("ahead":Str),("behind":Str)] [p_,p_] (Yc rfl T.Gan (AR (dv 0) (AR (DV GX DX (dv 0) (BZ AE) By) AZ))) (ET rfl (A6 (Af (i:=0) (show hZ [("ahead":Str),("behind":Str)] by decide +kernel) rfl (T0 rfl)) (A6 (Af (i:=1) (show hZ [("ahead":Str),("behind":Str)] by decide +kernel) rfl (T0 rfl)) C2))) Bz (Cj (Fh a) Jp (dv 0) (dv 1) (Ah _)) (by kernel_rfl)) AZ))))) Ng
theorem Qg:Ac ["tie"] ["tie"] (AM Iu):=by walk_at "s"
theorem Q3(T:Txt K mg)(F:Fu K "rank_of" Iu f fd):A3 P w K mg base CA 1 f fd ["tie"] (DC K .sh NC 1):=
 EZ F Qg (λa=>(AK (Ab (A7 (AD (Aa AN Am (dv 0) AE) (AD (Aa AN Am (dv 0) AE) (AD (Aa AN Am (dv 0) AE) AS))))))) Qm
theorem O1:Ac ["ties"] ["ties"] (AM G6):=by walk_at "s"
theorem PR(T:Txt K mg)(a:JS P w K mg base)(F:Fu K "order_of" G6 f fd):A3 P w K mg base CA 4 f fd ["ties"] (DC K .fr DN 1):=
 EZ F O1 (λb=>(AK (Ab (Wl a (b.mono (by decide)) rfl T.Gae rfl (dv 0))))) O7
theorem n9:Ac ["net","steps","place","a","b","length"] ["net"] (AM G5):=⟨rfl,rfl,rfl,by decide +kernel,rfl,by decide +kernel,by decide +kernel⟩
theorem PQ{f:Ch}{fd:hU}(F:Fun K "steps_of" "steps_of" G5 f fd):A3 P w K mg base CA 1 f fd ["net"] (DC K .sh Oa 1):=by
 refine F.ok (k:=0) n9 (λvs H Q E h=>h.1) (λc4 A b2 s H vs Q E hr h=>?_);let⟨hl,F0,U,V',M,n,ss,Pd,ra,⟨N,rfl,ok,lp,lt,p⟩,q⟩:=h;let⟨b3,fU,uV,vM,b4,pa⟩:=ra;cases pa with
 |cons r1 pa=>
 cases pa;let⟨v,e1,h1⟩:=r1.1;cases e1;let⟨an,vs,rfl,hn,v1,r,rfl,hp,v2,r2,rfl,ht,e2⟩:=h1;cases(show r2=[]from e2);let⟨ap,us,rfl,b5,a4⟩:=hp;let⟨a1,ws,rfl,b6,a5⟩:=ht;have nd:=n9.nd;have hu:=LP hr;have c5:=PySem.sizeLine_eq;have a6:us.length=N.ps.length:=by rw[a4.length,No]
 have a7:ws.length=N.ts.length:=by rw[a5.length,No]
 exists _,BD (E4 (i:=1) nd rfl (T0 rfl) PL)
  (BD (K3 gu rfl (Vk (DQ ix_tup (pv 0) A1 (λ_ _=>rfl))) (Ho (i:=2) nd rfl (T0 rfl)) (CL (KG hu (pv 1) (pv 2) PL rfl)))
  (BD (K3 gu rfl (Vk (DQ ix_tup (pv 0) A1 (λ_ _=>rfl))) (Vn rfl (Hm (Ho (i:=3) nd rfl (T0 rfl)) (Hm (Ho (i:=4) nd rfl (T0 rfl)) (Hm (Ho (i:=5) nd rfl (T0 rfl)) R9))))
   (BD (KG hu (Nk hu (pv 1) (pv 3) (λ_ _=>rfl)) (pv 4) (pv 5) rfl) (CL (KG hu (Nk hu (pv 1) (pv 4) (λ_ _=>rfl)) (pv 3) (pv 5) rfl))))
  (CL (HD (Vs (pv 1))))))
 refine λd hd=>?_;have B:∀b o,H b=P3 o->A2 H d (.dK []) b=P3 o:=λb o e=>by rw[AT (Ax e hd)];exact e
 have a8:∀c:Hp,(∀b o,H b=P3 o->c b=P3 o)->SqT K c an [.ref ap,.ref a1]:=λc o=>SqT.of (o _ _ hn);have a9:∀c:Hp,(∀b o,H b=P3 o->c b=P3 o)->SqT K c ap us:=λc o=>SqT.of (o _ _ b5);have b0:∀c:Hp,(∀b o,H b=P3 o->c b=P3 o)->SqT K c a1 ws:=λc o=>SqT.of (o _ _ b6);exists _,rfl,an,_,0,_,rfl,rfl,a8 _ B,rfl,ap,rfl,⟨_,a9 _ B⟩;refine SW (xs:=us) (λi I c=>∃(u:s_ (Str×Ch)) (J L O R:t_ V),I=[P3 (.ref an),P3 (.ref d),J,L,O,R]/\u.map (·.1)=N.ps.take i/\Stp H d u (λ_=>[]) c) ?_ (λi I c S ⟨u,J,L,O,R,e,G,j⟩=>a9 _ j.old) ?_ ?_
 ·exact⟨[],_,_,_,_,rfl,rfl,B,hd,AX,(λx C=>by cases C),h_,h_⟩
 ·rintro i x I c C ⟨u,J,L,O,R,rfl,G,j⟩
  have S:i<N.ps.length:=by rw[←a6];exact(ZB.mp C).1
  let⟨x',D,T⟩:=a4.get (i:=i) (d:=.str N.ps[i]) (by rw[gR,FM S];rfl);rw[C]at D;cases D;let⟨rfl,_⟩:=T;intro q hq;have c6:u.length<=i:=by have:=congrArg kY G;rw[No,jA]at this;omega
  have nq:d≠q:=λe=>by rw[←e,j.top]at hq;cases hq
  have c3:(u.map λx=>((.inr x.1:Key),V.ref x.2)).length=u.length:=No ..;exists _,rfl,_,rfl,d,_,rfl,DPut.k (k:=.inr N.ps[i]) (by rw[AT nq];exact j.top) (by omega);refine⟨u++[(N.ps[i],q)],_,_,_,_,rfl,?_,j.more hq ?_ rfl⟩
  ·rw[hX,G,List.take_succ,FM S];rfl
  ·rw[G];exact Q6 (NY ok.rise) S
 ·rintro I c ⟨u,J,L,O,R,rfl,G,j⟩
  rw[a6,lJ]at G;exists _,rfl,an,_,1,_,rfl,rfl,a8 _ j.old,rfl,a1,rfl,⟨_,b0 _ j.old⟩;refine SW (xs:=ws) (λi I c=>∃(J L O R:t_ V),I=[P3 (.ref an),P3 (.ref d),J,L,O,R]/\Stp H d u (λp=>(EY (N.ts.take i) p).map kv) c) ⟨_,_,_,_,rfl,j⟩ (λi I c S ⟨J,L,O,R,e,j⟩=>b0 _ j.old) ?_ ?_
  ·rintro i x I c C ⟨J,L,O,R,rfl,j⟩
   have S:i<N.ts.length:=by rw[←a7];exact(ZB.mp C).1
   let⟨x',D,T⟩:=a5.get (i:=i) (d:=Ai N.ts[i]) (by rw[gR,FM S];rfl);rw[C]at D;cases D;have Y:N.ts[i]∈N.ts:=hV S;have l:N.ts.take (i+1)=N.ts.take i++[N.ts[i]]:=by rw[List.take_succ,FM S];rfl
   have Z:(N.ts.take (i+1)).Pairwise CG:=ok.trise.sublist (List.take_sublist _ _);have a0:∀s∈N.ts.take (i+1),cs s.a<cs s.b:=λs hs=>(ok.tin s (kO hs)).2.2.1;rw[l]at Z a0;have z:=Wd Z a0;have b7:(N.ts.take i).length<=1000:=by rw[jA];omega
   generalize N.ts[i]=t at T Y l z;generalize N.ts.take i=ts at l z j b7;let⟨m1,m2,m3,_⟩:=ok.tin t Y;have W:t.a≠t.b:=λe=>by rw[e]at m3;exact kr _ m3
   let⟨y,m,tl⟩:=t;let⟨tt,c7,rfl,b8,b9⟩:=T;let⟨va,r3,rfl,⟨rfl,_⟩,vb,r4,rfl,⟨rfl,_⟩,vl,r5,rfl,rfl,e5⟩:=b9;cases(show r5=[]from e5);rw[←G]at m1 m2;let⟨⟨xa,pa⟩,ha,ea⟩:=TM.mp m1;let⟨⟨xb,pb⟩,hb,eb⟩:=TM.mp m2;have c0:y=xa:=ea.symm;have c1:m=xb:=eb.symm;subst c0 c1;clear ea eb;replace W:y≠m:=W;replace z:m∉(EY ts y).map (·.1)/\y∉(EY ts m).map (·.1):=z;have ga:=DGet.k (k:=.inr y) j.top;rw[J_ j.nms ha]at ga;have l1:=SH ts y;exists tt,_,rfl,SqT.of (j.old _ _ b8),rfl,_,_,rfl,_,_,rfl,_,_,rfl,rfl;exists _,rfl,_,rfl,_,rfl,d,_,rfl,ga,_,rfl,pa,_,rfl,DPut.k (k:=.inr m) (j.inn _ ha).2.2 (by show((EY ts y).map kv).length<sizeLine;rw[No];omega);have X:=j.put (tb2:=λp=>(EY ts p++if y=p then [(m,tl)]else []).map kv) ha (kvs:=putK ((EY ts y).map kv) (.inr m) (.int tl)) (by rw[Rz z.1,if_pos rfl]) (λq hq=>by rw[if_neg (iM hq),gq]);have gb:=DGet.k (k:=.inr m) X.top;rw[J_ X.nms hb]at gb;have l2:=SH ts m;have ib:=(X.inn _ hb).2.2;simp only[if_neg W,gq]at ib;exists _,rfl,_,rfl,_,rfl,d,_,rfl,gb,_,rfl,pb,_,rfl,DPut.k (k:=.inr y) ib (by rw[No];omega);refine⟨_,_,_,_,rfl,X.put hb ?_ λq hq=>?_⟩
   ·show(EY (N.ts.take (i+1)) m).map kv=_
    rw[l,Pf,Rz z.2];show((EY ts m++((if y=m then [(m,tl)]else [])++if m=m then [(y,tl)]else [])).map kv)=_;rw[if_neg W,if_pos rfl];rfl
   ·show(EY (N.ts.take (i+1)) q).map kv=_
    rw[l,Pf];show((EY ts q++((if y=q then [(m,tl)]else [])++if m=q then [(y,tl)]else [])).map kv)=_;rw[if_neg (iM hq),gq]
  ·rintro I c ⟨J,L,O,R,rfl,j⟩
   rw[a7,lJ]at j
   have a2:∀(f:Ch->Obj) b o,H b=P3 o->Ga c (u.map (·.2)) f b=P3 o:=λf b o e=>by
    rw[Du (λG=>by let⟨x,C,e2⟩:=TM.mp G;have:=(j.inn x C).1;rw[e2,e]at this;cases this)];exact j.old b o e
   refine⟨_,rfl,(u.map fun(x:Str×Ch)=>x.2),λb hb=>?_,λf=>q (.ref d) (Ga c (u.map fun(x:Str×Ch)=>x.2) f) (FQ N) n (λb o e=>⟨o,a2 f b o e,λ_=>rfl,λ_ _=>rfl⟩) (λg hg=>?_) (show At K M (Ga c (u.map fun(x:Str×Ch)=>x.2) f) (FQ N) (.ref d)from j.at_ b3 G f) p⟩
   ·let⟨x,C,rfl⟩:=TM.mp hb
    exact⟨_,(j.inn x C).2.2⟩
   ·let⟨a,r,a3,hf,c2,hc,b1⟩:=b4 g hg
    exact⟨a,r,a3,a2 f _ _ hf,c2,⟨hc.1,a2 f _ _ hc.2⟩,b1⟩
theorem Xm:Ac ["net","ties"] ["net","ties"] (AM Qj):=by walk_at "s"
theorem X4(T:Txt K mg)(F:Fu K "only" Qj f fd):A3 P w K mg base CA 1 f fd ["net","ties"] (DC K .sh GC 2):=
 EZ F Xm (λa=>(AK (Ab (A7 (AD (Aa AN Am (dv 0) AE) (AD (BN BA B_ rfl T.Gab jQ (AR (Ao HP OV rfl T.Gae lE (AR (Ic 1) AZ)) AZ)) AS)))))) Ta
theorem NT:Ac ["net","thing"] ["net","thing"] (AM FW):=by walk_at "s"
theorem Nx(T:Txt K mg)(n_:HU P w K mg base)(F:Fu K "is_tie_of" FW f fd):A3 P w K mg base CA 2 f fd ["net","thing"] (DC K .sh Ym 2):=
 EZ F NT (λa=>(AK (Ab (Ft (Cj (I_ a) Lu (dv 1) (Aa AN Am (dv 0) AE) (by with_unfolding_all rfl)) (HM (cg a n_ (AA (AI (Aa AN Am (dv 1) AE)) AJ))))))) Nf
theorem Qh:Ac ["net","thing"] ["net","thing"] (AM Iv):=by walk_at "s"
theorem Q4(T:Txt K mg)(b:Js P w K mg base)(c:Jr P w K mg base)(d:Bv P w K mg base)(F:Fu K "is_thin" Iv f fd):A3 P w K mg base CA 3 f fd ["net","thing"] (DC K .sh QQ 2):=
 EZ F Qh (λa=>(AH (BH (DTW.dt (C9 (Bs (BL (cg a d (AA (AI AE) (AA (AI (dv 1)) AJ))))) (DJ (Bs (BL (E8 kit_tuple (Aa AN Am (dv 1) AE) rfl T.Gaa rfl T.Gab (by decide +kernel))))))) (AK (Ab CF)) Al)
 (AK (Ab (Ft (Cj (V0 a) ZT (Aa AN Am (dv 1) AE) (Aa AN Am (dv 0) AE) (Ah _)) (Ft (Ao (Eh rfl) M_ rfl T.Gag jL (AR (QT [("net":Str),("tie":Str)] [P3 0,p_] (Bt (Aa AN Am (dv 1) AE)) (Af (i:=1) (show hZ [("net":Str),("tie":Str)] by decide +kernel) rfl (T0 rfl)) Bz (cg a c (AA (AI (dv 0)) (AA (AI (dv 1)) AJ))) (by kernel_rfl)) AZ)) (HM (cg a b (AA (AI (Aa AN Am (dv 1) AE)) AJ))))))))) Qp
theorem O4:Ac ["net","tie"] ["net","tie"] (AM G_):=by walk_at "s"
theorem PZ(T:Txt K mg)(c:RY P w K mg base)(b:JS P w K mg base)(F:Fu K "ahead_of" G_ f fd):A3 P w K mg base CA 2 f fd ["net","tie"] (DC K .sh GD 2):=
 EZ F O4 (λa=>(AK (Ab (cg a c (AA (AI (dv 0)) (AA (Jk (QT [("tie":Str),("other":Str)] [P3 1,p_] (Bt (Aa AN Am (dv 0) AE)) (Af (i:=1) (show hZ [("tie":Str),("other":Str)] by decide +kernel) rfl (T0 rfl)) (ID (Ak (Fh a) Jp (cg a b (AA (AI (dv 1)) AJ)) (cg a b (AA (AI (dv 0)) AJ)) (Ah _))) (dv 1) (by kernel_rfl))) AJ)))))) Qq
theorem O2:Ac ["net","thin"] ["net","thin"] (AM G8):=by walk_at "s"
theorem PV(T:Txt K mg)(c:D5 P w K mg base)(F:Fu K "left_out" G8 f fd):A3 P w K mg base CA 5 f fd ["net","thin"] (DC K .fr ND 2):=
 EZ F O2 (λb=>(AK (Ab (cg b c (AA (AI (QT [("thin":Str),("tie":Str)] [P3 1,p_] (Bt (Aa AN Am (dv 0) AE)) (Af (i:=1) (show hZ [("thin":Str),("tie":Str)] by decide +kernel) rfl (T0 rfl)) (ID (Ak (Tt b) Lu (dv 1) (Aa AN Am (dv 0) AE) (by with_unfolding_all rfl))) (dv 1) (by kernel_rfl))) AJ))))) O8
theorem oG:Ac ["net","thing","steps","length","here","there"] ["net","thing"] (AM FU):=by walk_at "s"
theorem Nv(T:Txt K mg)(b:HQ P w K mg base)(F:Fu K "length_of" FU f fd):A3 P w K mg base CA 2 f fd ["net","thing"] (DC K .sh W9 2):=
 EZ F oG (λa=>(AH (BH (DTW.dt (C9 (Bs (BL (E8 kit_tuple (dv 1) rfl T.Gaa rfl T.Gab (by decide +kernel)))) (DJ (Ak CH EX (Ao BM DY rfl T.Gac PySem.boot_len (AR (dv 1) AZ)) AE (Ah _))))) (AK (Ab BV)) Al)
 (AH (BH (Bs (BL (Ao (Eh rfl) M_ rfl T.Gag jL (AR (QT [("place":Str)] [p_] (Bt (dv 1)) (Af (i:=0) (show hZ [("place":Str)] by decide +kernel) rfl (T0 rfl)) Bz (E8 YE (dv 0) rfl T.Gaa rfl T.Gam (by decide +kernel)) (by kernel_rfl)) AZ)))) (AK (Ab BV)) Al)
 (AH (Aj (i:=2) oG.nd rfl (T0 rfl) (cg a b (AA (AI (dv 0)) AJ)))
 (AH (BH (Ak (Ee a) F3 (Aa AN Am (dv 1) AE) (dv 2) (by with_unfolding_all rfl)) (AK (Ab BV)) Al)
 (AH (Aj (i:=3) oG.nd rfl (T0 rfl) AE)
 (AH (CT gu rfl (au rfl T.Gan (AD (dv 1) (AD (DV GX DX (dv 1) (BZ AE) By) AS))) (ET rfl (A6 (Af (i:=4) oG.nd rfl (T0 rfl)) (A6 (Af (i:=5) oG.nd rfl (T0 rfl)) C2))) (AH (BH (Ak (Ee a) F3 (dv 5) (CN a (dv 2) (dv 4)) (by with_unfolding_all rfl)) (AK (Ab BV)) Al)
 (AK (Yb (i:=3) oG.nd rfl (T0 rfl) (CN a (CN a (dv 2) (dv 4)) (dv 5))))))
 (AK (Ab (dv 3)))))))))) Nb
theorem oI:Ac ["net","a","b","thing","length"] ["net","a","b","thing"] (AM Cs):=by walk_at "s"
theorem Hr(T:Txt K mg)(a:F7 P w K mg base)(F:Fu K "length_between" Cs f fd):A3 P w K mg base CA 3 f fd ["net","a","b","thing"] (DC K .sh S1 4):=
 EZ F oI (λb=>(AH (Aj (i:=4) oI.nd rfl (T0 rfl) (cg b a (AA (AI (dv 0)) (AA (AI (dv 3)) AJ))))
 (AH (BH (DTW.dt (C9 (Ak K8 QP (dv 4) BV (Ah _)) (C9 (Ak PP W3 (Aa AN Am (dv 3) AE) (dv 1) (Ah _)) (DJ (Ak PP W3 (Aa AN Am (dv 3) (RP AE)) (dv 2) (Ah _)))))) (AK (Ab BV)) Al)
 (AK (Ab (dv 4)))))) Xq
theorem L1:Ac ["waiting","found"] ["waiting","found"] (AM Et):=by walk_at "s"
theorem L_(T:Txt K mg)(F:Fu K "nearest_of" Et f fd):A3 P w K mg base CA 1 f fd ["waiting","found"] (DC K .sh S0 2):=
 EZ F L1 (λa=>(AK (Ab (Aa AN Am (Ao (Ue a) bH rfl T.Gal boot_min (AR (QT [("found":Str),("place":Str)] [P3 1,p_] (Bt (Ic 0)) (Af (i:=1) (show hZ [("found":Str),("place":Str)] by decide +kernel) rfl (T0 rfl)) Bz (A7 (AD (Aa AN Am (CN a (Ic 0) (dv 1)) AE) (AD (dv 1) AS))) (by kernel_rfl)) AZ)) AE)))) L5
theorem oK:Ac ["net","start","steps","found","waiting","place","other","step","length"] ["net","start"] (AM Eu):=by walk_at "s"
theorem MA(T:Txt K mg)(d:IT P w K mg base)(e:HQ P w K mg base)(F:Fu K "least_ways" Eu f fd):A3 P w K mg base CA 2 f fd ["net","start"] (DC K .fr Ly 2):=
 EZ F oK (λb=>(AH (Aj (i:=2) oK.nd rfl (T0 rfl) (cg b e (AA (AI (dv 0)) AJ)))
 (AH (CM (i:=3) oK.nd rfl (T0 rfl) (P8 (dv 1) (A7 (AD AE (AD BV AS)))))
 (AH (CM (i:=4) oK.nd rfl (T0 rfl) (Bi (AD (dv 1) AS)))
 (AH (Lb gu (al (Ic 4)) (AH (Aj (i:=5) oK.nd rfl (T0 rfl) (cg b d (AA (Jk (Ic 4)) (AA (Jk (Ic 3)) AJ))))
 (AH (Gn 4 PySem.F.plainAttrs_list PySem.F.slot_list_remove PySem.F.type_list_remove (T8 b) dR (pv 4) (AD (dv 5) AS))
 (AK (CT gu rfl (Wh (CN b (dv 2) (dv 5))) (ET rfl (A6 (Af (i:=6) oK.nd rfl (T0 rfl)) (A6 (Af (i:=7) oK.nd rfl (T0 rfl)) C2))) (AH (Aj (i:=8) oK.nd rfl (T0 rfl) (An Ap A4 (Aa AN Am (CN b (Ic 3) (dv 5)) AE) (dv 7)))
 (AK (BH (Ak (Ee b) F3 (dv 6) (Ic 3) (by with_unfolding_all rfl)) (AH (Gn 4 PySem.F.plainAttrs_list PySem.F.slot_list_append PySem.F.type_list_append Ba IQ (pv 4) (AD (dv 6) AS))
 (AK (OH (i:=3) b (pv 3) (dv 6) (A7 (AD (dv 8) (AD (dv 5) AS)))))) (AK (BH (Ak (Fh b) Jp (dv 8) (Aa AN Am (CN b (Ic 3) (dv 6)) AE) (Ah _)) (AK (OH (i:=3) b (pv 3) (dv 6) (A7 (AD (dv 8) (AD (dv 5) AS))))) Al))))))))))
 (AK (Si 3 (pv 3)))))))) L7
theorem oN:Ac ["net","a","b","found","way","place"] ["net","a","b"] (AM Kt):=by walk_at "s"
theorem Tx(T:Txt K mg)(b:FC P w K mg base)(F:Fu K "way_of" Kt f fd):A3 P w K mg base CA 3 f fd ["net","a","b"] (DC K .sh Um 3):=
 EZ F oN (λa=>(AH (Aj (i:=3) oN.nd rfl (T0 rfl) (cg a b (AA (AI (dv 0)) (AA (AI (dv 1)) AJ))))
 (AH (BH (Ak (Ee a) F3 (dv 2) (dv 3) (by with_unfolding_all rfl)) (AK (Ab BV)) Al)
 (AH (CM (i:=4) oN.nd rfl (T0 rfl) (Bi AS))
 (AH (Aj (i:=5) oN.nd rfl (T0 rfl) (dv 2))
 (AH (Lb gu (Ak Hq Ls (dv 5) BV (Ah _)) (AH (Gn 4 PySem.F.plainAttrs_list PySem.F.slot_list_append PySem.F.type_list_append Ba IQ (pv 4) (AD (dv 5) AS))
 (AK (Aj (i:=5) oN.nd rfl (T0 rfl) (Aa AN Am (CN a (dv 3) (dv 5)) AE)))))
 (AK (Ab (UZ rfl (Ic 4) rfl T.Gab rfl T.Gaj))))))))) TY
theorem L3:Ac ["net","thing"] ["net","thing"] (AM Ew):=by walk_at "s"
theorem MB(T:Txt K mg)(b:Bv P w K mg base)(n_:HU P w K mg base)(F:Fu K "are_prices" Ew f fd):A3 P w K mg base CA 2 f fd ["net","thing"] (DC K .sh KU 2):=
 EZ F L3 (λa=>(AK (Ab (Ft (cg a b (AA (AI (Ao BM DY rfl T.Gac PySem.boot_len (AR (Aa AN Am (dv 0) AE) AZ))) (AA (AI (dv 1)) AJ))) (HM (Ao (Eh rfl) M_ rfl T.Gag jL (AR (QT [("price":Str)] [p_] (Bt (dv 1)) (Af (i:=0) (show hZ [("price":Str)] by decide +kernel) rfl (T0 rfl)) Bz (Ft (cg a n_ (AA (AI (dv 0)) AJ)) (HM (Cj aH dU (dv 0) AE (Ah _)))) (by kernel_rfl)) AZ))))))) Kz
theorem NR:Ac ["net","prices","a","b"] ["net","prices","a","b"] (AM FS):=by walk_at "s"
theorem Nq(T:Txt K mg)(F:Fu K "price_gap" FS f fd):A3 P w K mg base CA 1 f fd ["net","prices","a","b"] (DC K .sh W_ 4):=
 EZ F NR (λa=>(AK (Ab (Ao Wv dW rfl T.Gap boot_abs (AR (An GI JP (Aa AN Am (dv 1) (Wj a (Aa AN Am (dv 0) AE) (AR (dv 2) AZ))) (Aa AN Am (dv 1) (Wj a (Aa AN Am (dv 0) AE) (AR (dv 3) AZ)))) AZ))))) L4
theorem Qi:Ac ["net","thing"] ["net","thing"] (AM Iw):=by walk_at "s"
theorem Q5(T:Txt K mg)(b:IU P w K mg base)(c:F6 P w K mg base)(F:Fu K "is_fair" Iw f fd):A3 P w K mg base CA 3 f fd ["net","thing"] (DC K .sh S4 2):=
 EZ F Qi (λa=>(AH (BH (Bs (BL (cg a b (AA (AI (dv 0)) (AA (AI (dv 1)) AJ))))) (AK (Ab CF)) Al)
 (AK (Ab (Ao (Eh rfl) M_ rfl T.Gag jL (AR (QT [("net":Str),("thing":Str),("a":Str),("b":Str),("length":Str)] [P3 0,P3 1,p_,p_,p_] (Bt (Aa AN Am (dv 0) AE)) (ET rfl (A6 (Af (i:=2) (show hZ [("net":Str),("thing":Str),("a":Str),("b":Str),("length":Str)] by decide +kernel) rfl (T0 rfl)) (A6 (Af (i:=3) (show hZ [("net":Str),("thing":Str),("a":Str),("b":Str),("length":Str)] by decide +kernel) rfl (T0 rfl)) (A6 (Af (i:=4) (show hZ [("net":Str),("thing":Str),("a":Str),("b":Str),("length":Str)] by decide +kernel) rfl (T0 rfl)) C2)))) Bz (Cj Qz W4 (cg a c (AA (AI (dv 0)) (AA (AI (dv 1)) (AA (AI (dv 2)) (AA (AI (dv 3)) AJ))))) (dv 4) (Ah _)) (by kernel_rfl)) AZ)))))) O_
theorem oR:Ac ["net","place","most","found"] ["net","place","most"] (AM EI):=by walk_at "s"
theorem K9(T:Txt K mg)(d:FC P w K mg base)(F:Fu K "prices_from" EI f fd):A3 P w K mg base CA 3 f fd ["net","place","most"] (DC K .sh Ob 3):=
 EZ F oR (λc=>(AH (Aj (i:=3) oR.nd rfl (jK rfl) (cg c d (AA (AI (dv 0)) (AA (AI (dv 1)) AJ))))
 (AK (Ab (BN BA B_ rfl T.Gab jQ (AR (QT [("most":Str),("found":Str),("other":Str)] [P3 2,P3 3,p_] (Bt (Aa AN Am (dv 0) AE)) (Af (i:=2) (show hZ [("most":Str),("found":Str),("other":Str)] by decide +kernel) rfl (T0 rfl)) Bz (Jj (Ak (V1 c) ZU (dv 2) (dv 1) (by with_unfolding_all rfl)) (Ao (Ug rfl) bJ rfl T.Gal boot_min (AR (dv 0) (AR (Aa AN Am (CN c (dv 1) (dv 2)) AE) AZ))) (dv 0)) (by kernel_rfl)) AZ)))))) Jy
theorem NS:Ac ["length","times","number"] ["length","times","number"] (AM FV):=by walk_at "s"
theorem Nw(T:Txt K mg)(F:Fu K "is_within" FV f fd):A3 P w K mg base CA 1 f fd ["length","times","number"] (DC K .sh GS 3):=
 EZ F NS (λa=>(AK (Ab (Cj Qz W4 (An C1 EW (dv 0) (Aa AN Am (dv 1) AE)) (An C1 EW (dv 2) (Aa AN Am (dv 1) AE)) (Ah _))))) Nd
theorem Jv:Ac ["times","number"] ["times","number"] (AM Dk):=by walk_at "s"
theorem J3(T:Txt K mg)(F:Fu K "least_beyond" Dk f fd):A3 P w K mg base CA 1 f fd ["times","number"] (DC K .sh GV 2):=
 EZ F Jv (λa=>(AK (Ab (An Ap A4 (An KI DL (An C1 EW (dv 1) (Aa AN Am (dv 0) AE)) (Aa AN Am (dv 0) AE)) AE)))) PC
theorem oS:Ac ["net","times","tie","way"] ["net","times","tie"] (AM G7):=by walk_at "s"
theorem PU(T:Txt K mg)(b:ED P w K mg base)(c:F7 P w K mg base)(d:IS P w K mg base)(F:Fu K "near_way" G7 f fd):A3 P w K mg base CA 4 f fd ["net","times","tie"] (DC K .sh HW 3):=
 EZ F oS (λa=>(AH (Aj (i:=3) oS.nd rfl (T0 rfl) (cg a d (AA (AI (dv 0)) (AA (AI (Aa AN Am (dv 2) AE)) (AA (AI (Aa AN Am (dv 2) AE)) AJ)))))
 (AH (BH (DTW.dt (C9 (Ak K8 QP (dv 3) BV (Ah _)) (DJ (Bs (BL (cg a b (AA (AI (cg a c (AA (AI (dv 0)) (AA (AI (dv 3)) AJ)))) (AA (AI (dv 1)) (AA (AI (Aa AN Am (dv 2) AE)) AJ))))))))) (AK (Ab BV)) Al)
 (AK (Ab (dv 3)))))) L6
theorem oW:Ac ["net","times","kept","tie"] ["net","times"] (AM Ir):=by walk_at "s"
theorem Q2(T:Txt K mg)(c:HR P w K mg base)(b:RY P w K mg base)(d:D5 P w K mg base)(F:Fu K "thinned" Ir f fd):A3 P w K mg base CA 5 f fd ["net","times"] (DC K .sh CJ 2):=
 EZ F oW (λa=>(AH (CM (i:=2) oW.nd rfl (T0 rfl) (Bi AS))
 (AH (CT gu rfl (JN (cg a d (AA (AI (Aa AN Am (dv 0) AE)) AJ))) (Af (i:=3) oW.nd rfl (T0 rfl)) (AK (BH (Ak K8 QP (cg a c (AA (AI (cg a b (AA (AI (dv 0)) (AA (Jk (Ic 2)) AJ)))) (AA (AI (dv 1)) (AA (AI (dv 3)) AJ)))) BV (Ah _)) (AK (Gn 2 PySem.F.plainAttrs_list PySem.F.slot_list_append PySem.F.type_list_append Ba IQ (pv 2) (AD (dv 3) AS))) Al)))
 (AK (Ab (cg a b (AA (AI (dv 0)) (AA (Jk (Ic 2)) AJ)))))))) Na
theorem oY:Ac ["net","times","thin","paper","tie","ahead"] ["net","times"] (AM Dl):=by walk_at "s"
theorem J4(T:Txt K mg)(d:HV P w K mg base)(e:F8 P w K mg base)(g:D5 P w K mg base)(h:Gw P w K mg base)(j:JR P w K mg base)(k:IS P w K mg base)(F:Fu K "greedy_paper" Dl f fd):A3 P w K mg base CA 6 f fd ["net","times"] (DC K .sh GU 2):=
 EZ F oY (λb=>(AH (Aj (i:=2) oY.nd rfl (T0 rfl) (cg b j (AA (AI (dv 0)) (AA (AI (dv 1)) AJ))))
 (AH (CM (i:=3) oY.nd rfl (T0 rfl) (Bi AS))
 (AH (CT gu rfl (JN (cg b g (AA (AI (Aa AN Am (dv 0) AE)) AJ))) (Af (i:=4) oY.nd rfl (T0 rfl)) (AH (Aj (i:=5) oY.nd rfl (T0 rfl) (cg b d (AA (AI (dv 2)) (AA (AI (dv 4)) AJ))))
 (AK (BH (Ak (I_ b) Lu (dv 4) (Aa AN Am (dv 2) AE) (by with_unfolding_all rfl)) (AK (Gn 3 PySem.F.plainAttrs_list PySem.F.slot_list_append PySem.F.type_list_append Ba IQ (pv 3) (AD (A7 (AD A_ (AD (cg b h (AA (AI (dv 5)) (AA (AI (Aa AN Am (dv 4) AE)) (AA (AI (cg b e (AA (AI (dv 1)) (AA (AI (Aa AN Am (dv 4) AE)) AJ)))) AJ)))) AS))) AS))) (AK (Gn 3 PySem.F.plainAttrs_list PySem.F.slot_list_append PySem.F.type_list_append Ba IQ (pv 3) (AD (A7 (AD A_ (AD (cg b k (AA (AI (dv 5)) (AA (AI (Aa AN Am (dv 4) AE)) (AA (AI (Aa AN Am (dv 4) AE)) AJ)))) AS))) AS)))))))
 (AK (Ab (BN BA B_ rfl T.Gab jQ (AR (Ic 3) AZ)))))))) PB
theorem oi:Ac ["net","times","thin","ways"] ["net","times","thin"] (AM Es):=by walk_at "s"
theorem L9(T:Txt K mg)(c:HS P w K mg base)(d:HR P w K mg base)(F:Fu K "ways_paper" Es f fd):A3 P w K mg base CA 6 f fd ["net","times","thin"] (DC K .sh GR 3):=
 EZ F oi (λb=>(AH (YY (i:=3) oi.nd rfl (T0 rfl) rfl [("thin":Str),("times":Str),("tie":Str)] [P3 2,P3 1,p_] (Bt (cg b c (AA (AI (dv 0)) (AA (AI (dv 2)) AJ)))) (λ_ _ _ _ _=>(Af (i:=2) (show hZ [("thin":Str),("times":Str),("tie":Str)] by decide +kernel) rfl (T0 rfl))) (λ_ _ _ _ _=>Bz) (λ_ _ _ _ _=>(cg b d (AA (AI (dv 0)) (AA (AI (dv 1)) (AA (AI (dv 2)) AJ))))) (by kernel_rfl))
 (AK (Ab (Jj (Ak (I_ b) Lu BV (dv 3) (by with_unfolding_all rfl)) BV (BN BA B_ rfl T.Gab jQ (AR (dv 3) AZ))))))) Jx
theorem om:Ac ["net","times","tie","thing","length"] ["net","times","tie","thing"] (AM FR):=by walk_at "s"
theorem Np(T:Txt K mg)(b:ED P w K mg base)(c:Em P w K mg base)(F:Fu K "way_fault" FR f fd):A3 P w K mg base CA 4 f fd ["net","times","tie","thing"] (DC K .sh NB 4):=
 EZ F om (λa=>(AH (Aj (i:=4) om.nd rfl (T0 rfl) (cg a c (AA (AI (dv 0)) (AA (AI (Aa AN Am (dv 2) AE)) (AA (AI (Aa AN Am (dv 2) AE)) (AA (AI (dv 3)) AJ))))))
 (AH (BH (Ak K8 QP (dv 4) BV (Ah _)) (AK (Ab A_)) Al)
 (AK (Ab (Jj (BL (cg a b (AA (AI (dv 4)) (AA (AI (dv 1)) (AA (AI (Aa AN Am (dv 2) AE)) AJ))))) BV A_)))))) Xo
theorem Ju:Ac ["net","times","tie","thing"] ["net","times","tie","thing"] (AM Di):=by walk_at "s"
theorem J1(T:Txt K mg)(b:NA P w K mg base)(c:ED P w K mg base)(d:F6 P w K mg base)(F:Fu K "prices_fault" Di f fd):A3 P w K mg base CA 4 f fd ["net","times","tie","thing"] (DC K .sh Sz 4):=
 EZ F Ju (λa=>(AH (BH (Bs (BL (cg a b (AA (AI (dv 0)) (AA (AI (dv 3)) AJ))))) (AK (Ab A_)) Al)
 (AK (Ab (Jj (BL (cg a c (AA (AI (cg a d (AA (AI (dv 0)) (AA (AI (dv 3)) (AA (AI (Aa AN Am (dv 2) AE)) (AA (AI (Aa AN Am (dv 2) AE)) AJ)))))) (AA (AI (dv 1)) (AA (AI (Aa AN Am (dv 2) AE)) AJ))))) A_ BV))))) Xp
theorem oq:Ac ["times","thin","tie","entry","kept","ahead"] ["times","thin","tie","entry"] (AM Dn):=by walk_at "s"
theorem J5(T:Txt K mg)(b:HV P w K mg base)(c:F5 P w K mg base)(d:F4 P w K mg base)(F:Fu K "greedy_fault" Dn f fd):A3 P w K mg base CA 5 f fd ["times","thin","tie","entry"] (DC K .sh S2 4):=
 EZ F oq (λa=>(AH (Aj (i:=4) oq.nd rfl (T0 rfl) (Cj (I_ a) Lu (dv 2) (Aa AN Am (dv 1) AE) (by with_unfolding_all rfl)))
 (AH (BH (Ak PP W3 (dv 4) (Cj CH EX (Aa AN Am (dv 3) AE) A_ (Ah _)) (Ah _)) (AK (Ab A_)) Al)
 (AH (Aj (i:=5) oq.nd rfl (T0 rfl) (cg a b (AA (AI (dv 1)) (AA (AI (dv 2)) AJ))))
 (AK (Ab (Jj (BL (dv 4)) (cg a c (AA (AI (dv 5)) (AA (AI (dv 0)) (AA (AI (dv 2)) (AA (AI (Aa AN Am (dv 3) AE)) AJ))))) (cg a d (AA (AI (dv 5)) (AA (AI (dv 0)) (AA (AI (dv 2)) (AA (AI (Aa AN Am (dv 3) AE)) AJ)))))))))))) Xr
theorem G4:Ac ["thing"] ["thing"] (AM CY):=by walk_at "s"
theorem HE(T:Txt K mg)(b:Bv P w K mg base)(F:Fu K "is_greedy_entry" CY f fd):A3 P w K mg base CA 2 f fd ["thing"] (DC K .sh S3 1):=
 EZ F G4 (λa=>(AK (Ab (Ft (cg a b (AA (AI AE) (AA (AI (dv 0)) AJ))) (HM (Cj (I_ a) Lu (Aa AN Am (dv 0) AE) (A7 (AD A_ (AD A_ AS))) (by with_unfolding_all rfl))))))) Xs
theorem oz:Ac ["net","times","thin","paper","number","tie","fault"] ["net","times","thin","paper"] (AM EJ):=by walk_at "s"
theorem K_(T:Txt K mg)(d:F_ P w K mg base)(e:EG P w K mg base)(g:JT P w K mg base)(j:Bv P w K mg base)(k:D5 P w K mg base)(GX_NoPaper:XB P w K mg base "NoPaper" ["word","number"] 1)(F:Fu K "lets_greedy" EJ f fd):A3 P w K mg base (Ra P w) 6 f fd ["net","times","thin","paper"] (cI K .sh IY 4):=by
 exact fnX (wb:=λb=>DK b) F oz (by decide) (λm A c s H E b p U M l a=>(Cz (La (DTW.dt (C9 (Bs (BL (BI g (a.mono (by decide)) rfl (AA (AI (dv 0)) (AA (AI (dv 2)) AJ))))) (DJ (Bs (BL (BI j (a.mono (by decide)) rfl (AA (AI (Ao BM DY rfl T.Gac PySem.boot_len (AR (Aa AN Am (dv 0) AE) AZ))) (AA (AI (dv 3)) AJ)))))))) (Cg (Dy Fd l (λ_ h=>h) (Eg GX_NoPaper (a.mono (by decide)) rfl (AD A_ (AD AE AS))))) (IB Al))
 (Cz (La (Bs (BL (Ao (Eh rfl) M_ rfl T.Gag jL (AR (Sm rfl [("entry":Str)] [p_] (Bt (dv 3)) (λ_ _ _ _ _=>(Af (i:=0) (show hZ [("entry":Str)] by decide +kernel) rfl (T0 rfl))) (λ_ _ _ _ _=>Bz) (λ_ _ _ _ _=>(BI e (a.mono (by decide)) rfl (AA (AI (dv 0)) AJ))) (by kernel_rfl)) AZ)))) (Cg (Dy Fd l (λ_ h=>h) (Eg GX_NoPaper (a.mono (by decide)) rfl (AD A_ (AD AE AS))))) (IB Al))
 (Cz (Sh (λ_ _ h=>h) R_ rfl (Sj rfl T.Gah (BI k (a.mono (by decide)) rfl (AA (AI (Aa AN Am (dv 0) AE)) AJ))) (ET rfl (A6 (Af (i:=4) oz.nd rfl (T0 rfl)) (A6 (Af (i:=5) oz.nd rfl (T0 rfl)) C2))) (Cz (OG (Aj (i:=6) oz.nd rfl (T0 rfl) (BI d (a.mono (by decide)) rfl (AA (AI (dv 1)) (AA (AI (dv 2)) (AA (AI (dv 5)) (AA (AI (Aa AN Am (dv 3) (dv 4))) AJ)))))))
 (Cg (La (Ak Hq Ls (dv 6) BV (Ah _)) (Cg (Dy Fd l (λ_ h=>h) (Eg GX_NoPaper (a.mono (by decide)) rfl (AD (dv 6) (AD (dv 4) AS))))) (IB Al)))))
 (Cg (OG (Ab CF))))))) (λq n r b t o=>Qn o)
theorem o6:Ac ["net","times","thin","paper","number","tie","fault"] ["net","times","thin","paper"] (AM FT):=by walk_at "s"
theorem Nu(T:Txt K mg)(e:JT P w K mg base)(g:Bv P w K mg base)(d:HS P w K mg base)(j:F4 P w K mg base)(GX_NoPaper:XB P w K mg base "NoPaper" ["word","number"] 1)(F:Fu K "lets_ways" FT f fd):A3 P w K mg base (Ra P w) 6 f fd ["net","times","thin","paper"] (cI K .sh KY 4):=by
 exact fnX (wb:=λb=>EV b) F o6 (by decide) (λk A c s H E b o U M l a=>(Cz (La (DTW.dt (C9 (Bs (BL (BI e (a.mono (by decide)) rfl (AA (AI (dv 0)) (AA (AI (dv 2)) AJ))))) (DJ (Bs (BL (BI g (a.mono (by decide)) rfl (AA (AI (Ao BM DY rfl T.Gac PySem.boot_len (AR (BI d (a.mono (by decide)) rfl (AA (AI (dv 0)) (AA (AI (dv 2)) AJ))) AZ))) (AA (AI (dv 3)) AJ)))))))) (Cg (Dy Fd l (λ_ h=>h) (Eg GX_NoPaper (a.mono (by decide)) rfl (AD A_ (AD AE AS))))) (IB Al))
 (Cz (Sh (λ_ _ h=>h) R_ rfl (Sj rfl T.Gah (BI d (a.mono (by decide)) rfl (AA (AI (dv 0)) (AA (AI (dv 2)) AJ)))) (ET rfl (A6 (Af (i:=4) o6.nd rfl (T0 rfl)) (A6 (Af (i:=5) o6.nd rfl (T0 rfl)) C2))) (Cz (OG (Aj (i:=6) o6.nd rfl (T0 rfl) (BI j (a.mono (by decide)) rfl (AA (AI (dv 2)) (AA (AI (dv 1)) (AA (AI (dv 5)) (AA (AI (Aa AN Am (dv 3) (dv 4))) AJ)))))))
 (Cg (La (Ak Hq Ls (dv 6) BV (Ah _)) (Cg (Dy Fd l (λ_ h=>h) (Eg GX_NoPaper (a.mono (by decide)) rfl (AD (dv 6) (AD (dv 4) AS))))) (IB Al)))))
 (Cg (OG (Ab CF)))))) (λp n q b r m=>Tc m)
theorem o7:Ac ["_law_feed_here","_law_many","_law_way","_law_words","_law_first","_law_letters","_law_word","_law_at","_law_names","_law_k","_law_sign"] ["_law_feed_here","_law_many"] (AM EM):=by walk_at "s"
theorem LC(T:Txt K mg)(b:BU P w K mg base)(F:Fu K "_law_places" EM f fd):A3 P w K mg base CA 2 f fd ["_law_feed_here","_law_many"] (DC K .fr KW 2):=
 EZ F o7 (λa=>(AH (Aj (i:=2) o7.nd rfl (T0 rfl) (cg a b (AA (BB 0) (AA (AI AE) AJ))))
 (AH (Aj (i:=3) o7.nd rfl (jK rfl) (Bi (AD A_ (AD A_ (AD A_ (AD A_ (AD A_ (AD A_ (AD A_ (AD A_ (AD A_ (AD A_ (AD A_ (AD A_ AS))))))))))))))
 (AH (BH (DTW.dt (LY (Ak CH EX (dv 2) AE (Ah _)) (H_ (Ak (Fh a) Jp (dv 1) AE (Ah _))))) (AH (Aj (i:=4) o7.nd rfl (jK rfl) (cg a b (AA (BB 0) (AA (AI AE) AJ))))
 (AK (Ab (Ao Ll Sx rfl T.Gae lE (AR (QT [("_law_words":Str),("_law_first":Str),("_law_k":Str)] [P3 3,P3 4,p_] (DI.c (CV rfl T.Gad (AR (dv 1) AZ))) (Af (i:=2) (show hZ [("_law_words":Str),("_law_first":Str),("_law_k":Str)] by decide +kernel) rfl (T0 rfl)) Bz (Aa AN Am (dv 0) (An EO DL (An Ap A4 (dv 1) (dv 2)) AE)) (by kernel_rfl)) AZ))))) Al)
 (AH (Aj (i:=5) o7.nd rfl (jK rfl) A_)
 (AH (Aj (i:=6) o7.nd rfl (jK rfl) (ZO PySem.F.plainAttrs_str PySem.F.slot_str_join PySem.F.type_str_join X9 bK A_ (AR (QT [("_law_letters":Str),("_law_feed_here":Str),("_law_k":Str)] [P3 5,P3 0,p_] (DI.c (CV rfl T.Gad (AR AE AZ))) (Af (i:=2) (show hZ [("_law_letters":Str),("_law_feed_here":Str),("_law_k":Str)] by decide +kernel) rfl (T0 rfl)) Bz (Aa AN Am (dv 0) (cg a b (AA (BB 1) (AA (AI AE) AJ)))) (by kernel_rfl)) AZ)))
 (AH (BH (DTW.dt (LY (Ak CH EX (dv 2) AE (Ah _)) (H_ (Ak (Fh a) Jp (dv 1) AE (Ah _))))) (AK (Ab (QT [("_law_word":Str),("_law_k":Str)] [P3 6,p_] (DI.c (CV rfl T.Gad (AR (dv 1) AZ))) (Af (i:=1) (show hZ [("_law_word":Str),("_law_k":Str)] by decide +kernel) rfl (T0 rfl)) Bz (DV GX DX (dv 0) By (BZ (An Ap A4 AE (dv 1)))) (by kernel_rfl)))) Al)
 (AH (Aj (i:=7) o7.nd rfl (T0 rfl) (cg a b (AA (BB 0) (AA (AI AE) AJ))))
 (AH (Aj (i:=4) o7.nd rfl (jK rfl) (cg a b (AA (BB 0) (AA (AI AE) AJ))))
 (AH (CM (i:=8) o7.nd rfl (T0 rfl) (Bi AS))
 (AH (CT gu rfl (CV rfl T.Gad (AR (dv 1) AZ)) (Af (i:=9) o7.nd rfl (T0 rfl)) (AH (Aj (i:=10) o7.nd rfl (T0 rfl) (Aa AN Am (dv 5) (An EO DL (An Ap A4 (dv 4) (dv 9)) AE)))
 (AK (Gn 8 PySem.F.plainAttrs_list PySem.F.slot_list_append PySem.F.type_list_append Ba IQ (pv 8) (AD (An Ap A4 (An Ap A4 (An Ap A4 (DV GX DX (dv 6) By (BZ (dv 7))) (dv 10)) (DV GX DX (dv 6) (BZ (An Ap A4 (dv 7) AE)) (BZ AE))) (An C1 EW A_ (An EO DL (dv 9) AE))) AS)))))
 (AK (Ab (Ao Ll Sx rfl T.Gae lE (AR (Ic 8) AZ))))))))))))))) TZ
theorem Ks:Ac ["_law_feed_here","_law_scale"] ["_law_feed_here","_law_scale"] (AM EN):=by walk_at "s"
theorem LD(T:Txt K mg)(a:BU P w K mg base)(F:Fu K "_law_length" EN f fd):A3 P w K mg base CA 2 f fd ["_law_feed_here","_law_scale"] (DC K .sh Yo 2):=
 EZ F Ks (λb=>(AH (BH (Ak CH EX (dv 1) AE (Ah _)) (AK (Ab (An Ap A4 AE (cg b a (AA (BB 0) (AA (AI AE) AJ)))))) Al)
 (AH (BH (Ak CH EX (dv 1) AE (Ah _)) (AK (Ab (An Ap A4 AE (cg b a (AA (BB 0) (AA (AI AE) AJ)))))) Al)
 (AK (Ab (Jj (Ak CH EX (dv 1) AE (Ah _)) (An GI JP (An Fg DL AE AE) (cg b a (AA (BB 0) (AA (AI AE) AJ)))) (An Ap A4 AE (cg b a (AA (BB 0) (AA (AI (An Fg DL AE AE)) AJ)))))))))) Te
theorem o9:Ac ["_law_feed_here","_law_most","_law_ties","_law_places_here","_law_few","_law_scale","_law_found","_law_one","_law_other"] ["_law_feed_here","_law_most","_law_ties"] (AM HB):=by walk_at "s"
theorem Pb(T:Txt K mg)(o_:G0 P w K mg base)(b:BU P w K mg base)(c:Gz P w K mg base)(F:Fu K "_law_net" HB f fd):A3 P w K mg base CA 3 f fd ["_law_feed_here","_law_most","_law_ties"] (DC K .sh Yn 3):=
 EZ F o9 (λa=>(AH (Aj (i:=3) o9.nd rfl (T0 rfl) (cg a c (AA (BB 0) (AA (AI (An Ap A4 AE (cg a b (AA (BB 0) (AA (AI (dv 1)) AJ))))) AJ))))
 (AH (Aj (i:=4) o9.nd rfl (T0 rfl) (An Ap A4 AE (cg a b (AA (BB 0) (AA (AI AE) AJ)))))
 (AH (Aj (i:=5) o9.nd rfl (T0 rfl) (cg a b (AA (BB 0) (AA (AI AE) AJ))))
 (AH (CM (i:=6) o9.nd rfl (T0 rfl) (Bi AS))
 (AH (CT gu rfl (CV rfl T.Gad (AR (Ao BM DY rfl T.Gac PySem.boot_len (AR (dv 3) AZ)) AZ)) (Af (i:=7) o9.nd rfl (T0 rfl)) (AK (CT gu rfl (UY rfl T.Gad (AR (An Ap A4 (dv 7) AE) (AR (Ao BM DY rfl T.Gac PySem.boot_len (AR (dv 3) AZ)) AZ))) (Af (i:=8) o9.nd rfl (T0 rfl)) (AK (BH (DTW.dt (LY (Ak Qz W4 (cg a b (AA (BB 0) (AA (AI AE) AJ))) (dv 4) (Ah _)) (H_ (Ak (Fh a) Jp (Ao BM DY rfl T.Gac PySem.boot_len (AR (Ic 6) AZ)) (dv 2) (Ah _))))) (AK (Gn 6 PySem.F.plainAttrs_list PySem.F.slot_list_append PySem.F.type_list_append Ba IQ (pv 6) (AD (A7 (AD (Aa AN Am (dv 3) (dv 7)) (AD (Aa AN Am (dv 3) (dv 8)) (AD (cg a o_ (AA (BB 0) (AA (AI (dv 5)) AJ))) AS)))) AS))) Al)))))
 (AK (Ab (A7 (AD (BN BA B_ rfl T.Gab jQ (AR (dv 3) AZ)) (AD (BN BA B_ rfl T.Gab jQ (AR (Ic 6) AZ)) AS))))))))))) Zy
theorem pB:Ac ["_law_feed_here","_law_some","_law_at","_law_bottom"] ["_law_feed_here"] (AM Ex):=by walk_at "s"
theorem MC(T:Txt K mg)(b:BU P w K mg base)(F:Fu K "_law_times" Ex f fd):A3 P w K mg base CA 2 f fd ["_law_feed_here"] (DC K .sh OY 1):=
 EZ F pB (λa=>(AH (Aj (i:=1) pB.nd rfl (T0 rfl) (Bi (AD (A7 (AD AE (AD AE AS))) (AD (A7 (AD AE (AD AE AS))) (AD (A7 (AD AE (AD AE AS))) (AD (A7 (AD AE (AD AE AS))) (AD (A7 (AD AE (AD AE AS))) (AD (A7 (AD AE (AD AE AS))) (AD (A7 (AD (An Fg DL AE AE) (AD AE AS))) (AD (A7 (AD (An Fg DL AE AE) (AD (An Fg DL AE AE) AS))) AS))))))))))
 (AH (Aj (i:=2) pB.nd rfl (T0 rfl) (cg a b (AA (BB 0) (AA (AI AE) AJ))))
 (AH (BH (Ak (Fh a) Jp (dv 2) AE (Ah _)) (AK (Ab (Aa AN Am (dv 1) (dv 2)))) Al)
 (AH (Aj (i:=3) pB.nd rfl (T0 rfl) (An Ap A4 AE (cg a b (AA (BB 0) (AA (AI AE) AJ)))))
 (AK (Ab (A7 (AD (An Ap A4 (dv 3) (cg a b (AA (BB 0) (AA (AI (An C1 EW AE (dv 3))) AJ)))) (AD (dv 3) AS)))))))))) Nc
theorem Iq:Ac ["_law_ties"] ["_law_ties"] (AM DF):=by walk_at "s"
theorem JB(T:Txt K mg)(F:Fu K "_law_in_order" DF f fd):A3 P w K mg base CA 1 f fd ["_law_ties"] (DC K .fr DN 1):=
 EZ F Iq (λa=>(AK (Ab (QT [("_law_length_here":Str),("_law_one":Str),("_law_other":Str)] [p_,p_,p_] (Bt (Ao HP OV rfl T.Gae lE (AR (QT [("_law_tie":Str)] [p_] (Bt (dv 0)) (Af (i:=0) (show hZ [("_law_tie":Str)] by decide +kernel) rfl (T0 rfl)) Bz (A7 (AD (Aa AN Am (dv 0) AE) (AD (Aa AN Am (dv 0) AE) (AD (Aa AN Am (dv 0) AE) AS)))) (by kernel_rfl)) AZ))) (ET rfl (A6 (Af (i:=0) (show hZ [("_law_length_here":Str),("_law_one":Str),("_law_other":Str)] by decide +kernel) rfl (T0 rfl)) (A6 (Af (i:=1) (show hZ [("_law_length_here":Str),("_law_one":Str),("_law_other":Str)] by decide +kernel) rfl (T0 rfl)) (A6 (Af (i:=2) (show hZ [("_law_length_here":Str),("_law_one":Str),("_law_other":Str)] by decide +kernel) rfl (T0 rfl)) C2)))) Bz (A7 (AD (dv 1) (AD (dv 2) (AD (dv 0) AS)))) (by kernel_rfl))))) J0
theorem pC:Ac ["_law_ties","_law_place","_law_known","_law_going","_law_one","_law_other","_law_length_here","_law_here","_law_there","_law_reach"] ["_law_ties","_law_place"] (AM Ez):=by walk_at "s"
theorem ME(T:Txt K mg)(F:Fu K "_law_least" Ez f fd):A3 P w K mg base CA 1 f fd ["_law_ties","_law_place"] (DC K .fr DA 2):=
 EZ F pC (λc=>(AH (CM (i:=2) pC.nd rfl (T0 rfl) (P8 (dv 1) AE))
 (AH (Aj (i:=3) pC.nd rfl (T0 rfl) CF)
 (AH (Lb gu (BL (dv 3)) (AH (Aj (i:=3) pC.nd rfl (T0 rfl) CF)
 (AK (Ya gu rfl (pv 0) (ET rfl (A6 (Af (i:=4) pC.nd rfl (T0 rfl)) (A6 (Af (i:=5) pC.nd rfl (T0 rfl)) (A6 (Af (i:=6) pC.nd rfl (T0 rfl)) C2)))) (AK (CT gu rfl (JN (Bi (AD (A7 (AD (dv 4) (AD (dv 5) AS))) (AD (A7 (AD (dv 5) (AD (dv 4) AS))) AS)))) (ET rfl (A6 (Af (i:=7) pC.nd rfl (T0 rfl)) (A6 (Af (i:=8) pC.nd rfl (T0 rfl)) C2))) (AK (BH (Ak (V1 c) ZU (dv 7) (Ic 2) (by with_unfolding_all rfl)) (AH (Aj (i:=9) pC.nd rfl (T0 rfl) (An Ap A4 (CN c (Ic 2) (dv 7)) (dv 6)))
 (AK (BH (Ak (Fh c) Jp (dv 9) (Yf c (Ic 2) (dv 8) (An Ap A4 (dv 9) AE)) (Ah _)) (AH (OH (i:=2) c (pv 2) (dv 8) (dv 9))
 (AK (Aj (i:=3) pC.nd rfl (T0 rfl) CF))) Al))) Al))))))))
 (AK (Si 2 (pv 2))))))) Kx
theorem pD:Ac ["_law_net_here","_law_times_here","_law_kept","_law_tie","_law_least_here"] ["_law_net_here","_law_times_here"] (AM Do):=by walk_at "s"
theorem J6(T:Txt K mg)(b:DM P w K mg base)(c:FD P w K mg base)(F:Fu K "_law_thinned" Do f fd):A3 P w K mg base CA 2 f fd ["_law_net_here","_law_times_here"] (DC K .sh CJ 2):=
 EZ F pD (λa=>(AH (CM (i:=2) pD.nd rfl (T0 rfl) (Bi AS))
 (AH (CT gu rfl (JN (cg a b (AA (AI (Aa AN Am (dv 0) AE)) AJ))) (Af (i:=3) pD.nd rfl (T0 rfl)) (AH (Aj (i:=4) pD.nd rfl (T0 rfl) (Yg a (cg a c (AA (Jk (Ic 2)) (AA (AI (Aa AN Am (dv 3) AE)) AJ))) (Aa AN Am (dv 3) AE)))
 (AK (BH (DTW.dt (C9 (Ak K8 QP (dv 4) BV (Ah _)) (DJ (Ak Q0 W7 (An C1 EW (dv 4) (Aa AN Am (dv 1) AE)) (An C1 EW (Aa AN Am (dv 3) AE) (Aa AN Am (dv 1) AE)) (Ah _))))) (AK (Gn 2 PySem.F.plainAttrs_list PySem.F.slot_list_append PySem.F.type_list_append Ba IQ (pv 2) (AD (dv 3) AS))) Al))))
 (AK (Ab (A7 (AD (Aa AN Am (dv 0) AE) (AD (BN BA B_ rfl T.Gab jQ (AR (Ao HP OV rfl T.Gae lE (AR (Ic 2) AZ)) AZ)) AS)))))))) Iy
theorem pG:Ac ["_law_feed_here","_law_thing","_law_some","_law_at"] ["_law_feed_here","_law_thing"] (AM HA):=by walk_at "s"
theorem Pa(T:Txt K mg)(b:BU P w K mg base)(F:Fu K "_law_odd" HA f fd):A3 P w K mg base CA 2 f fd ["_law_feed_here","_law_thing"] (DC K .sh W8 2):=
 EZ F pG (λa=>(AH (CM (i:=2) pG.nd rfl (T0 rfl) (Bi (AD BV (AD CF (AD AE (AD AE (AD (RP AE) (AD A_ (AD A_ (AD (A7 AS) (AD (Bi AS) (AD (An Fg DL AE AE) (AD (An Ap A4 (An Fg DL AE AE) AE) (AD A_ (AD A_ (AD (dv 1) AS))))))))))))))))
 (AH (BH (BL (OJ kit_tuple Fl (dv 1) rfl T.Gaa rfl T.Gab (by decide +kernel) rfl T.Gaf (by decide +kernel))) (AH (Aj (i:=3) pG.nd rfl (T0 rfl) (cg a b (AA (BB 0) (AA (AI (An Ap A4 (Ao BM DY rfl T.Gac PySem.boot_len (AR (dv 1) AZ)) AE)) AJ))))
 (AH (CM (i:=2) pG.nd rfl (T0 rfl) (An Nn JQ (Ic 2) (Bi (AD (BN IH Yl rfl T.Gaf boot_list (AR (dv 1) AZ)) (AD (BN BA B_ rfl T.Gab jQ (AR (dv 1) AZ)) (AD (ax (dv 1) (RP AE)) (AD (An Ap A4 (DV GX DX (dv 1) By (BZ (dv 3))) (DV GX DX (dv 1) (BZ (An Ap A4 (dv 3) AE)) By)) AS)))))))
 (AK (Gn 2 PySem.F.plainAttrs_list PySem.F.slot_list_append PySem.F.type_list_append Ba IQ (pv 2) (AD (An Ap A4 (An Ap A4 (DV GX DX (dv 1) By (BZ (dv 3))) (DV GX DX (dv 1) (BZ (dv 3)) (BZ (An Ap A4 (dv 3) AE)))) (DV GX DX (dv 1) (BZ (dv 3)) By)) AS))))) Al)
 (AH (BH (BL (E8 SR (dv 1) rfl T.Gaa rfl T.Gai (by decide +kernel))) (AK (CM (i:=2) pG.nd rfl (T0 rfl) (An Nn JQ (Ic 2) (Bi (AD (An Ap A4 (dv 1) AE) (AD (An GI JP (dv 1) AE) (AD (Cj (V0 a) ZT (dv 1) AE (Ah _)) (AD (BN Ud bG rfl T.Gam boot_str (AR (dv 1) AZ)) (AD (An GI JP AE (dv 1)) AS))))))))) Al)
 (AK (Ab (Aa AN Am (Ic 2) (cg a b (AA (BB 0) (AA (AI (Ao BM DY rfl T.Gac PySem.boot_len (AR (Ic 2) AZ))) AJ)))))))))) Zx
theorem pH:Ac ["_law_feed_here","_law_thing","_law_deep","_law_at","_law_part"] ["_law_feed_here","_law_thing","_law_deep"] (AM Fa):=by walk_at "s"
theorem Hu(T:Txt K mg)(d:BU P w K mg base)(o:Lv P w K mg base)(F:Fu K "_law_bent" Fa f fd)(m:mg "_law_bent"=P3 (.ref f))(b:Binds K fd ["_law_feed_here","_law_thing","_law_deep"] []):∀j,A3 P w K mg base CA (3+j) f fd ["_law_feed_here","_law_thing","_law_deep"] (DC K .sh (JU j) 3)
 |0=>by
  have p:Got P w K mg base "_law_bent" 2 ["_law_feed_here","_law_thing","_law_deep"] .sh (λ_ _ _=>False):=RJ F m b (λ_ _ _ h=>h.elim) (F.ok (k:=1) pH (λq H Q E h=>h.1) (λg A a s H q Q E c h=>by let⟨_,_,_,_,_,_,_,_,_,l,_⟩:=h;exact l.elim));exact fL (k:=2) F pH (by decide) (λg A a s H E c=>(AH (BH (DTW.dt (C9 (Bs (BL (OJ kit_tuple Fl (dv 1) rfl T.Gaa rfl T.Gab (by decide +kernel) rfl T.Gaf (by decide +kernel)))) (C9 (Ak CH EX (Ao BM DY rfl T.Gac PySem.boot_len (AR (dv 1) AZ)) AE (Ah _)) (C9 (Ak CH EX (dv 2) AE (Ah _)) (DJ (Ak CH EX (BI d (c.mono (by omega)) rfl (AA (BB 0) (AA (AI AE) AJ))) AE (Ah _))))))) (AK (Ab (BI o (c.mono (by omega)) rfl (AA (BB 0) (AA (AI (dv 1)) AJ))))) Al)
 (AH (Aj (i:=3) pH.nd rfl (T0 rfl) (BI d (c.mono (by omega)) rfl (AA (BB 0) (AA (AI (Ao BM DY rfl T.Gac PySem.boot_len (AR (dv 1) AZ))) AJ))))
 (AH (Aj (i:=4) pH.nd rfl (T0 rfl) (BI p (c.mono (On _)) rfl (AA (BB 0) (AA (AI (Aa AN Am (dv 1) (dv 3))) (AA (AI (An GI JP (dv 2) AE)) AJ)))))
 (AK (Ab (An Ap A4 (An Ap A4 (DV GX DX (dv 1) By (BZ (dv 3))) (Jj (BL (E8 Fl (dv 1) rfl T.Gaa rfl T.Gaf (by decide +kernel))) (DE.sh (Bi (AD (dv 4) AS))) (A7 (AD (dv 4) AS)))) (DV GX DX (dv 1) (BZ (An Ap A4 (dv 3) AE)) By)))))))) (λr n t u l=>Ru (λ_ _ _ h _=>absurd rfl h) l)
 |j+1=>by
  have p:Got P w K mg base "_law_bent" (3+j) ["_law_feed_here","_law_thing","_law_deep"] .sh (JU j):=RJ F m b (λ_ _ _ h=>by let⟨_,_,_,e,_⟩:=h;rw[e];rfl) (Hu T d o F m b j);exact fL (k:=3+j) F pH (by decide) (λg A a s H E c=>(AH (BH (DTW.dt (C9 (Bs (BL (OJ kit_tuple Fl (dv 1) rfl T.Gaa rfl T.Gab (by decide +kernel) rfl T.Gaf (by decide +kernel)))) (C9 (Ak CH EX (Ao BM DY rfl T.Gac PySem.boot_len (AR (dv 1) AZ)) AE (Ah _)) (C9 (Ak CH EX (dv 2) AE (Ah _)) (DJ (Ak CH EX (BI d (c.mono (by omega)) rfl (AA (BB 0) (AA (AI AE) AJ))) AE (Ah _))))))) (AK (Ab (BI o (c.mono (by omega)) rfl (AA (BB 0) (AA (AI (dv 1)) AJ))))) Al)
 (AH (Aj (i:=3) pH.nd rfl (T0 rfl) (BI d (c.mono (by omega)) rfl (AA (BB 0) (AA (AI (Ao BM DY rfl T.Gac PySem.boot_len (AR (dv 1) AZ))) AJ))))
 (AH (Aj (i:=4) pH.nd rfl (T0 rfl) (BI p (c.mono (On _)) rfl (AA (BB 0) (AA (AI (Aa AN Am (dv 1) (dv 3))) (AA (AI (An GI JP (dv 2) AE)) AJ)))))
 (AK (Ab (An Ap A4 (An Ap A4 (DV GX DX (dv 1) By (BZ (dv 3))) (Jj (BL (E8 Fl (dv 1) rfl T.Gaa rfl T.Gaf (by decide +kernel))) (DE.sh (Bi (AD (dv 4) AS))) (A7 (AD (dv 4) AS)))) (DV GX DX (dv 1) (BZ (An Ap A4 (dv 3) AE)) By)))))))) (λr n t u l=>Ru (j:=j+1) (λ_ _ _ _ h=>h) l)
theorem pK:Ac ["_law_feed_here","_law_net_here","_law_times_here","_law_thin","_law_way","_law_more"] ["_law_feed_here","_law_net_here","_law_times_here"] (AM Ct):=by walk_at "s"
theorem Hs(T:Txt K mg)(b:BU P w K mg base)(d:D6 P w K mg base)(F:Fu K "_law_some_thin" Ct f fd):A3 P w K mg base CA 3 f fd ["_law_feed_here","_law_net_here","_law_times_here"] (DC K .sh OZ 3):=
 EZ F pK (λa=>(AH (Aj (i:=3) pK.nd rfl (jK rfl) (cg a d (AA (AI (dv 1)) (AA (AI (dv 2)) AJ))))
 (AH (Aj (i:=4) pK.nd rfl (T0 rfl) (cg a b (AA (BB 0) (AA (AI AE) AJ))))
 (AH (BH (Ak CH EX (dv 4) AE (Ah _)) (AK (Ab (A7 (AD (Aa AN Am (dv 1) AE) (AD (BN BA B_ rfl T.Gab jQ (AR (QT [("_law_feed_here":Str),("_law_tie":Str)] [P3 0,p_] (Bt (Aa AN Am (dv 1) AE)) (Af (i:=1) (show hZ [("_law_feed_here":Str),("_law_tie":Str)] by decide +kernel) rfl (T0 rfl)) (ID (Ak Q0 W7 (cg a b (AA (BB 0) (AA (AI AE) AJ))) AE (Ah _))) (dv 1) (by kernel_rfl)) AZ)) AS))))) Al)
 (AH (Wf (i:=5) pK.nd rfl (T0 rfl) rfl [("_law_thin":Str),("_law_feed_here":Str),("_law_tie":Str)] [P3 3,P3 0,p_] (Bt (Aa AN Am (dv 1) AE)) (λ_ _ _ _ _=>(Af (i:=2) (show hZ [("_law_thin":Str),("_law_feed_here":Str),("_law_tie":Str)] by decide +kernel) rfl (T0 rfl))) (λ_ _ _ _ _=>(ID (DTW.dt (C9 (Ak (I_ a) Lu (dv 2) (Aa AN Am (dv 0) AE) (by with_unfolding_all rfl)) (DJ (Ak CH EX (cg a b (AA (BB 1) (AA (AI AE) AJ))) AE (Ah _))))))) (λ_ _ _ _ _=>(dv 2)) (by kernel_rfl))
 (AH (BH (DTW.dt (LY (Ak CH EX (dv 4) AE (Ah _)) (H_ (Ak (Qy a) W1 (Ic 5) (Bi AS) (Ah _))))) (AK (YZ (i:=5) (pv 5) (cg a b (AA (BB 0) (AA (AI (Ao BM DY rfl T.Gac PySem.boot_len (AR (Ic 5) AZ))) AJ))))) Al)
 (AK (Ab (A7 (AD (Aa AN Am (dv 1) AE) (AD (BN BA B_ rfl T.Gab jQ (AR (Ic 5) AZ)) AS))))))))))) HC
theorem pM:Ac ["_law_which","_law_net_here","_law_times_here","_law_thin","_law_paper","_law_good"] ["_law_which","_law_net_here","_law_times_here","_law_thin","_law_paper"] (AM FY):=by walk_at "s"
theorem Nz(T:Txt K mg)(GR_lets_greedy:Gx P w K mg base)(GR_lets_ways:Jq P w K mg base)(F:Fu K "_law_lets" FY f fd):A3 P w K mg base CA 7 f fd ["_law_which","_law_net_here","_law_times_here","_law_thin","_law_paper"] (DC K .sh FE 5):=by
 let⟨C_NoPaper,U_NoPaper,b,c⟩:=T.x_NoPaper;exact EZ F pM (λd=>(AH (Aj (i:=5) pM.nd rfl (T0 rfl) CF)
 (AH (ao rfl rfl (λ_ _ h=>h) (LZ (am (Ak CH EX (dv 0) AE (Ah _)) (LZ (Sg (i:=5) pM.nd rfl (T0 rfl) (Sk Vz ZS (P7 GR_lets_ways (d.mono (by decide)) rfl (AA (AI (dv 1)) (AA (AI (dv 2)) (AA (AI (dv 3)) (AA (AI (dv 4)) AJ))))) CF (Ah _)))) (LZ (Sg (i:=5) pM.nd rfl (T0 rfl) (Sk Vz ZS (P7 GR_lets_greedy (d.mono (by decide)) rfl (AA (AI (dv 1)) (AA (AI (dv 2)) (AA (AI (dv 3)) (AA (AI (dv 4)) AJ))))) CF (Ah _))))))
 (Wi rfl c b.at_ (jK ⟨by decide,_,b⟩) rfl rfl (λa=>(AK (Aj (i:=5) pM.nd rfl (T0 rfl) CF)))
 av))
 (AK (Ab (dv 5)))))) Tb
theorem pN:Ac ["_law_net_here","_law_times_here","_law_thin","_law_place","_law_wide","_law_known","_law_other"] ["_law_net_here","_law_times_here","_law_thin"] (AM EL):=by walk_at "s"
theorem LB(T:Txt K mg)(c:FD P w K mg base)(F:Fu K "_law_within" EL f fd):A3 P w K mg base CA 2 f fd ["_law_net_here","_law_times_here","_law_thin"] (DC K .sh IX 3):=
 EZ F pN (λb=>(AH (CT gu rfl (JN (Aa AN Am (dv 0) AE)) (Af (i:=3) pN.nd rfl (T0 rfl)) (AH (Aj (i:=4) pN.nd rfl (T0 rfl) (Wn (cg b c (AA (Jk (Aa AN Am (dv 0) AE)) (AA (AI (dv 3)) AJ)))))
 (AH (Aj (i:=5) pN.nd rfl (T0 rfl) (Wn (cg b c (AA (Jk (Aa AN Am (dv 2) AE)) (AA (AI (dv 3)) AJ)))))
 (AK (CT gu rfl (Yd (dv 4)) (Af (i:=6) pN.nd rfl (T0 rfl)) (AK (BH (DTW.dt (C9 (Ak (Ee b) F3 (dv 6) (dv 5) (by with_unfolding_all rfl)) (DJ (Ak Q0 W7 (An C1 EW (CN b (dv 5) (dv 6)) (Aa AN Am (dv 1) AE)) (An C1 EW (CN b (dv 4) (dv 6)) (Aa AN Am (dv 1) AE)) (Ah _))))) (AK (Ab CF)) Al)))))))
 (AK (Ab CF)))) Jz
theorem pO:Ac ["_law_net_here","_law_times_here","_law_thin","_law_papers","_law_which","_law_paper"] ["_law_net_here","_law_times_here","_law_thin","_law_papers"] (AM Ey):=by walk_at "s"
theorem MD(T:Txt K mg)(b:GA P w K mg base)(c:D6 P w K mg base)(d:Gy P w K mg base)(F:Fu K "_law_right" Ey f fd):A3 P w K mg base CA 8 f fd ["_law_net_here","_law_times_here","_law_thin","_law_papers"] (DC K .sh GB 4):=
 EZ F pO (λa=>(AH (CT gu rfl (CV rfl T.Gad (AR AE AZ)) (Af (i:=4) pO.nd rfl (T0 rfl)) (AK (CT gu rfl (JN (Aa AN Am (dv 3) (dv 4))) (Af (i:=5) pO.nd rfl (T0 rfl)) (AK (BH (BL (cg a b (AA (AI (dv 4)) (AA (AI (dv 0)) (AA (AI (dv 1)) (AA (AI (dv 2)) (AA (AI (dv 5)) AJ))))))) (AH (BH (Bs (BL (cg a d (AA (AI (dv 0)) (AA (AI (dv 1)) (AA (AI (dv 2)) AJ)))))) (AK (Ab CF)) Al)
 (AK (BH (DTW.dt (LY (Ak CH EX (dv 4) AE (Ah _)) (H_ (Ak PP W3 (Ao (Mt a) W0 rfl T.Gak boot_repr (AR (dv 2) AZ)) (Ao (Mt a) W0 rfl T.Gak boot_repr (AR (cg a c (AA (AI (dv 0)) (AA (AI (dv 1)) AJ))) AZ)) (Ah _))))) (AK (Ab CF)) Al))) Al)))))
 (AK (Ab CF)))) Ql
theorem pR:Ac ["_law_feed_here","_law_net_here","_law_told","_law_greedy","_law_tie","_law_thin","_law_at","_law_row"] ["_law_feed_here","_law_net_here","_law_told","_law_greedy"] (AM DD):=by walk_at "s"
theorem JA(T:Txt K mg)(b:DM P w K mg base)(c:BU P w K mg base)(d:IS P w K mg base)(F:Fu K "_law_one_less" DD f fd):A3 P w K mg base CA 4 f fd ["_law_feed_here","_law_net_here","_law_told","_law_greedy"] (DC K .sh KZ 4):=
 EZ F pR (λa=>(AH (Aj (i:=4) pR.nd rfl (jK rfl) (Aa AN Am (Aa AN Am (dv 2) AE) (cg a c (AA (BB 0) (AA (AI (Ao BM DY rfl T.Gac PySem.boot_len (AR (Aa AN Am (dv 2) AE) AZ))) AJ)))))
 (AH (Aj (i:=5) pR.nd rfl (T0 rfl) (A7 (AD (Aa AN Am (dv 2) AE) (AD (BN BA B_ rfl T.Gab jQ (AR (QT [("_law_tie":Str),("_law_one":Str)] [P3 4,p_] (Bt (Aa AN Am (dv 2) AE)) (Af (i:=1) (show hZ [("_law_tie":Str),("_law_one":Str)] by decide +kernel) rfl (T0 rfl)) (ID (Ak (Qy a) W1 (dv 1) (dv 0) (Ah _))) (dv 1) (by kernel_rfl)) AZ)) AS))))
 (AH (Aj (i:=6) pR.nd rfl (T0 rfl) (ZO PySem.F.plainAttrs_list PySem.F.slot_list_index PySem.F.type_list_index (aL a) dS (cg a b (AA (AI (Aa AN Am (dv 1) AE)) AJ)) (AR (dv 4) AZ)))
 (AH (Aj (i:=7) pR.nd rfl (T0 rfl) (A7 (AD A_ (AD (cg a d (AA (AI (dv 5)) (AA (AI (Aa AN Am (dv 4) AE)) (AA (AI (Aa AN Am (dv 4) AE)) AJ)))) AS))))
 (AK (Ab (A7 (AD (dv 5) (AD (An Ap A4 (An Ap A4 (DV GX DX (dv 3) By (BZ (dv 6))) (A7 (AD (dv 7) AS))) (DV GX DX (dv 3) (BZ (An Ap A4 (dv 6) AE)) By)) AS)))))))))) Td
end
section
variable {P:Program}{w:World}{K:Frag}{mg:Str->t_ Value}{base:Heap}
theorem NV:Ac ["_law_script"] ["_law_script"] (AM FZ):=by constructor <;>first|rfl|decide +kernel
theorem N3{f:Ch}{fd:hU}(T:Txt K mg)(F:Fun K "_law_feed" "_law_feed" FZ f fd):A3 P w K mg base CA 1 f fd ["_law_script"] (NO K):=by
 refine F.ok NV (λi H Q E h=>?_) (λj A d s H i Q E n h=>?_)
 ·let⟨a,k,rfl,_⟩:=h
  rfl
 ·let⟨a,k,rfl,⟨l,m⟩,q⟩:=h
  exists _,CL (HD (Iz (BF (Ma IH rfl T.Gaf boot_list (BF (PJ sl_list (pv 0) R8 (R7 A1)) B6)) (BF A1 (BF A1 B6)))));refine⟨_,rfl,63,rfl,a,_,rfl,m,λp o=>⟨p,_,rfl,.inl (SqL.of AX),λc r=>⟨by show 3<=sizeLine;decide,λg e=>?_⟩⟩⟩;rw[dP l]at e ⊢;have b:c≠g:=λz=>by rw[←z,AX]at e;cases e
  exact q c g _ b (by rw[AT b,AX]) AX
theorem pS:Ac ["_law_script","_law_feed_here","_law_net_here","_law_times_here","_law_told","_law_greedy","_law_own","_law_k","_law_thin","_law_paper","_law_ways","_law_papers"] ["_law_script"] (AM Ku):=by walk_at "s"
theorem aI{f e:Ch}{fd c:hU}(T:Txt K mg)(n:A3 P w K mg base CA 1 e c ["_law_script"] (NO K))(o:mg "_law_feed"=P3 (.ref e))(p:keepIn K (.ref e)=q_)(q:Binds K c ["_law_script"] [])
  (d:Jt P w K mg base) (g:GA P w K mg base) (r:Lw P w K mg base) (l:BU P w K mg base) (t:FJ P w K mg base) (m:IW P w K mg base) (u:En P w K mg base) (v:IV P w K mg base) (x:F9 P w K mg base) (y:JR P w K mg base) (h:IR P w K mg base) (F:Fun K "law" "law" Ku f fd):A3 P w K mg base CA 9 f fd ["_law_script"] (O0 K):=by
 exact dE (n0:=3000) F pS rfl (by decide) (λk A b s H E a=>E4 (i:=1) pS.nd rfl (T0 rfl) (Nl n (a.mono (by decide)) rfl o p q .nil Vv (BF (pv 0) B6)))
  (λk A b s H E a=>(AH (Aj (i:=2) pS.nd rfl (T0 rfl) (cg a r (AA (BB 1) (AA (AI AE) (AA (AI AE) AJ)))))
 (AH (Aj (i:=3) pS.nd rfl (T0 rfl) (cg a v (AA (BB 1) AJ)))
 (AH (Aj (i:=4) pS.nd rfl (T0 rfl) (cg a y (AA (AI (dv 2)) (AA (AI (dv 3)) AJ))))
 (AH (Aj (i:=5) pS.nd rfl (T0 rfl) (cg a x (AA (AI (dv 2)) (AA (AI (dv 3)) AJ))))
 (AH (Aj (i:=6) pS.nd rfl (T0 rfl) (cg a h (AA (AI (dv 2)) (AA (AI (dv 3)) (AA (AI (dv 4)) AJ)))))
 (AH (BH (DTW.dt (C9 (Bs (BL (cg a g (AA (AI AE) (AA (AI (dv 2)) (AA (AI (dv 3)) (AA (AI (dv 4)) (AA (AI (dv 6)) AJ)))))))) (DJ (Bs (BL (cg a g (AA (AI AE) (AA (AI (dv 2)) (AA (AI (dv 3)) (AA (AI (dv 4)) (AA (AI (dv 5)) AJ))))))))))) (AK (Ab CF)) Al)
 (AH (CT gu rfl (CV rfl T.Gad (AR (An C1 EW AE (BN Mu W6 rfl T.Gai boot_int (AR (Cj (Qy a) W1 (Aa AN Am (dv 4) AE) (A7 AS) (Ah _)) AZ))) AZ)) (Af (i:=7) pS.nd rfl (T0 rfl)) (AH (aq (cg a t (AA (BB 1) (AA (AI (dv 2)) (AA (AI (dv 4)) (AA (AI (dv 5)) AJ))))) (ET rfl (A6 (Af (i:=8) pS.nd rfl (T0 rfl)) (A6 (Af (i:=9) pS.nd rfl (T0 rfl)) C2))))
 (AK (BH (Bs (BL (cg a m (AA (AI (dv 2)) (AA (AI (dv 3)) (AA (AI (dv 8)) (AA (AI (Bi (AD (Bi (AD (cg a h (AA (AI (dv 2)) (AA (AI (dv 3)) (AA (AI (dv 8)) AJ)))) AS)) (AD (Bi (AD (dv 9) AS)) AS)))) AJ))))))) (AK (Ab CF)) Al))))
 (AH (CT gu rfl (CV rfl T.Gad (AR AE AZ)) (Af (i:=7) pS.nd rfl (T0 rfl)) (AH (Aj (i:=8) pS.nd rfl (T0 rfl) (Aa AN Am (Bi (AD (cg a u (AA (BB 1) (AA (AI (dv 2)) (AA (AI (dv 3)) AJ)))) (AD (dv 4) AS))) (BN Mu W6 rfl T.Gai boot_int (AR (Cj CH EX (cg a l (AA (BB 1) (AA (AI AE) AJ))) AE (Ah _)) AZ))))
 (AH (Aj (i:=10) pS.nd rfl (T0 rfl) (cg a h (AA (AI (dv 2)) (AA (AI (dv 3)) (AA (AI (dv 8)) AJ)))))
 (We (i:=11) (j:=1) pS.nd rfl (T0 rfl) (λ_=>pv 11) (λ_=>pv 1) (AD (dv 10) (AD (dv 6) (AD (cg a d (AA (BB 1) (AA (AI (dv 6)) (AA (AI AE) AJ)))) AS))) (AD (dv 5) (AD (cg a d (AA (BB 1) (AA (AI (dv 5)) (AA (AI AE) AJ)))) AS)) (Ak Hq Ls (dv 10) BV (Ah _)) (AD (cg a d (AA (BB 1) (AA (AI (dv 10)) (AA (AI AE) AJ)))) AS) (Ak CH EX (cg a l (AA (BB 1) (AA (AI AE) AJ))) AE (Ah _)) d (a.mono (by decide)) rfl
 (AH (BH (Bs (BL (cg a m (AA (AI (dv 2)) (AA (AI (dv 3)) (AA (AI (dv 8)) (AA (AI (dv 11)) AJ))))))) (AK (Ab CF)) Al)
 (AK (BH (Ak PP W3 (Cj Hq Ls (dv 10) BV (Ah _)) (cg a g (AA (AI AE) (AA (AI (dv 2)) (AA (AI (dv 3)) (AA (AI (dv 8)) (AA (AI (dv 10)) AJ)))))) (Ah _)) (AK (Ab CF)) Al)))))))
 (AK (Ab CF))))))))))) Qo
end
theorem HG{d:Type}{n:Nat}(g k:s_ Db->d)(b:s_ Db)(h:b.length=n+1)(c:∀(a:Db) (r:s_ Db),r.length=n->g (a::r)=k (a::r)):g b=k b:=by
 cases b with
 |nil=>cases h
 |cons a r=>exact c a r (kj h)
theorem len0{d:Type}(g k:s_ Db->d)(b:s_ Db)(h:b.length=0)(c:g []=k []):g b=k b:=by
 cases b with
 |nil=>exact c
 |cons a r=>cases h
theorem fm{d:hU}{b:s_ Str}(c:∀a:Db,bindArgs d ⟨[a],[]⟩=pure (b.zip [a]))(e:s_ Db)(h:e.length=1):bindArgs d ⟨e,[]⟩=pure (b.zip e):=HG (λr=>bindArgs d ⟨r,[]⟩) (λr=>pure (b.zip (r))) e h λa r h=>len0 (λr=>bindArgs d ⟨a::r,[]⟩) (λr=>pure (b.zip (a::r))) r h (c a)
theorem gL{d:hU}{e:s_ Str}(c:∀a b:Db,bindArgs d ⟨[a,b],[]⟩=pure (e.zip [a,b]))(f:s_ Db)(h:f.length=2):bindArgs d ⟨f,[]⟩=pure (e.zip f):=HG (λr=>bindArgs d ⟨r,[]⟩) (λr=>pure (e.zip (r))) f h λa r h=>HG (λr=>bindArgs d ⟨a::r,[]⟩) (λr=>pure (e.zip (a::r))) r h λb r h=>len0 (λr=>bindArgs d ⟨a::b::r,[]⟩) (λr=>pure (e.zip (a::b::r))) r h (c a b)
theorem fk{d:hU}{e:s_ Str}(c:∀a b f:Db,bindArgs d ⟨[a,b,f],[]⟩=pure (e.zip [a,b,f]))(g:s_ Db)(h:g.length=3):bindArgs d ⟨g,[]⟩=pure (e.zip g):=HG (λr=>bindArgs d ⟨r,[]⟩) (λr=>pure (e.zip (r))) g h λa r h=>HG (λr=>bindArgs d ⟨a::r,[]⟩) (λr=>pure (e.zip (a::r))) r h λb r h=>HG (λr=>bindArgs d ⟨a::b::r,[]⟩) (λr=>pure (e.zip (a::b::r))) r h λf r h=>len0 (λr=>bindArgs d ⟨a::b::f::r,[]⟩) (λr=>pure (e.zip (a::b::f::r))) r h (c a b f)
theorem gK{d:hU}{f:s_ Str}(c:∀a b e g:Db,bindArgs d ⟨[a,b,e,g],[]⟩=pure (f.zip [a,b,e,g]))(i:s_ Db)(h:i.length=4):bindArgs d ⟨i,[]⟩=pure (f.zip i):=HG (λr=>bindArgs d ⟨r,[]⟩) (λr=>pure (f.zip (r))) i h λa r h=>HG (λr=>bindArgs d ⟨a::r,[]⟩) (λr=>pure (f.zip (a::r))) r h λb r h=>HG (λr=>bindArgs d ⟨a::b::r,[]⟩) (λr=>pure (f.zip (a::b::r))) r h λe r h=>HG (λr=>bindArgs d ⟨a::b::e::r,[]⟩) (λr=>pure (f.zip (a::b::e::r))) r h λg r h=>len0 (λr=>bindArgs d ⟨a::b::e::g::r,[]⟩) (λr=>pure (f.zip (a::b::e::g::r))) r h (c a b e g)
theorem gJ{d:hU}{f:s_ Str}(c:∀a b e g i:Db,bindArgs d ⟨[a,b,e,g,i],[]⟩=pure (f.zip [a,b,e,g,i]))(j:s_ Db)(h:j.length=5):bindArgs d ⟨j,[]⟩=pure (f.zip j):=HG (λr=>bindArgs d ⟨r,[]⟩) (λr=>pure (f.zip (r))) j h λa r h=>HG (λr=>bindArgs d ⟨a::r,[]⟩) (λr=>pure (f.zip (a::r))) r h λb r h=>HG (λr=>bindArgs d ⟨a::b::r,[]⟩) (λr=>pure (f.zip (a::b::r))) r h λe r h=>HG (λr=>bindArgs d ⟨a::b::e::r,[]⟩) (λr=>pure (f.zip (a::b::e::r))) r h λg r h=>HG (λr=>bindArgs d ⟨a::b::e::g::r,[]⟩) (λr=>pure (f.zip (a::b::e::g::r))) r h λi r h=>len0 (λr=>bindArgs d ⟨a::b::e::g::i::r,[]⟩) (λr=>pure (f.zip (a::b::e::g::i::r))) r h (c a b e g i)
def Ht(K:Frag)(x:Str)(a:gm):Prop:=∃(f:Ch) (c:Db) (d e:t_ Ch) (g:Array (t_ Db)) (kV h i b j:Db),nsIn K mainGlobals x=P3 (P3 (.ref f))/\K.lookup f=P3 ⟨c,d,.func (fnOf x x (Ci a) (Bl a) (AM a) .none kV h i e b j),g⟩/\codeIn K b x=q_/\keepIn K (.ref f)=q_
def Hn(K:Frag)(x:Str):Prop:=nsIn K mainGlobals x=P3 p_
theorem Ht.mk{K:Frag}{x:Str}{b:gm}{f:Ch}{e:Db}{g h:t_ Ch}{i:Array (t_ Db)}{kV j m d n:Db}(a:nsIn K mainGlobals x=P3 (P3 (.ref f)))(l:K.lookup f=P3 ⟨e,g,.func (fnOf x x (Ci b) (Bl b) (AM b) .none kV j m h d n),i⟩)(c:codeIn K d x=q_)(k:keepIn K (.ref f)=q_):Ht K x b:=⟨f,e,g,h,i,kV,j,m,d,n,a,l,c,k⟩
theorem Hn.mk{K:Frag}{x:Str}(a:nsIn K mainGlobals x=P3 p_):Hn K x:=a
section
variable {P:Program}{w:World}{K:Frag}{mg:Str->t_ Value}{h base:Heap}{x:Str}{st:Stmt}
theorem Ht.fn(X:K.In h)(G:h.Ns mainGlobals mg)(H:Ht K x st):∃f fd,mg x=P3 (.ref f)/\Fun K x x st f fd:=by
 let⟨f,b,d,e,g,i,j,m,n,o,a,l,c,k⟩:=H;exact⟨f,_,mg_of X G a,RK (st:=st) l c k⟩
theorem Ht.got{k:Nat}{a:s_ Str}{g:Kd}{W:W2}(X:K.In h)(G:h.Ns mainGlobals mg)(H:Ht K x st)(ok:∀{f:Ch}{fd:hU},Fun K x x st f fd->mg x=P3 (.ref f)->Binds K fd a []->A3 P w K mg base CA k f fd a (DC K g W a.length))(hW:∀i n P,W i n P->i.length=a.length:=by walk_at "l")(j:∀(kV c l:Db) (o:t_ Ch) (d p:Db) (e:s_ Db),e.length=a.length->bindArgs (fnOf x x (Ci st) (Bl st) (AM st) .none kV c l o d p) ⟨e,[]⟩=pure (a.zip e):=by walk_at "b"):Got P w K mg base x k a g W:=by
 let⟨f,fd,m,F⟩:=H.fn X G;have b:=F.binds j;exact RJ F m b hW (ok F m b)
end
theorem xc_mk{K:Frag}{i q k:Str}{C U N l:Ch}{bs c sub a:s_ Db}{m d:s_ Str}{n e f:Bool}{g b:t_ Bool}{p h:t_ Ch}{r s t v w x y z A B:t_ Db}(at_:nsIn K mainGlobals i=P3 (P3 (.ref C)))(j:nsIn K mainGlobals "ThinError"=P3 (P3 (.ref U)))
  (o:K.lookup C=P3 (excClassObj i q C N bs (.ref U::[.type "ValueError",.type "Exception",.type "BaseException",.type "object"]) q_ m sub n g p r s t v w "ValueError.__new__"))
  (u:K.lookup U=P3 (excClassObj "ThinError" k U l c [.type "ValueError",.type "Exception",.type "BaseException",.type "object"] f d a e b h x y z A B "ValueError.__new__"))
  (D:keepIn K (.ref C)=q_) (E:PySem.W.findIn K (.ref C) "__getattribute__"=P3 (P3 (.builtin "BaseException.__getattribute__"))) (F:PySem.W.findIn K (.ref C) "__getattr__"=P3 p_) (G:PySem.W.findIn K (.ref C) "__setattr__"=P3 (P3 (.builtin "object.__setattr__"))) (H:PySem.W.findIn K (.ref C) "__class__"=P3 (P3 (.builtin "object.__class__")))
  (I:PySem.W.findIn K (.ref C) "word"=P3 p_) (J:PySem.W.findIn K (.ref C) "number"=P3 p_) (L:PySem.W.findIn K (.ref C) "row"=P3 p_):XC K i C U:=
 ⟨⟨q,N,bs,m,sub,n,g,p,r,s,t,v,w,o⟩,⟨k,l,c,d,a,e,b,h,x,y,z,A,B,f,u⟩,D,E,F,G,at_,j,H,I,J,L⟩
def H2(K:Frag)(d a:Str)(b:gm):Prop:=∃C U,XC K d C U/\∃(f:Ch) (e:Db) (g h:t_ Ch) (i:Array (t_ Db)) (kV j k c l:Db),PySem.W.findIn K (.ref C) "__init__"=P3 (P3 (.ref f))/\PySem.W.typeIn K (.ref f)=P3 (.type "function")/\K.lookup f=P3 ⟨e,g,.func (fnOf "__init__" a (Ci b) (Bl b) (AM b) .none kV j k h c l),i⟩/\codeIn K c a=q_/\keepIn K (.ref f)=q_
theorem H2.mk{K:Frag}{e a:Str}{b:gm}{C U f:Ch}{g:Db}{h j:t_ Ch}{m:Array (t_ Db)}{kV n o d p:Db}(c:XC K e C U)(i:PySem.W.findIn K (.ref C) "__init__"=P3 (P3 (.ref f)))(ty:PySem.W.typeIn K (.ref f)=P3 (.type "function"))
  (l:K.lookup f=P3 ⟨g,h,.func (fnOf "__init__" a (Ci b) (Bl b) (AM b) .none kV n o j d p),m⟩) (q:codeIn K d a=q_) (k:keepIn K (.ref f)=q_):H2 K e a b:=⟨C,U,c,f,g,h,j,m,kV,n,o,d,p,i,ty,l,q,k⟩
section
variable {P:Program}{w:World}{K:Frag}{mg:Str->t_ Value}{h base:Heap}{x:Str}{st:Stmt}
theorem H2.xm{b a:Str}(X:K.In h)(G:h.Ns mainGlobals mg)(H:H2 K b a st):∃C U,XC K b C U/\mg b=P3 (.ref C):=let ⟨C,U,c,_⟩:=H;⟨C,U,c,mg_of X G c.at_⟩
theorem H2.u{b a:Str}(X:K.In h)(G:h.Ns mainGlobals mg)(H:H2 K b a st):∃U,bp K U/\mg "ThinError"=P3 (.ref U)/\nsIn K mainGlobals "ThinError"=P3 (P3 (.ref U)):=let ⟨C,U,c,_⟩:=H;⟨U,c.isU,mg_of X G c.atU,c.atU⟩
theorem Ht.gotR{k:Nat}{a:s_ Str}{e:Kd}{W:WX}(X:K.In h)(G:h.Ns mainGlobals mg)(H:Ht K x st)(i:∀g n P j,W g n P j->g.length=a.length)
  (l:∀(kV b o:Db) (p:t_ Ch) (c q:Db) (d:s_ Db),d.length=a.length->bindArgs (fnOf x x (Ci st) (Bl st) (AM st) .none kV b o p c q) ⟨d,[]⟩=pure (a.zip d))
  (ok:∀{f:Ch}{fd:hU},Fun K x x st f fd->A3 P w K mg base (Ra P w) k f fd a (cI K e W a.length)):Yp P w K mg base x k a e W:=by
 let⟨f,fd,m,F⟩:=H.fn X G;exact⟨f,fd,ok F,m,F.kp,F.binds l,i⟩
end
theorem RH{P:gi}{w:gn}{K:Frag}{b:Str->t_ Db}{h a:gf}(X:K.In h)(G:h.Ns mainGlobals b)(H:H2 K "NoPaper" "NoPaper.__init__" B4):XB P w K b a "NoPaper" ["word","number"] 1:=by
 let⟨C,U,c,f,e,g,j,m,n,o,p,q,r,i,ty,l,d,k⟩:=H;have F:=RK (st:=B4) l d k;exact⟨C,U,c,mg_of X G c.at_,.inr ⟨_,_,f,_,_,_,_,rfl,i,ty,J7 c F,F.binds λ_ _ _ _ _ _=>fk λ_ _ _=>rfl⟩⟩
local macro_rules|`(tactic|walk_at "l")=>`(tactic|(intro _ _ _ h;repeat (first|(obtain⟨e,_⟩:=h;subst e;rfl)|(obtain⟨_,h⟩:=h))))
local macro_rules|`(tactic|walk_at "b")=>`(tactic|(intro _ _ _ _ _ _;first|exact fm λ_=>rfl|exact gL λ_ _=>rfl|exact fk λ_ _ _=>rfl|exact gK λ_ _ _ _=>rfl|exact gJ λ_ _ _ _ _=>rfl))
theorem all_mk{l:PySem.W.OpenLaw}{w:gn}{K:Frag}{h:gf}{d:Str->t_ Db}{fa:Ch}(X:K.In h)(G:h.Ns mainGlobals d)(n:d "law"=P3 (.ref fa))
  (h0:Ht K "is_whole" G9) (h1:Ht K "is_tuple_of" EK) (h2:Ht K "is_rising" FX) (h3:Ht K "rank_of" Iu) (h4:Ht K "order_of" G6) (h5:Ht K "steps_of" G5) (h6:Ht K "only" Qj) (h7:Ht K "is_tie_of" FW) (h8:Ht K "is_thin" Iv) (h9:Ht K "ahead_of" G_) (o:Ht K "left_out" G8) (p:Ht K "length_of" FU) (q:Ht K "length_between" Cs) (r:Ht K "nearest_of" Et) (t:Ht K "least_ways" Eu) (x:Ht K "way_of" Kt) (y:Ht K "are_prices" Ew) (z:Ht K "price_gap" FS) (A:Ht K "is_fair" Iw) (B:Ht K "prices_from" EI) (C:Ht K "is_within" FV) (D:Ht K "least_beyond" Dk) (E:Ht K "near_way" G7) (H:Ht K "thinned" Ir) (I:Ht K "greedy_paper" Dl) (J:Ht K "ways_paper" Es) (L:Ht K "way_fault" FR) (M:Ht K "prices_fault" Di) (N:Ht K "greedy_fault" Dn) (O:Ht K "is_greedy_entry" CY) (Q:Ht K "lets_greedy" EJ) (R:Ht K "lets_ways" FT) (S:Ht K "_law_feed" FZ) (U:Ht K "_law_next" EB) (V:Ht K "_law_places" EM) (Y:Ht K "_law_length" EN) (Z:Ht K "_law_net" HB) (a0:Ht K "_law_times" Ex) (a1:Ht K "_law_in_order" DF) (a2:Ht K "_law_least" Ez) (a3:Ht K "_law_thinned" Do) (a4:Ht K "_law_odd" HA) (a5:Ht K "_law_bent" Fa) (a6:Ht K "_law_some_thin" Ct) (a7:Ht K "_law_lets" FY) (a8:Ht K "_law_within" EL) (a9:Ht K "_law_right" Ey) (b0:Ht K "_law_one_less" DD) (b1:Ht K "law" Ku)
  (z0:Hn K "abs") (z1:Hn K "all") (z2:Hn K "bool") (z3:Hn K "enumerate") (z4:Hn K "int") (z5:Hn K "isinstance") (z6:Hn K "len") (z7:Hn K "list") (z8:Hn K "min") (z9:Hn K "range") (b2:Hn K "repr") (b3:Hn K "reversed") (b4:Hn K "sorted") (b5:Hn K "str") (b6:Hn K "tuple") (b7:Hn K "zip") 
  (y0:H2 K "NoPaper" "NoPaper.__init__" B4)
  :∃fd:hU,(∀(s:Go) (v:Db),lj s fd ⟨[v],[]⟩ [("_law_script",v)])/\∀base:gf,K.In base->base.Ns mainGlobals d->A3 l.prog w K d base CA 9 fa fd ["_law_script"] (O0 K):=by
 have T:Txt K d:=⟨mg_none_of X G z0,mg_none_of X G z1,mg_none_of X G z2,mg_none_of X G z3,mg_none_of X G z4,mg_none_of X G z5,mg_none_of X G z6,mg_none_of X G z7,mg_none_of X G z8,mg_none_of X G z9,mg_none_of X G b2,mg_none_of X G b3,mg_none_of X G b4,mg_none_of X G b5,mg_none_of X G b6,mg_none_of X G b7,y0.xm X G,y0.u X G⟩;let⟨ff,b8,mf,Ff⟩:=S.fn X G;have bf:=Ff.binds (ps:=["_law_script"]) λ_ _ _ _ _ _=>fm λ_=>rfl;let⟨f,oc,od,an,sl,kV,dc,pm,cd,ct,a,l',c,k⟩:=b1;have e:=n.symm.trans (mg_of X G a);cases e;refine⟨fnOf "law" "law" (Ci Ku) (Bl Ku) (AM Ku) .none kV dc pm an cd ct,λs v=>.of_eq rfl,λbase _ _=>?_⟩;have GX_NoPaper:XB l.prog w K d base "NoPaper" ["word","number"] 1:=RH X G y0;have n_:HU l.prog w K d base:=h0.got X G (hW:=λ_ _ _ h=>Tf h) λF m b=>PY T F;have i:Bv l.prog w K d base:=h1.got X G λF m b=>LA T F;have oA:Js l.prog w K d base:=h2.got X G λF m b=>Ny T F;have n8:JS l.prog w K d base:=h3.got X G λF m b=>Q3 T F;have j:D5 l.prog w K d base:=h4.got X G λF m b=>PR T n8 F;have oH:HQ l.prog w K d base:=h5.got X G λF m b=>PQ F;have oE:RY l.prog w K d base:=h6.got X G λF m b=>X4 T F;have oB:Jr l.prog w K d base:=h7.got X G λF m b=>Nx T n_ F;have o5:JT l.prog w K d base:=h8.got X G λF m b=>Q4 T oA oB i F;have oZ:HV l.prog w K d base:=h9.got X G λF m b=>PZ T oE n8 F;have oj:HS l.prog w K d base:=o.got X G λF m b=>PV T j F;have oJ:F7 l.prog w K d base:=p.got X G λF m b=>Nv T oH F;have on:Em l.prog w K d base:=q.got X G λF m b=>Hr T oJ F;have oM:IT l.prog w K d base:=r.got X G λF m b=>L_ T F;have oO:FC l.prog w K d base:=t.got X G λF m b=>MA T oM oH F;have oV:IS l.prog w K d base:=x.got X G λF m b=>Tx T oO F;have oP:IU l.prog w K d base:=y.got X G λF m b=>MB T i n_ F;have oQ:F6 l.prog w K d base:=z.got X G λF m b=>Nq T F;have oo:NA l.prog w K d base:=A.got X G λF m b=>Q5 T oP oQ F;have og:Gw l.prog w K d base:=B.got X G λF m b=>K9 T oO F;have oU:ED l.prog w K d base:=C.got X G λF m b=>Nw T F;have oa:F8 l.prog w K d base:=D.got X G λF m b=>J3 T F;have oX:HR l.prog w K d base:=E.got X G λF m b=>PU T oU oJ oV F;have oh:JR l.prog w K d base:=H.got X G λF m b=>Q2 T oX oE j F;have pZ:F9 l.prog w K d base:=I.got X G λF m b=>J4 T oZ oa j og oh oV F;have pc:IR l.prog w K d base:=J.got X G λF m b=>L9 T oj oX F;have oy:F4 l.prog w K d base:=L.got X G λF m b=>Np T oU on F;have ou:F5 l.prog w K d base:=M.got X G λF m b=>J1 T oo oU oQ F;have o0:F_ l.prog w K d base:=N.got X G λF m b=>J5 T oZ ou oy F;have o4:EG l.prog w K d base:=O.got X G λF m b=>HE T i F;have GR_lets_greedy:Gx l.prog w K d base:=Q.gotR X G (λ_ _ _ _ h=>by let⟨_,_,_,_,_,e,_⟩:=h;rw[e];rfl) (by walk_at "b") λF=>K_ T o0 o4 o5 i j GX_NoPaper F;have GR_lets_ways:Jq l.prog w K d base:=R.gotR X G (λ_ _ _ _ h=>by let⟨_,_,_,_,_,e,_⟩:=h;rw[e];rfl) (by walk_at "b") λF=>Nu T o5 i oj oy GX_NoPaper F;have Gf:=N3 (P:=l.prog) (w:=w) (base:=base) T Ff;have g:BU l.prog w K d base:=U.got X G λF m b=>X5 F T.Gac;have pA:Gz l.prog w K d base:=V.got X G λF m b=>LC T g F;have o_:G0 l.prog w K d base:=Y.got X G λF m b=>LD T g F;have pU:Lw l.prog w K d base:=Z.got X G λF m b=>Pb T o_ g pA F;have pY:IV l.prog w K d base:=a0.got X G λF m b=>MC T g F;have pE:DM l.prog w K d base:=a1.got X G λF m b=>JB T F;have pF:FD l.prog w K d base:=a2.got X G λF m b=>ME T F;have pL:D6 l.prog w K d base:=a3.got X G λF m b=>J6 T pE pF F;have pI:Lv l.prog w K d base:=a4.got X G λF m b=>Pa T g F;have pJ:Jt l.prog w K d base:=a5.got X G λF m b=>Hu T g pI F m b 4;have pX:En l.prog w K d base:=a6.got X G λF m b=>Hs T g pL F;have pP:GA l.prog w K d base:=a7.got X G λF m b=>Nz T GR_lets_greedy GR_lets_ways F;have pQ:Gy l.prog w K d base:=a8.got X G λF m b=>LB T pF F;have pW:IW l.prog w K d base:=a9.got X G λF m b=>MD T pP pL pQ F;have pV:FJ l.prog w K d base:=b0.got X G λF m b=>JA T pE g oV F;exact aI T Gf mf Ff.kp bf pJ pP pU g pV pW pX pY pZ oh pc (RK (st:=Ku) l' c k)
theorem walk{l:PySem.W.OpenLaw}{q:gi}{c:s_ Str}{m:(Str->t_ Db)->gf->Prop}{i:gn->gf->Prop}{d:DefRec}{K:Params->Frag}(o:l.most=P3 63)(g:d.params.defaults=[])
  (p:∀(w:gn) (h:gf),i w h->(K w.params).In h)
  (F:∀(w:gn) (e:Str->t_ Db) (j:Ch) (h:gf),(K w.params).In h->h.Ns mainGlobals e->e d.name=P3 (.ref j)->
   ∃fd:hU,(∀(s:Go) (u:Db),lj s fd ⟨[u],[]⟩ [("_law_script",u)])/\∀b:gf,(K w.params).In b->b.Ns mainGlobals e->A3 l.prog w (K w.params) e b CA 9 j fd ["_law_script"] (O0 (K w.params))):
  PySem.W.WalkO q c m i l.row.toRowW d [] (λf r=>PySem.call f r):=
 L2.Rb (n:=63) (k:=9) (x:="_law_script") (CX:=λ_=>CA) (sp:=λw=>O0 (K w.params)) o (by decide) g ⟨rfl,by decide,by decide,rfl⟩ p F (λ_ _ a t v _ y=>⟨a,t,rfl,⟨v,y⟩,λ_=>rfl⟩) λ_ _ _ _ _ z=>z
end K15
end _p
namespace PySem.W.Fast
theorem tw2730250787872406893:True:=⟨⟩
theorem tw6808166868870848673:True:=⟨⟩
theorem tw13565042914350101269:True:=⟨⟩
theorem tw9206684595088401004:True:=⟨⟩
theorem tw765576817685421235:True:=⟨⟩
theorem tw10103419202806166682:True:=⟨⟩
theorem tw16668760039892627574:True:=⟨⟩
theorem tw5749058716792505177:True:=⟨⟩
theorem tw3194831190164889864:True:=⟨⟩
theorem tw13542582584805597679:True:=⟨⟩
theorem tw17131449682347887216:True:=⟨⟩
theorem tw3199273692877384975:True:=⟨⟩
theorem tw13674465659111638005:True:=⟨⟩
theorem tw14731000924355256116:True:=⟨⟩
theorem tw15658748026897733036:True:=⟨⟩
theorem tw3616962362569056698:True:=⟨⟩
theorem tw9959310615583334976:True:=⟨⟩
theorem tw17820749725688734793:True:=⟨⟩
theorem tw529142635539134655:True:=⟨⟩
theorem tw7837700898405877132:True:=⟨⟩
theorem tw217732272961726713:True:=⟨⟩
theorem tw12399834833843617819:True:=⟨⟩
theorem tw1248052537367516523:True:=⟨⟩
theorem tw11922932582316936413:True:=⟨⟩
theorem tw735339196132676101:True:=⟨⟩
theorem tw12323466225663782103:True:=⟨⟩
theorem tw16091948080476411661:True:=⟨⟩
theorem tw14785965565504583092:True:=⟨⟩
theorem tw12920789195847422899:True:=⟨⟩
theorem tw6956475112346250516:True:=⟨⟩
theorem tw18130709623474453129:True:=⟨⟩
theorem tw4539066916446327188:True:=⟨⟩
theorem tw6027705776448445747:True:=⟨⟩
theorem tw14255996546316312204:True:=⟨⟩
theorem tw2121591507635493965:True:=⟨⟩
theorem tw13548034586678029190:True:=⟨⟩
theorem tw7166082665464683372:True:=⟨⟩
theorem tw16235866415744859044:True:=⟨⟩
theorem tw2623999158500499756:True:=⟨⟩
theorem tw13802802843806802748:True:=⟨⟩
theorem tw11353510342033344274:True:=⟨⟩
theorem tw4141395668578035837:True:=⟨⟩
theorem tw13338758643445458033:True:=⟨⟩
theorem tw11303176202681303483:True:=⟨⟩
theorem tw16779849581376977907:True:=⟨⟩
theorem tw18041318374343040108:True:=⟨⟩
theorem tw12259745240632035598:True:=⟨⟩
theorem tw17196332397591279190:True:=⟨⟩
theorem tw15645206963573119204:True:=⟨⟩
theorem tw1709876267837843843:True:=⟨⟩
theorem tw4487627326487676897:True:=⟨⟩
theorem tw16257854519054513886:True:=⟨⟩
theorem tw3814727776698377078:True:=⟨⟩
theorem tw15561576496091770842:True:=⟨⟩
theorem tw5185332370730919313:True:=⟨⟩
theorem tw10281664482736920696:True:=⟨⟩
theorem tw1744150485639549684:True:=⟨⟩
theorem tw8502062799073961380:True:=⟨⟩
theorem tw6705690107977864144:True:=⟨⟩
theorem tw10345732853154441468:True:=⟨⟩
theorem tw9815589876711739175:True:=⟨⟩
theorem tw2934331133967016490:True:=⟨⟩
theorem tw142730045336497111:True:=⟨⟩
theorem tw14950723292699174553:True:=⟨⟩
theorem tw7369055097606651793:True:=⟨⟩
theorem tw11948884162818706172:True:=⟨⟩
theorem tw311252538655146590:True:=⟨⟩
theorem tw5333646500002186996:True:=⟨⟩
theorem tw15161201083419992956:True:=⟨⟩
theorem tw3133351566394660528:True:=⟨⟩
theorem tw49755148783829381:True:=⟨⟩
theorem tw1941594064045685866:True:=⟨⟩
theorem tw11329139858784501413:True:=⟨⟩
theorem tw12065194938028502190:True:=⟨⟩
theorem tw3391857633517622805:True:=⟨⟩
theorem tw4742081922139850245:True:=⟨⟩
theorem tw7286408248739609171:True:=⟨⟩
theorem tw5087573104883468041:True:=⟨⟩
theorem tw4474769324708601210:True:=⟨⟩
theorem tw16267264447004081544:True:=⟨⟩
theorem tw17644809761860132655:True:=⟨⟩
theorem tw17629289522928451063:True:=⟨⟩
theorem tw14801046374175314932:True:=⟨⟩
theorem tw11115428022106504941:True:=⟨⟩
theorem tw6354265142982282240:True:=⟨⟩
theorem tw8139285966835422997:True:=⟨⟩
theorem tw6464919866315442514:True:=⟨⟩
theorem tw514240363174349661:True:=⟨⟩
theorem tw17210674493362803121:True:=⟨⟩
theorem tw14422251465009705762:True:=⟨⟩
theorem tw8635811118420317608:True:=⟨⟩
theorem tw7074578668500590068:True:=⟨⟩
theorem tw12268929593933971532:True:=⟨⟩
theorem tw14333394085322847451:True:=⟨⟩
theorem tw369078075691547832:True:=⟨⟩
theorem tw17246111275621164336:True:=⟨⟩
theorem tw1058821507795041469:True:=⟨⟩
theorem tw8677747155045849813:True:=⟨⟩
theorem tw2644613389067125732:True:=⟨⟩
theorem tw6183105103659480835:True:=⟨⟩
theorem tw7182744355979016857:True:=⟨⟩
theorem tw15936445767161217216:True:=⟨⟩
theorem tw8373289324946054268:True:=⟨⟩
theorem tw12399268696428931714:True:=⟨⟩
theorem tw16262565725764332156:True:=⟨⟩
theorem tw14000129262642800285:True:=⟨⟩
theorem tw10850051566931360627:True:=⟨⟩
theorem tw85728165437709101:True:=⟨⟩
theorem tw13084044861201182025:True:=⟨⟩
theorem tw7718800972365712142:True:=⟨⟩
theorem tw7237545555852866208:True:=⟨⟩
theorem tw4219862121963853612:True:=⟨⟩
theorem tw15764601764332186456:True:=⟨⟩
theorem tw16497566570163939360:True:=⟨⟩
theorem tw8702330374837341574:True:=⟨⟩
theorem tw11509106454264572140:True:=⟨⟩
theorem tw12519160887489731027:True:=⟨⟩
theorem tw7760617652509826005:True:=⟨⟩
theorem tw17753165108916992755:True:=⟨⟩
theorem tw3047974888982554847:True:=⟨⟩
theorem tw7750175621115460080:True:=⟨⟩
theorem tw9289135351619763651:True:=⟨⟩
theorem tw16343849312992875943:True:=⟨⟩
theorem tw11327659577015350874:True:=⟨⟩
theorem tw15112867587873871504:True:=⟨⟩
theorem tw4063292967870356706:True:=⟨⟩
theorem tw7447889952927765208:True:=⟨⟩
theorem tw7652228766551056830:True:=⟨⟩
theorem tw15818766150366475386:True:=⟨⟩
theorem tw16339632281242739658:True:=⟨⟩
theorem tw11517825430595497065:True:=⟨⟩
theorem tw7732883621817313604:True:=⟨⟩
theorem tw7831406572514922093:True:=⟨⟩
theorem tw906284760277830329:True:=⟨⟩
theorem tw10798636761972927850:True:=⟨⟩
theorem tw6230579152548467171:True:=⟨⟩
theorem tw7694605433969836835:True:=⟨⟩
theorem tw6337467014785438023:True:=⟨⟩
theorem tw10613477739936898969:True:=⟨⟩
theorem tw15416132965457103434:True:=⟨⟩
theorem tw10323557991559647431:True:=⟨⟩
theorem tw2117052342391640064:True:=⟨⟩
theorem tw9125501602617371317:True:=⟨⟩
theorem tw2554509696347103169:True:=⟨⟩
theorem tw512579699799997496:True:=⟨⟩
theorem tw10284767762819202680:True:=⟨⟩
theorem tw143372828430127559:True:=⟨⟩
theorem tw9783435818170200282:True:=⟨⟩
theorem tw17720019401006057678:True:=⟨⟩
theorem tw13968362692671436031:True:=⟨⟩
theorem tw17583369272208509811:True:=⟨⟩
theorem tw14397007630234641651:True:=⟨⟩
end PySem.W.Fast
open _p
open PySem.W
set_option maxRecDepth 100000 in
set_option maxHeartbeats 0 in
theorem PySem.Challenge.cw_thinnet_k15_whole_every_way_within_holds : PySem.Challenge.rw_thinnet_k15_whole_every_way_within.Holds := by
 w_on;o_law;k_head;(case hw=>w_witness2)
 k_fill
 refine K15.walk (l:=PySem.Challenge.rw_thinnet_k15_whole_every_way_within) rfl rfl (λw h Y=>PySem.W.kIn_of Y) ?F
 case F =>
  intro w mg fa h KX G hmg
  refine' K15.all_mk KX G hmg ?_ ?_ ?_ ?_ ?_ ?_ ?_ ?_ ?_ ?_ ?_ ?_ ?_ ?_ ?_ ?_ ?_ ?_ ?_ ?_ ?_ ?_ ?_ ?_ ?_ ?_ ?_ ?_ ?_ ?_ ?_ ?_ ?_ ?_ ?_ ?_ ?_ ?_ ?_ ?_ ?_ ?_ ?_ ?_ ?_ ?_ ?_ ?_ ?_ ?_ ?_ ?_ ?_ ?_ ?_ ?_ ?_ ?_ ?_ ?_ ?_ ?_ ?_ ?_ ?_ ?_
  all_goals first
   | (refine' K15.Ht.mk ?a ?l ?c ?k;(case a=>k_is);(case l=>k_is);(case c=>k_is);(case k=>k_is))
   | (refine' K15.Hi.mk ?a;(case a=>k_is))
   | (refine' K15.Hn.mk ?a;(case a=>k_is))
   | skip
  ·(refine' K15.H2.mk ?c ?i ?ty ?l ?cc ?k;(case c=>(refine' K15.xc_mk ?at_ ?atU ?o ?u ?kp ?ga ?gt ?sa ?ca ?nw ?nn ?nr;(case at_=>k_is);(case atU=>k_is);(case o=>k_is);(case u=>k_is);(case kp=>k_is);(case ga=>k_is);(case gt=>k_is);(case sa=>k_is);(case ca=>k_is);(case nw=>k_is);(case nn=>k_is);(case nr=>k_is)));(case i=>k_is);(case ty=>k_is);(case l=>k_is);(case cc=>k_is);(case k=>k_is))
#print axioms PySem.Challenge.cw_thinnet_k15_whole_every_way_within_holds

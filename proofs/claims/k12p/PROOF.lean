import PyProof.Rows.All
import Wide.All
import OpenK.AllK
import Wide.FinOn
import Lean
import PyProof.EqAt
import PyProof.EqKinds
import PyProof.TupleCall
import PyProof.StationsW
import PyProof.PassesOwn
import PyProof.RulesAs
import PyProof.ExcClass3
import PyProof.Rows.CatchOwn
import OpenK.KMake
import OpenK.KWalk
import PyProof.InstStoreFacts
import PyProof.ExcBaseAll.ValueError
import PyProof.RangeIter
import OpenK.KRaise
import PyProof.NsDelKeeps
import KE.KIsAll
import PyProof.P3In
import PyProof.NeData
import PyProof.ExcArgs
import KE.KSortTup
import PyProof.CompUse
import KE.KRevIter
import PyProof.TupleOfGen
import PyProof.CollectIter
import PyProof.ListMulRoad
import PyProof.Draws
import PyProof.EnumMake
import PyProof.ListNew
import PyProof.AttrMissHeap
import PyProof.FactsAll.dict
import KE.KEqDict
import PyProof.FactsAll.zip
import PyProof.StrBlockH
import PyProof.MeetsStr2
import KE.KIntText
import PyProof.Rows.FStr
import PyProof.ReprLen
import PyProof.SumAny
import PyProof.Rows.SeqCalls
import PySem.Challenge.RW_thinnet_k12_greedy_papers_bent
open PySem.W (Frag nsIn keepIn fnOf codeIn mg_of mg_none_of)
set_option Elab.async false
set_option compiler.extract_closed false
set_option linter.all false
set_option maxRecDepth 100000
open Array renaming length_toList->iW,getElem?_eq_getElem->ja,getElem?_eq_some_iff->kO,foldl_toList->l9,getElem_mem->mS,toList_push->mU,mem_toList_iff->nJ
open Array.Perm renaming refl->m7
open Bool renaming and_eq_true->ZB,false_ne_true->f6,eq_false_iff->gj,eq_iff_iff->hX,true_and->iM,false_eq_true->ig,false_and->jh,and_false->lh,or_false->nP,and_true->nR
open Char renaming toNat->lV
open Classical renaming byContradiction->jc,propDecidable->ko
open False renaming elim->gh
open ForInStep renaming yield->i_
open Int renaming toNat_natCast->jX,le_refl->je,eq_ofNat_of_zero_le->kn,mul_le_mul_of_nonneg_left->lX
open List renaming getElem?_eq_getElem->FM,length_map->No,mem_cons_self->Op,mem_singleton->Re,mem_map->Rs,mem_cons_of_mem->TM,mem_cons->TW,mem_append->Uf,getElem?_eq_some_iff->XV,length_cons->eq,length_append->fh,size_toArray->fk,getElem?_map->fo,replicate->fq,not_mem_nil->ft,nil_append->fw,mem_append_right->f8,length_singleton->gC,nodup_cons->gF,range->gG,getElem_mem->gH,all_eq_true->gI,map_cons->gJ,toArray->gK,append_nil->gM,getD_eq_getElem?_getD->gN,map_append->gW,mem_of_getElem?->gZ,nodup_append->gg,nodup_nil->gl,pairwise_cons->gm,mem_append_left->gy,mem_filter->g0,map_map->g9,drop_eq_getElem_cons->g_,mem_range->hV,length_nil->hZ,append_assoc->iB,getElem?_append_right->iD,mem_flatMap->iH,any_eq_true->iR,length_filter_le->iZ,length_take->ie,all_cons->ij,length_range->iq,pairwise_map->ir,cons_ne_nil->iu,length_replicate->iz,length_set->jA,length_reverse->jB,lookup_cons->jE,lookup->jF,length->jG,mem_iff_getElem?->jN,getElem?_eq_none->jP,take_append_drop->jQ,getElem?_append_left->jY,mem_of_find?_eq_some->jd,lt_irrefl->jg,drop_length->jl,zipWith->jm,cons_append->jn,filterMap_cons->jo,length_eq_zero_iff->jq,reverse_cons->j1,flatMap_cons->j7,all_map->j9,getElem?_zipWith->kA,length_drop->kF,pairwise_append->kH,mem_of_mem_drop->kI,mem_reverse->kL,map_congr_left->kR,of_mem_zip->kT,forIn_cons->kU,zip_cons_cons->kZ,getElem?_replicate->kj,pairwise_singleton->km,filter_cons_of_neg->kr,range_succ_eq_map->kz,take_of_length_le->k7,take_length->lC,singleton_append->lF,getElem?_set_ne->lI,map_nil->lO,length_zip->lS,mem_iff_getElem->lT,mem_of_mem_take->lU,find?_some->lW,getLast?_eq_some_getLast->lY,map_id->ll,mem_filterMap->ln,filterMap_map->lq,mem_replicate->l_,any_cons->mF,perm_ext_iff_of_nodup->mJ,take_sublist->mL,getElem?_set->mP,pairwise_iff_getElem->mW,getElem?_zip_eq_some->mX,any_map->mj,append_cancel_right->mw,getElem?_cons_succ->mx,filter_cons_of_pos->mz,foldl_cons->m8,getElem?_set_self->m9,find?_cons_of_pos->nC,find?_cons_of_neg->nE,drop_zero->nF,Nodup->nO,sum_cons->nQ
open List.Pairwise renaming imp_of_mem->mq,nil->nk
open List.cons renaming inj->iN
open Nat renaming le_refl->On,zero_le->T0,ne_of_lt->f9,le_trans->f_,lt_of_lt_of_le->gD,lt_irrefl->gS,le_succ->gq,lt_succ_of_lt->iV,ne_of_gt->i7,min_eq_left->jO,succ_le_succ->jk,lt_of_le_of_lt->kW,lt_trans->kX,not_lt->kg,min_le_right->lB,le_of_lt->lH,le_succ_of_le->mT,mod_lt->mY,le_of_eq->me,lt_succ_self->mh,sub_zero->mo
open Ne renaming symm->gf
open Option renaming map_eq_some_iff->gY,some_beq_some->kJ,isSome_map->mO
open Option.some renaming inj->fu
open Or renaming inl->gi,inr->iE
open PyProof.Rows renaming slot_tuple_getitem->gP,callWith_type1->h_,boot_all->ia,listUpdate_at->jV,get?_update_seq->jw,AllBare->j8,boot_repr->kC,boot_sorted->k6,listItems_at->lR,entry_tuple_getitem->lZ,seqEpoch_at->lj,assignInOrder_cons->lm,args_tuple_getitem->lr,lt_int->m_
open PyProof.Rows.KeyOrd renaming kle_refl->iY,kle_of_klt->ku,kle_trans->lD,kle_antisymm->nX
open PySem renaming Addr->Ch,wpAny_bind->Cn,Value->Db,Shared->Go,wpAny_pure->Sc,Heap->fz,Program->f7,Expr->gA,World->gB,Around->gE,wpAny_mono->gQ,wpAny_holding->gU,FuncData->gX,sizeLine_eq->gn,wpAny_field->gp,wpAny_loadPart_at->gw,Stmt->gz,wpAny_Call_Name_kw->hU,wpAny_loadPart'->h7,codeAny_builtin->h8,wpAny_isSubtype_exc->h9,wpAny_newObj_type->iA,wpAny_truthy_bool->iJ,wpAny_pyIter_list->iK,plainId_quiet->iL,wpAny_seqItems->iO,wpAny_callSpecial?_slot->iP,Builtin->iU,wpAny_pyIter_tuple->ic,IsPair->ii,Scope->i6,wpAny_call->i8,NameKind->jC,wpAny_call_entry->jD,wpAny_typeOf->jI,tupleKind_room_in1->jJ,wpAny_setField_rec->jK,wpAny_passesOwn->jM,codeAny_call_builtin->jb,Keyword->jf,codeAny_mono->jj,wpAny_getItem_str_slice->jp,wpAny_execs_nil->jr,call_meets->jt,PyData->jv,wpAny_updateSeq->jx,wpAny_letGo->jy,IsZip->j6,wpAny_rule->kE,wpAny_standAt->kM,ExceptHandler->kP,wpAny_setField->kh,wpAny_tryCatch->ki,wpAny_onRaise->k_,wpAny_attempt->lA,PassesOwn->lE,plainObj_wpAny_Assign_Attribute->lG,IsPart->lJ,call_meetsIn->lK,codeAny_of_tree->lM,post_val_or_str->lN,wpAny_updateSeq_pair->lP,BindsTo->lc,wpAny_of_eq->li,wpAny_newFunctionEnv_cells->mC,wpAny_newList->mH,wpAny_sequenceKey->mM,slot_list_getitem->mN,typeIs_int->mV,wpAny_execs_cons->mZ,noFill_tuple_add->md,wpAny_madeBy_exc->mi,wpAny_specialOf->m6
open PySem.Around renaming under_plainId->iG,frames_deeper->nL
open PySem.Builtin.Builtins renaming bindParams->lw
open PySem.Builtin.Dict renaming updateFrom->my,pairItems->nB
open PySem.Builtin.List renaming listExtendWith->jL,listLengthHint->lz,listSameRef->mr
open PySem.Builtin.ObjectAttr renaming storeInDict->lL
open PySem.Builtin.Slice renaming slicePlaces->iX,sliceAdjust->jZ,sliceApplied->mE
open PySem.Builtin.SmallTypes renaming nextOf->iI,ownedTupleIsFree->io,ownedTupleHandOut->kc
open PySem.Builtin.Str renaming reprChar->gc,occurrences->iC
open PySem.Builtin.Tuple renaming tupleExact->i9,tupleItemsOf->kN,tupleTooMany->kQ,tupleIsExact->mG
open PySem.Calls renaming spliced_cons->iw,callWith_builtin->jH,spliced_nil->jW,evalArgs_plain->kG,Name_function_global->mB
open PySem.Code renaming quiet_builtin->ju
open PySem.EntryCells renaming newEntry->nS
open PySem.Expr renaming Call->l8
open PySem.F renaming slot_tuple_iterator_next->jT,slot_zip_next->lQ,args_tuple_iterator_next_1->lf,entry_tuple_iterator_next->lu,called_tuple->nG
open PySem.Heap renaming get?_push_of_some->Ev,lt_size->Tk,get?_push_size->UF,get?_update_other->fm,get?_update_self->g7,size_push->iT,SameBut->ji,IsTuple->mn,IsList->nA
open PySem.Heap.IsSliceOf renaming new->ni
open PySem.Heap.SameBut renaming update->nW
open PySem.Heap.UpToSlots renaming refl->nU
open PySem.NameKind renaming free->gv,cell->k9
open PySem.Obj renaming mapSeq->gs,mapFields->jS,data_mapFields->kY
open PySem.PassesOwn renaming never->gL
open PySem.PyData renaming eqv->g8,depthAll->iF,canLayAll0->ip,shownAll->jR,hasDict->j_,eqvAll->mI,hasDictAll->mR,leavesShortAll->nH,shown->nj
open PySem.SeqAt.EqAt renaming int_str->ng,str_int->nh
open PySem.Shared renaming heap->jz
open PySem.Str renaming ofString->gu,ofString_eq_toList->k8,join->lg,length_append->mQ
open PySem.Value renaming ref->fj,none->gO,type->gR,builtin->jU,bool->ke,notImplemented->nN,int->nY,str->nZ
open Std.Legacy.Range renaming size->nI
open Sum renaming inr->iS,inl->kd
open Sum.inr renaming inj->im
open True renaming intro->iQ
open PySem PySem.Spec PyProof.Rows
local macro_rules | `(tactic| walk_at "s")=>`(tactic| (constructor <;> first | rfl | decide +kernel))
namespace _p
set_option tactic.hygienic false

local macro_rules|`(tactic|let#[$x,*]:=$e)=>open Lean Parser Tactic in do
 let q k a:=mkNode ``rcasesPatLo #[mkNode ``rcasesPatMed #[mkNullNode #[mkNode k a]],mkNullNode]
 let p:Syntax:=(← `(term|⟨$x,*⟩)).raw.rewriteBottomUp fun s=>if s.isIdent then q ``rcasesPat.one #[s] else if s.getKind= ``Term.hole then q ``rcasesPat.ignore s.getArgs else if s.getKind= ``Term.anonymousCtor||s.getKind= `«term#[_,]» then q ``rcasesPat.tuple s.getArgs else s
 let m:TSyntax ``rcasesPatMed:=⟨p[0]⟩
 `(tactic|obtain $m:rcasesPatMed:=$e)
local macro_rules|`(tactic|exists $x,*)=>`(tactic|refine⟨$x,*, ?_⟩)
local macro_rules|`(tactic|lk)=>`(tactic|first|lia|omega)
local macro_rules|`(tactic|cbv)=>`(tactic|decide)
local macro_rules|`($f^$x)=>if f.raw.getTrailingSize>0 then Lean.Macro.throwUnsupported else match f with|`($g $a*)=>`($g $a* $x)|_=>`($f $x)
local macro_rules|`(#[%$t $y,*])=>if t.getTrailingSize>0||y.getElems.size=0 then Lean.Macro.throwUnsupported else `(⟨$y,*⟩)
open Option renaming some->P3,none->o_
open Bool renaming true->p_,false->q_
abbrev r_(a:Type u):=List a
abbrev s_(a:Type u):=Option a
namespace L2
abbrev Key:=Sum Int Str
def Ku:Key->Db->Bool
 |.inl k,v=>Value.isInt k v
 |.inr x,v=>Value.isStrOf x v
def da(w:gB):Key->Int
 |.inl k=>hashInt k
 |.inr x=>hashStr w x
theorem BN:∀{k:Key}{v:Db},Ku k v=p_->(∃i t,k=kd i/\v=nY i t)\/(∃x t,k=iS x/\v=nZ x t)
 |.inl i,v,h=>by
  let#[t,e]:=Value.isInt_shape h;exact .inl #[i,t,rfl,e]
 |.inr x,v,h=>by
  let#[t,e]:=Value.isStrOf_shape h;exact .inr #[x,t,rfl,e]
theorem RB(i:Int)(t:Tok):Ku (.inl i)^.int i t=p_:=by simp[Ku,Value.isInt]
theorem RA(x:Str)(t:Tok):Ku (.inr x)^.str x t=p_:=by simp[Ku,Value.isStrOf]
theorem Yo(a b:Int):decide ((kd a:Key)=kd b)=(a==b):=by
 grind
theorem Yl(a b:Str):decide ((iS a:Key)=iS b)=decide (a=b):=by
 simp_all
theorem Yn(a:Int)(b:Str):decide ((kd a:Key)=iS b)=q_:=decide_eq_false λq=>nomatch q
theorem Ym(a:Str)(b:Int):decide ((iS a:Key)=kd b)=q_:=decide_eq_false λq=>nomatch q
def A7(c:f7)(w:gB):PySem.KeyKind c w Key where
 is:=Ku
 hash:=da w
 inj:=λv a b l g=>by
  rcases BN l with⟨i,t,rfl,rfl⟩|⟨x,t,rfl,rfl⟩
  .rcases BN g with⟨j,u,rfl,e⟩|⟨y,u,rfl,e⟩
   .injection e with d _; rw[d]
   .exact nomatch e
  .rcases BN g with⟨j,u,rfl,e⟩|⟨y,u,rfl,e⟩
   .exact nomatch e
   .injection e with d _; rw[d]
 byValue:=λk v h=>by
  rcases BN h with⟨i,t,rfl,rfl⟩|⟨x,t,rfl,rfl⟩ <;>rfl
 pyHash:=λf h=>by
  rcases BN f with⟨i,t,rfl,rfl⟩|⟨x,t,rfl,rfl⟩
  .exact wpAny_pyHash_int h
  .exact wpAny_pyHash_str h
 eqBool:=λm f h=>by
  rcases BN m with⟨i,t,rfl,rfl⟩|⟨x,t,rfl,rfl⟩
  .rcases BN f with⟨j,u,rfl,rfl⟩|⟨y,u,rfl,rfl⟩
   .rw[Yo]at h; exact wpAny_eqBool_int h
   .rw[Yn]at h; exact ng i t y u _ _ _ _ h
  .rcases BN f with⟨j,u,rfl,rfl⟩|⟨y,u,rfl,rfl⟩
   .rw[Ym]at h; exact nh x t j u _ _ _ _ h
   .rw[Yl]at h; exact wpAny_eqBool_str h
 «strs»:=λk x t v h=>by
  rcases BN h with⟨i,u,rfl,e⟩|⟨y,u,rfl,e⟩
  .exact nomatch e
  .injection e with d _
   subst d
   cases v <;>rfl
theorem NB(a:f7)(w:gB)(i:Int)(t:Tok):(A7 a w).is (.inl i)^.int i t=p_:=RB i t
theorem NA(a:f7)(w:gB)(x:Str)(t:Tok):(A7 a w).is (.inr x)^.str x t=p_:=RA x t
inductive V where
 |non|bl (b:Bool)|int (i:Int)|str (x:Str)|byt (b:Array UInt8)|flt (b:UInt64)|ref (a:Ch)|ty (n:String)
 deriving DecidableEq
def RelV:V->Db->Prop
 |.non,u=>u=gO
 |.bl b,u=>u=ke b
 |.int i,u=>∃t,u=nY i t
 |.str x,u=>∃t,u=nZ x t
 |.byt b,u=>∃t,u=Value.bytes b t
 |.flt b,u=>∃t,u=Value.float b t
 |.ref a,u=>u=fj a
 |.ty n,u=>u=gR n
abbrev qQ:r_ V->r_ Db->Prop:=Paired RelV
theorem qQ.length(r:qQ a b):a.length=b.length:=Paired.length r
theorem qQ.get:∀{a:r_ V}{b:r_ Db}{i:Nat}{x:V},qQ a b->a[i]?=P3 x->∃u,b[i]?=P3 u/\RelV x u
 |_,_,_,_,.nil,e=>by simp at e
 |_,_,0,_,.cons r _,e=>by simp_all
 |_,_,i+1,x,.cons _ t,e=>by
  let#[u,c,d]:=qQ.get t^by simpa using e
  simp_all
theorem qQ.set(r:RelV x u):∀{a:r_ V}{b:r_ Db} (i:Nat),qQ a b->qQ (a.set i x)^b.set i u
 |_,_,_,.nil=>.nil
 |_,_,0,.cons _ t=>.cons r t
 |_,_,i+1,.cons q t=>.cons q^qQ.set r i t
theorem qQ.append:∀{a b:r_ V}{c d:r_ Db},qQ a c->qQ b d->qQ (a++b) (c++d)
 |_,_,_,_,.nil,s=>s
 |_,_,_,_,.cons r t,s=>.cons r^qQ.append t s
theorem qQ.take:∀{a:r_ V}{b:r_ Db} (n:Nat),qQ a b->qQ (a.take n)^b.take n
 |_,_,0,_=>.nil
 |_,_,_+1,.nil=>.nil
 |_,_,n+1,.cons r t=>.cons r^qQ.take n t
theorem qQ.drop:∀{a:r_ V}{b:r_ Db} (n:Nat),qQ a b->qQ (a.drop n)^b.drop n
 |_,_,0,r=>r
 |_,_,_+1,.nil=>.nil
 |_,_,n+1,.cons _ t=>qQ.drop n t
def zM:s_ V->s_ Db->Prop
 |some v,P3 u=>RelV v u
 |none,o_=>True
 |_,_=>False
def KV:r_ (a×V)->r_ (a×Db)->Prop:=Paired fun(p:a×V) (q:a×Db)=>p.1=q.1/\RelV p.2 q.2
def kV:Key->V
 |.inl i=>.int i
 |.inr x=>.str x
inductive HO where
 |lst (xs:List V)
 |tup (xs:List V)
 |dK (kvs:List (Key×V))|dT (kvs:List (List Key×V))
 |set (S:Int->Bool) (n:Nat)
 |ins (C dx:Ch) (fs:List (Str×V))
 |own (x:Ch)
 |xd (fs:List (Str×V))
 |met (f x:Ch)
 |rng (lo hi:Int)
 |frz (o:Obj) (u:HO)
 |tbl (ps:Array Db)
 |ext (φ:fz->Prop)
abbrev Hp:=Ch->s_ HO
def Al(H:Hp)(a:Ch)(o:HO):Hp:=λb=>if b=a then P3 o else H b
theorem AQ:Al H a o a=P3 o:=by unfold Al; simp_all
theorem AL(h:b≠a):Al H a o b=H b:=by unfold Al; rw[if_neg h]
theorem bF{H:Hp}(h:H a=P3 o)(c:H b=P3 u)(d:o≠u):a≠b:=by
 lia
theorem Ak{H:Hp}(h:H a=P3 o)(c:H b=o_):a≠b:=by
 lia
def qR(h:fz)(a:Ch)(b:Array Db):Prop:=∃o,h.get? a=P3 o/\o.cls=.type "tuple"/\∃n,o.data=.seq b n/\o.dict=o_/\o.slots=#[]
theorem qR.tup{h:fz}{a:Ch}{b:Array Db}(x:qR h a b):IsTup h a b:=let #[o,c,d,n,e,_]:=x; #[o,c,d,n,e]
theorem qR.new(h:fz)(a:Array Db):qR (h.push {cls:=.type "tuple",data:=.seq a}) h.objs.size a:=#[_,UF _ rfl,rfl,_,rfl,rfl,rfl]
section
variable (P:Program)(w:World)
def qv(H:Hp)(h:fz)(a:Ch):HO->Prop
 |.lst d=>d.length<=sizeLine/\∃(b:r_ Db) (n:Nat),qQ d b/\h.get? a=P3 {cls:=.type "list",data:=.seq b.toArray n}
 |.tup d=>d.length<=sizeLine/\∃b:r_ Db,qQ d b/\qR h a b.toArray
 |.dK c=>c.length<=sizeLine/\(a==sysModules)=q_/\∃k,KV c k/\h.DictOf (A7 P w) a k
 | .dT c=>c.length<=sizeLine/\(a==sysModules)=q_/\∃d:r_ (r_ Key×Ch×Db),
   Paired (fun(p:r_ Key×V) (q:r_ Key×Ch×Db)=>p.1=q.1/\H q.2.1=P3^.tup^p.1.map kV/\RelV p.2 q.2.2) c d /\
   ∃o l y,h.get? a=P3 o/\o.ExactDict/\o.data=.dict l y/\l.toList=d.map^entryOfKey^tupleKind^A7 P w/\(d.map (·.1)).Nodup
 |.set S n=>h.SetOf (intKind P w) a S n
 | .ins C i g=>H i=P3^.own a/\g.length<=1000/\i≠a/\h.get? a=P3^PySem.W.instObj C i /\
   ∃e,h.Ns1 i e/\(∀f,zM (g.lookup f)^e f)/\PySem.Within e (g.map (·.1))
 |.own _=>∃o,h.get? a=P3 o
 |.xd g=>∃e,h.Ns1 a e/\∀f,zM (g.lookup f)^e f
 |.rng z A=>∃t u v,h.get? a=P3 {cls:=.type "range",data:=.fields #[ .int z t,.int A u,.int 1 v]}
 |.frz o u=>h.get? a=P3 o/\qv H h a u
 |.tbl B=>h.get? a=P3 {cls:=.none,data:=.fields B}
 |.met f x=>h.get? a=P3^PySem.W.methodObj (.ref f)^.ref x
 |.ext j=>j h/\(∃o,h.get? a=P3 o)/\∀m r:fz,j m->(∀o,m.get? a=P3 o->r.get? a=P3 o)->j r
def HOk(H:Hp)(h:fz):Prop:=∀a o,H a=P3 o->qv P w H h a o
end
section

theorem qv.lt(x:qv P w H h a o):a<h.objs.size:=by
 cases o with
 |lst c=>let#[_,_,_,_,e]:=x; exact Tk e
 |tup c=>let#[_,_,_,p]:=x; exact p.tup.lt
 |dK b=>let#[_,_,_,_,o,_,_,e,_]:=x; exact Tk e
 |dT b=>let#[_,_,_,_,o,_,_,e,_]:=x; exact Tk e
 |set S n=>let#[o,_,_,_,e,_]:=x; exact Tk e
 |ins C g d=>let#[_,_,_,e,_]:=x; exact Tk e
 |own y=>let#[_,e]:=x; exact Tk e
 |xd d=>let#[_,#[_,_,_,e,_],_]:=x; exact Tk e
 |rng i j=>let#[_,_,_,e]:=x; exact Tk e
 |frz k u=>let#[e,_]:=x; exact Tk e
 |tbl l=>exact Tk (show h.get? a=P3 _ from x)
 |met f y=>exact Tk (show h.get? a=P3 _ from x)
 |ext m=>let#[_,#[_,e],_]:=x; exact Tk e
theorem Paired.mapP:∀{c:r_ e}{d:r_ g},Paired F c d->(∀a b,F a b->G a b)->Paired G c d
 |_,_,.nil,_=>.nil
 |_,_,.cons r t,f=>.cons (f _ _ r)^Paired.mapP t f
theorem qv.vX(x:qv P w H h a o)(k:∀b u,(b=a\/H b=P3^.own a)->h.get? b=P3 u->h'.get? b=P3 u)
  (F:∀b,H b=P3^.own a->H' b=P3^.own a) (G:∀b m,H b=P3^.tup m->H' b=P3^.tup m):qv P w H' h' a o:=by
 induction o with
 |lst m=>let#[z,l,n,r,e]:=x; exact#[z,l,n,r,k _ _ (.inl rfl) e]
 |tup m=>let#[z,l,r,g,e,c]:=x; exact#[z,l,r,g,k _ _ (.inl rfl) e,c]
 |dK s=>let#[z,y,I,r,g,i,j,e,c]:=x; exact#[z,y,I,r,g,i,j,k _ _ (.inl rfl) e,c]
 |dT s=>
  let#[z,y,m,r,g,i,j,e,c]:=x;exact#[z,y,m,Paired.mapP r λp q z=>#[z.1,G _ _ z.2.1,z.2.2],g,i,j,k _ _ (.inl rfl) e,c]
 |set S n=>let#[g,i,j,t,e,c]:=x; exact#[g,i,j,t,k _ _ (.inl rfl) e,c]
 |ins C N J=>
  let#[d,z,K,e,A,#[B,i,j,L,c],r]:=x;exact#[F _ d,z,K,k _ _ (.inl rfl) e,A,#[B,i,j,k _ _ (.inr d) L,c],r]
 |own y=>let#[g,e]:=x; exact#[g,k _ _ (.inl rfl) e]
 |xd J=>let#[A,#[B,i,j,e,c],r]:=x; exact#[A,#[B,i,j,k _ _ (.inl rfl) e,c],r]
 |rng O Q=>let#[t,u,v,e]:=x; exact#[t,u,v,k _ _ (.inl rfl) e]
 |frz g u M=>let#[e,q]:=x; exact#[k _ _ (.inl rfl) e,M q]
 |tbl D=>
  have e:h.get? a=P3 {cls:=.none,data:=.fields D}:=x;show h'.get? a=P3 {cls:=.none,data:=.fields D};exact k a _ (.inl rfl) e
 |met f y=>
  have e:h.get? a=P3^PySem.W.methodObj (.ref f)^.ref y:=x;show h'.get? a=P3^PySem.W.methodObj (.ref f)^.ref y;exact k a _ (.inl rfl) e
 |ext R=>let#[p,#[o,e],E]:=x; exact#[E _ _ p λo q=>k _ _ (.inl rfl) q,#[o,k _ _ (.inl rfl) e],E]
theorem HOk.lt(x:HOk P w H h)(e:H a=P3 o):a<h.objs.size:=(x a o e).lt
theorem HOk.fresh(x:HOk P w H h)(e:h.objs.size<=a):H a=o_:=by
 cases q:H a with
 |none=>rfl
 |some u=>exact absurd (gD (x.lt q) e)^gS _
theorem HOk.kept(x:HOk P w H h)(k:∀b u,h.get? b=P3 u->h'.get? b=P3 u):HOk P w H h':=λa o e=>
 (x a o e).vX (λb u _ q=>k b u q) (λ_ q=>q) λ_ _ q=>q
theorem HOk.laid(x:HOk P w H h)(k:∀b u,h.get? b=P3 u->h'.get? b=P3 u)(g:h.objs.size<=a)(new:qv P w (Al H a o) h' a o):HOk P w (Al H a o) h':=λb u e=>by
 have d:=x.fresh g
 by_cases f:b=a
 .subst f; rw[AQ]at e; simp_all
 .rw[AL f]at e
  exact(x b u e).vX (λc v _ q=>k c v q) (λc q=>by rw[AL^Ak q d]; exact q) λc i q=>by rw[AL^Ak q d]; exact q
end
def Rd(H:Hp)(a:Ch)(u:HO):Prop:=H a=P3 u\/∃o,H a=P3^.frz o u
theorem Rd.ok(r:Rd H a u)(x:HOk P w H h):qv P w H h a u:=by
 rcases r with r|⟨o,r⟩
 .exact x a u r
 .let#[_,q]:=x a _ r
  exact q
def cT:s_ HO->Prop
 |some (.lst _)=>True
 |some (.dK _)=>True
 |some (.dT _)=>True
 |some (.set _ _)=>True
 |some (.ins _ _ _)=>True
 |some (.ext _)=>True
 |_=>False
section

theorem HOk.write(ok:HOk P w H h)(f:cT^H x)(o:e=x\/H e=P3^.own x)(k:∀b u,b≠e->h.get? b=P3 u->h'.get? b=P3 u)(i:∃u,h'.get? e=P3 u)
  (new:qv P w (Al H x o') h' x o'):HOk P w (Al H x o') h':=λb u q=>by
 have a:∀c y,H c=P3^.own y->c≠x:=λc y r z=>by subst z; rw[r]at f; exact f
 have d:∀c g,H c=P3^.tup g->c≠x:=λc g r z=>by subst z; rw[r]at f; exact f
 by_cases l:b=x
 .subst l; rw[AQ]at q; injection q with q;subst q; exact new
 .rw[AL l]at q
  by_cases j:b=e
  .have m:H b=P3^.own x:=by
    lia
   rw[q]at m; injection m with m;subst m
   let#[v,n]:=i;exact#[v,by rw[j]; exact n]
  .refine(ok b u q).vX (λc v p r=>k c v ?_ r) (λc r=>by rw[AL^a c b r]; exact r) λc g r=>by rw[AL^d c g r]; exact r
   grind
end
structure Un (fs ex:List Ch) (H H':Hp) (h h':fz):Prop where
 keep:∀b o,h.get? b=P3 o->H b=o_->b∉fs->b∉ex->h'.get? b=P3 o
 slot:∀b o,h.get? b=P3 o->H b=o_->b∈fs->b∉ex->∃sl,h'.get? b=P3 {o with slots:=sl}
 free:∀b o,h.get? b=P3 o->H b=o_->b∉ex->H' b=o_
 there:∀b o,h.get? b=P3 o->b∉ex->∃o',h'.get? b=P3 o'
 qI:∀b xs,H b=P3^.tup xs->H' b=P3 (.tup xs)
 vY:∀b o u,H b=P3^.frz o u->H' b=P3 (.frz o u)
 vV:∀b ps,H b=P3^.tbl ps->∃more,H' b=P3^.tbl (ps++more)
section

theorem Un.any(u:Un fs ex H H1 h h1)(q:h.get? b=P3 c)(n:H b=o_)(hx:b∉ex):∃e,h1.get? b=P3 {c with slots:=e}:=by
 by_cases d:b∈fs
 .exact u.slot b c q n d hx
 .exact#[_,u.keep b c q n d hx]
theorem Un.trans(a:Un fs ex H H1 h h1)(b:Un fs ex H1 H2 h1 h2):Un fs ex H H2 h h2 where
 keep:=λc d q n g e=>b.keep c d (a.keep c d q n g e) (a.free c d q n e) g e
 slot:=λc d q n g e=>by
  let#[p,f]:=a.slot c d q n g e;let#[l,k]:=b.slot c _ f (a.free c d q n e) g e;exact#[_,k]
 free:=λc d q n e=>by
  let#[j,f]:=a.there c d q e;exact b.free c j f (a.free c d q n e) e
 there:=λc d q e=>by
  let#[j,f]:=a.there c d q e;exact b.there c j f e
 qI:=λc i q=>b.qI c i (a.qI c i q)
 vY:=λc d i q=>b.vY c d i (a.vY c d i q)
 vV:=λc m q=>by
  let#[r,f]:=a.vV c m q;let#[s,k]:=b.vV c _ f
  grind
theorem Un.kept(k:∀b u,h.get? b=P3 u->h'.get? b=P3 u):Un fs ex H H h h':=
 #[λb c q _ _ _=>k b c q,λb c q _ _ _=>#[_,k b c q],λ_ _ _ n _=>n,λb c q _=>#[c,k b c q],λ_ _ q=>q,λ_ _ _ q=>q,λ_ d q=>#[#[],by rw[q]; rfl]]
theorem Un.refl:Un fs ex H H h h:=Un.kept λ_ _ q=>q
theorem Un.laid(k:∀b u,h.get? b=P3 u->h'.get? b=P3 u)(d:h.objs.size<=a)(c:H a=o_):Un fs ex H (Al H a o) h h' where
 keep:=λb u q _ _ _=>k b u q
 slot:=λb u q _ _ _=>#[_,k b u q]
 free:=λb u q n _=>by rw[AL^f9^gD (Tk q) d]; exact n
 there:=λb u q _=>#[u,k b u q]
 qI:=λb e q=>by rw[AL^Ak q c]; exact q
 vY:=λb u e q=>by rw[AL^Ak q c]; exact q
 vV:=λb f q=>#[#[],by rw[AL^Ak q c,q]; rfl]
theorem Un.write(f:cT^H x)(m:e=x\/H e=P3^.own x)(k:∀b u,b≠e->h.get? b=P3 u->h'.get? b=P3 u)(i:∃u,h'.get? e=P3 u):Un fs ex H (Al H x o) h h':=by
 have j:∀b,H b=o_->b≠x:=λb n z=>by subst z; simp only[n]at f; exact f
 have g:∀b,H b=o_->b≠e:=λb n z=>by
  simp_all
 have c:∀b u,H b=P3 u->¬cT^P3 u->b≠x:=λb u q p z=>by simp_all
 refine#[λb u q n _ _=>k b u (g b n) q,λb u q n _ _=>#[u.slots,k b u (g b n) q],λb u q n _=>by rw[AL^j b n]; exact n,λb u q _=>?_,
  λb l q=>by rw[AL^c b _ q λz=>z]; exact q,λb u l q=>by rw[AL^c b _ q λz=>z]; exact q,λb r q=>#[#[],by rw[AL^c b _ q λz=>z,q]; rfl]]
 by_cases d:b=e
 .simp_all
 .exact#[u,k b u d q]
end
def fM(h:fz)(H:Hp):r_ Ch:=(gG h.objs.size).filter λa=>(H a).isSome
def Lx(h:fz)(H:Hp):fz:=PySem.W.hideAll h^fM h H
theorem RH(h:fz)(H:Hp):(Lx h H).objs.size=h.objs.size:=PySem.W.hideAll_size _ _
theorem Tx(e:h.get? b=P3 o)(n:H b=o_):(Lx h H).get? b=P3 o:=
 PySem.W.hideAll_get _ e λa=>by
  have q:=(g0.mp a).2
  simp_all
theorem VZ(e:(Lx h H).get? b=P3 o):h.get? b=P3 o/\H b=o_:=by
 have a:=PySem.W.of_hideAll _ e;exists a;cases q:H b with
 |none=>rfl
 |some x=>
  have z:(Lx h H).get? b=o_:=PySem.W.hideAll_none _^g0.mpr #[hV.mpr^Tk a,by simp[q]]
  simp_all
structure Mod (K:Frag) (mg:Str->Option Db) (base:fz):Prop where
 kin:K.In base
 glob:base.Ns mainGlobals mg
 blt:∃mb,base.Ns builtinsNs mb/\∀x:Str,x ≠ "__name__"->mb x=bootBuiltins x
 nolimit:base.NoLimit
/-- the context:a def's body (or a comprehension's block) running. base:fixed through the whole law; s₀,H₀:the entry; outer:the frames whose slots others may change (a def's callers); stack:all frames that run;
   ex:iterators that were made ahead of the entry and are walked here^a comprehension's; fn:the names whose cells were made at the entry (a def:all; a comprehension's block:its own); calm:not within an except suite; pn:zG that every state bears; xe:what is wanted of an exception that leaves the code -/
structure Cx where
 prog:f7
 w:gB
 K:Frag
 mg:Str->Option Db
 base:fz
 A:gE
 N:List Str
 s₀:Go
 H₀:Hp
 env:Env
 outer:List Env
 stack:List Env
 ex:List Ch
 fn:Str->Bool
 calm:Bool
 pn:List (Ch×Obj)
 xe:Db->Go->Prop
def Kz(l:r_ Env):r_ Ch:=l.filterMap (·.frame)
abbrev Cx.fs(X:Cx):r_ Ch:=Kz X.outer
def QK(a:i6)(x:Str):Prop:=a.names.lookup x=P3 .local\/a.names.lookup x=P3 .cell\/a.names.lookup x=P3 .free
def Loc(a:i6)(x:Str):Prop:=a.names.lookup x=P3 .local\/a.names.lookup x=P3 .cell
def Look(a:Env)(h:fz)(m:Str->s_ Db)(x:Str)(u:Db):Prop:=
 (a.kindOf x=P3 .local/\m x=P3 u)\/((a.kindOf x=P3 .cell\/a.kindOf x=P3 .free)/\∃c,a.cells.lookup x=P3 c/\h.IsCell c^P3 u)
structure Cx.Ok (X:Cx):Prop where
 mod:Mod X.K X.mg X.base
 kind:X.env.scope.kind=.function
 glob:X.env.globals=mainGlobals
 blt:X.env.builtins=builtinsNs
 above:X.s₀.heap.objs.size<=X.env.locals
 inj:∀x y c,X.env.cells.lookup x=P3 c->X.env.cells.lookup y=P3 c->x=y
 has:∀x,(X.env.kindOf x=P3 .cell\/X.env.kindOf x=P3 .free)->∃c,X.env.cells.lookup x=P3 c
 cab:∀x c,X.fn x=p_->X.env.cells.lookup x=P3 c->X.s₀.heap.objs.size<=c
 hd:X.calm=p_->X.A.handled=o_
 frames:X.A.frames=P3 X.stack
 stk:X.stack=X.outer\/(X.stack=X.env::X.outer/\X.env.frame=P3 X.env.locals)
 exf:∀b∈X.ex,b≠X.env.locals/\∀x c,X.env.cells.lookup x=P3 c->c≠b
 bs:∀b o,X.base.get? b=P3 o->X.s₀.heap.get? b=P3 o/\X.H₀ b=o_
 bsz:X.base.objs.size<=X.s₀.heap.objs.size
 noex:∀b o,X.base.get? b=P3 o->b∉X.ex
 exfs:∀b∈X.ex,b∉X.fs
 vZ:X.s₀.heap.FunFrames X.base X.outer
 frf:∀b∈X.fs,X.H₀ b=o_
structure Inv (X:Cx) (zG:List (Ch×Obj)) (σ:List^Option V) (H:Hp) (s:Go):Prop where
 ok:X.Ok
 os:s.os=X.s₀.os
 bare:j8 s.gens
 base:Un X.fs X.ex X.H₀ H X.s₀.heap s.heap
 loc:∃m,s.heap.Ns X.env.locals m/\∀(i:Nat) (x:Str) (v:V),X.N[i]?=P3 x->σ[i]?=P3^P3 v->QK X.env.scope x->∃u,RelV v u/\Look X.env s.heap m x u
 cell:∀x c,X.env.cells.lookup x=P3 c->∃v,s.heap.IsCell c v
 free:H X.env.locals=o_
 qA:∀x c,X.env.cells.lookup x=P3 c->H c=o_
 pin:∀p∈X.pn++zG,s.heap.get? p.1=P3 p.2/\H p.1=o_/\p.1≠X.env.locals/\p.1∉X.fs/\∀v,p.2.data≠.cell v
 hok:HOk X.prog X.w H s.heap
 len:σ.length=X.N.length
section
variable {X:Cx}
theorem Cx.Ok.nofr(ok:X.Ok)(e:X.base.get? b=P3 o):b∉X.fs:=λa=>by
 have:=(ok.vZ.mem a).1
 simp_all
theorem Inv.bs(I:Inv X zG σ H s):∀b o,X.base.get? b=P3 o->s.heap.get? b=P3 o/\H b=o_:=λb o e=>
 #[I.base.keep b o (I.ok.bs b o e).1 (I.ok.bs b o e).2 (I.ok.nofr e)^I.ok.noex b o e,I.base.free b o (I.ok.bs b o e).1 (I.ok.bs b o e).2 (I.ok.noex b o e)]
theorem Inv.bk(I:Inv X zG σ H s):∀b o,X.base.get? b=P3 o->s.heap.get? b=P3 o:=λb o e=>(I.bs b o e).1
theorem Inv.mod(I:Inv X zG σ H s):Mod X.K X.mg X.base:=I.ok.mod
theorem Inv.kIn(I:Inv X zG σ H s):X.K.In s.heap:=I.ok.mod.kin.keeps I.bk
theorem Inv.lt(I:Inv X zG σ H s):X.env.locals<s.heap.objs.size:=let #[_,a,_]:=I.loc; a.lt
theorem Inv.sz(I:Inv X zG σ H s):X.s₀.heap.objs.size<=s.heap.objs.size:=f_ I.ok.above^lH I.lt
theorem Inv.nofs(I:Inv X zG σ H s)(h:s.heap.objs.size<=a):a∉X.fs:=λb=>by
 let#[_,o,c,_]:=I.ok.vZ.mem b;exact absurd (gD (Tk c)^f_ I.sz h)^gS _
theorem Inv.cne(I:Inv X zG σ H s):∀x c,X.env.cells.lookup x=P3 c->c≠X.env.locals:=λx c e z=>by
 let#[v,o,d,f]:=I.cell x c e;let#[m,#[g,h,i,a,b,_],_]:=I.loc
 simp_all
theorem Inv.vZ(I:Inv X zG σ H s):s.heap.FunFrames X.base X.outer:=by
 have all:∀(l:r_ _),(∀b∈Kz l,b∈X.fs)->X.s₀.heap.FunFrames X.base l->s.heap.FunFrames X.base l:=by
  intro l
  induction l with
  |nil=>intro _ _; trivial
  |cons g r h=>
   intro d i;let#[j,#[L,o,f,k,m,n],p]:=i;have a:=d L (by unfold Kz; simp_all);let#[q,e]:=I.base.slot L o m (I.ok.frf L a) a λz=>I.ok.exfs L z a;exact#[j,#[L,_,f,k,e,n],h (λb c=>d b^by unfold Kz; simp only[jo,f]; exact TM _ c) p]
 exact all _ (λ_ c=>c) I.ok.vZ
theorem Inv.stack(I:Inv X zG σ H s):s.heap.FunFrames X.base X.stack:=by
 rcases I.ok.stk with e|⟨e,a⟩
 .rw[e]; exact I.vZ
 .rw[e]
  let#[m,b,_]:=I.loc;exact .cons (by rw[I.ok.kind]; decide) a b (Heap.get?_none_of_le^f_ I.ok.bsz I.ok.above) I.vZ
theorem Inv.vw(I:Inv X zG σ H s):∀b∈Kz X.stack,b∈X.env.locals::X.fs:=λb a=>by
 rcases I.ok.stk with e|⟨e,c⟩
 .grind
 .rw[e]at a
  unfold Kz at a;simp only[jo,c]at a;exact a
theorem Inv.vP(I:Inv X zG σ H s):∀b∈Kz X.stack,H b=o_:=λb a=>by
 rcases TW.mp^I.vw b a with e|a
 .rw[e]; exact I.free
 .let#[_,o,c,_]:=I.ok.vZ.mem a
  exact I.base.free b o c (I.ok.frf b a) λz=>I.ok.exfs b z a
theorem Inv.step{ch:r_ Ch}(I:Inv X zG σ H s)
  (f:∀b∈ch,(b∈X.ex\/X.s₀.heap.objs.size<=b)/\b≠X.env.locals/\(∀x c,X.env.cells.lookup x=P3 c->c≠b)/\∀p∈X.pn++zG,p.1≠b)
  (keep:∀b o,b≠X.env.locals->b∉X.fs->b∉ch->s.heap.get? b=P3 o->H b=o_->h'.get? b=P3 o)
  (y:∀b o,b≠X.env.locals->b∈X.fs->b∉ch->s.heap.get? b=P3 o->H b=o_->∃N,h'.get? b=P3 {o with slots:=N}) (free:∀b o,b∉ch->s.heap.get? b=P3 o->H b=o_->H' b=o_)
  (B:∀b o,b∉ch->s.heap.get? b=P3 o->∃E,h'.get? b=P3 E)
  (qI:∀b A,H b=P3^.tup A->H' b=P3^.tup A) (F:∀b o u,H b=P3^.frz o u->H' b=P3^.frz o u) (G:∀b M,H b=P3^.tbl M->∃J,H' b=P3^.tbl (M++J))
  (V:∀m,s.heap.Ns X.env.locals m->h'.Ns X.env.locals m) (O:HOk X.prog X.w H' h') (W:j8 g'):
  Inv X zG σ H' {s with heap:=h',gens:=g',drawn:=d',toks:=t'}:=by
 have K:∀b o,X.s₀.heap.get? b=P3 o->b≠X.env.locals:=λb o e=>f9^gD (Tk e) I.ok.above
 have j:∀b o,X.s₀.heap.get? b=P3 o->b∉X.ex->b∉ch:=λb o e a C=>by
  rcases(f b C).1 with z|z
  .exact a z
  .exact absurd (gD (Tk e) z)^gS _
 have g:∀x c,X.env.cells.lookup x=P3 c->∀v,s.heap.IsCell c v->h'.IsCell c v:=λx c e v #[o,D,P]=>by
  have h:c∉ch:=λz=>(f c z).2.2.1 x c e rfl
  by_cases R:c∈X.fs
  .let#[N,q]:=y c o (I.cne x c e) R h D^I.qA x c e
   exact#[_,q,P]
  .exact#[o,keep c o (I.cne x c e) R h D^I.qA x c e,P]
 refine#[I.ok,I.os,W,#[λb o e n C a=>?_,λb o e n C a=>?_,λb o e n a=>?_,λb o e a=>?_,λb A e=>qI b A^I.base.qI b A e,λb o A e=>F b o A^I.base.vY b o A e,λb M e=>?_],?_,λx c e=>?_,?_,λx c e=>?_,λp S=>?_,O,I.len]
 .exact keep b o (K b o e) C (j b o e a) (I.base.keep b o e n C a)^I.base.free b o e n a
 .let#[N,t]:=I.base.slot b o e n C a
  let#[Q,L]:=y b _ (K b o e) C (j b o e a) t^I.base.free b o e n a;exact#[Q,L]
 .let#[E,t]:=I.base.there b o e a
  exact free b E (j b o e a) t^I.base.free b o e n a
 .let#[E,t]:=I.base.there b o e a
  exact B b E (j b o e a) t
 .let#[Y,t]:=I.base.vV b M e
  let#[Z,L]:=G b _ t;exact#[Y++Z,by rw[L,Array.append_assoc]]
 .let#[m,hn,hl]:=I.loc
  refine#[m,V m hn,λi x v t L e3=>?_];let#[u,r,l]:=hl i x v t L e3;exists u,r
  rcases l with l|⟨k,c,e,z⟩
  .exact .inl l
  .exact .inr #[k,c,e,g x c e _ z]
 .let#[v,z]:=I.cell x c e
  exact#[v,g x c e v z]
 .let#[m,#[o,_,_,D,_],_]:=I.loc
  exact free _ o (λz=>(f _ z).2.1 rfl) D I.free
 .let#[v,o,D,P]:=I.cell x c e
  exact free c o (λz=>(f c z).2.2.1 x c e rfl) D^I.qA x c e
 .let#[e,n,T,U,d]:=I.pin p S
  have h:p.1∉ch:=λz=>(f p.1 z).2.2.2 p S rfl;exact#[keep p.1 p.2 T U h e n,free p.1 p.2 h e n,T,U,d]
theorem Inv.un(I:Inv X zG σ H s)(u:Un X.fs [] H H' s.heap h')(c:HOk X.prog X.w H' h'):Inv X zG σ H' {s with heap:=h',toks:=t'}:=by
 let#[m,#[o,l,p,f,r],_]:=id I.loc;let#[q,g]:=u.any f I.free^by simp
 exact I.step (ch:=[]) (λ_ z=>nomatch z) (λb o _ d _ e n=>u.keep b o e n d^by simp) (λb o _ d _ e n=>u.slot b o e n d^by simp) (λb o _ e n=>u.free b o e n^by simp) (λb o _ e=>u.there b o e^by simp) u.qI u.vY u.vV (λt h=>by
  let#[v,i,j,a,k]:=h;rw[f]at a; injection a with a;subst a
  exact#[_,_,_,g,k]) c I.bare
theorem Inv.call(I:Inv X zG σ H s)(u:Un (Kz X.stack) j H H' s.heap h')(g:HOk X.prog X.w H' h')(t:j8 i)
  (d:∀b∈j,(b∈X.ex\/X.s₀.heap.objs.size<=b)/\b≠X.env.locals/\(∀x c,X.env.cells.lookup x=P3 c->c≠b)/\∀p∈X.pn++zG,p.1≠b):
  Inv X zG σ H' {s with heap:=h',gens:=i,drawn:=q,toks:=l}:=by
 let#[m,#[o,D,E,k,r],_]:=id I.loc;let#[F,h]:=u.any k I.free λz=>(d _ z).2.1 rfl
 exact I.step d (λb o h v a e n=>u.keep b o e n (λz=>(TW.mp^I.vw b z).elim h v) a) (λb o _ _ a e n=>u.any e n a) (λb o a e n=>u.free b o e n a) (λb o a e=>u.there b o e a) u.qI u.vY u.vV (λG y=>by
  let#[J,A,B,f,C]:=y;rw[k]at f; injection f with f;subst f
  exact#[_,_,_,h,C]) g t
theorem Inv.turned(I:Inv X zG σ H s)(k:∀b o,b≠it->s.heap.get? b=P3 o->h'.get? b=P3 o)(A:H it=o_)(d:it≠X.env.locals)
  (f:it∈X.ex\/X.s₀.heap.objs.size<=it) (g:∀x c,X.env.cells.lookup x=P3 c->c≠it) (h:∀p∈X.pn++zG,p.1≠it):Inv X zG σ H {s with heap:=h',toks:=t'}:=by
 have i:∀b u,H b=P3 u->b≠it:=λb u e z=>by simp_all
 refine I.step (g':=s.gens) (d':=s.drawn) (ch:=[it]) (λb j=>?_) (λb o _ _ a e _=>k b o (λz=>a^by simp[z]) e) (λb o _ _ a e _=>#[o.slots,k b o (λz=>a^by simp[z]) e]) (λ_ _ _ _ n=>n)
  (λb o a e=>#[o,k b o (λz=>a^by simp[z]) e]) (λ_ _ e=>e) (λ_ _ _ e=>e) (λb B e=>#[#[],by rw[e]; rfl]) (λm l=>?_) (λb u e=>?_) I.bare
 .have e:b=it:=by simpa using j
  subst e;exact#[f,d,g,h]
 .let#[o,t,w,y,r]:=l
  exact#[o,t,w,k _ o (gf d) y,r]
 .refine(I.hok b u e).vX (λc v a q=>k c v ?_ q) (λ_ q=>q) λ_ _ q=>q
  lia
theorem Inv.tok(I:Inv X zG σ H s)(t:Nat):Inv X zG σ H {s with toks:=t}:=I.un Un.refl I.hok
theorem Inv.kept(I:Inv X zG σ H s)(k:∀b u,s.heap.get? b=P3 u->h'.get? b=P3 u):Inv X zG σ H {s with heap:=h',toks:=t'}:=I.un (Un.kept k)^I.hok.kept k
theorem Inv.laid(I:Inv X zG σ H s)(k:∀b u,s.heap.get? b=P3 u->h'.get? b=P3 u)(c:s.heap.objs.size<=a)(d:qv X.prog X.w (Al H a o) h' a o):
  Inv X zG σ (Al H a o) {s with heap:=h',toks:=t'}:=I.un (Un.laid k c^I.hok.fresh c)^I.hok.laid k c d
theorem Inv.write(I:Inv X zG σ H s)(d:cT^H x)(f:e=x\/H e=P3^.own x)(k:∀b u,b≠e->s.heap.get? b=P3 u->h'.get? b=P3 u)(a:∃u,h'.get? e=P3 u)
  (c:qv X.prog X.w (Al H x o) h' x o):Inv X zG σ (Al H x o) {s with heap:=h',toks:=g}:=I.un (Un.write d f k a)^I.hok.write d f k a c
theorem Inv.pins_of(I:Inv X zG σ H s)(h:∀p∈a,s.heap.get? p.1=P3 p.2/\H p.1=o_/\p.1≠X.env.locals/\p.1∉X.fs/\∀v,p.2.data≠.cell v):Inv X a σ H s:=
 #[I.ok,I.os,I.bare,I.base,I.loc,I.cell,I.free,I.qA,λp b=>(Uf.mp b).elim (λz=>I.pin p^gy _ z)^h p,I.hok,I.len]
theorem JP{N:r_ Str}(c:N.Nodup){i j:Nat}(a:N[i]?=P3 x)(b:N[j]?=P3 x):i=j:=by
 let#[f,d]:=XV.mp a;let#[g,e]:=XV.mp b;exact(List.getElem_inj c).mp^d.trans e.symm
theorem Ke(I:Inv X zG σ H s)(hN:X.N.Nodup)(P:X.N[i]?=P3 x)(B:Loc X.env.scope x)(r:RelV v u)
  (h:∀s',Inv X zG (σ.set i^P3 v) H s'->(∃a,ji a s.heap s'.heap/\(a=X.env.locals\/X.env.cells.lookup x=P3 a))->Q () s') (hf:X.fn x=p_\/X.env.scope.names.lookup x=P3 .local:=by first|exact .inl rfl|exact .inr rfl|assumption):wpAny M A (storeName X.env x u) Q E s:=by
 let#[m,hn,hl]:=id I.loc;have R:(X.env.scope.kind==.class||(X.env.scope.kind==.module&&X.env.locals !=X.env.globals))=q_:=by rw[I.ok.kind]; rfl
 have F:i<σ.length:=by simp only[I.len]; exact(XV.mp P).1
 have J:=I.cne
 have g:∀{a:Ch}{h':fz},(∃o,s.heap.get? a=P3 o/\H a=o_)->ji a s.heap h'->HOk X.prog X.w H h':=λ{a h'} ha f b ob e=>by
  let#[_,_,C]:=ha;refine(I.hok b ob e).vX (λc Y t q=>(f.2 c ?_).trans q) (λ_ q=>q) λ_ _ q=>q;rintro rfl
  rcases t with rfl|t
  .rw[C]at e; cases e
  .rw[C]at t; cases t
 rcases B with G|G
 .refine wpAny_storeName_local G hn (λh' a0 f=>?_) R
  let#[oL,_,_,a1,_]:=id hn;refine h _ #[I.ok,I.os,I.bare,#[λb o e n K B=>?_,λb o e n K B=>?_,I.base.free,λb o e B=>?_,I.base.qI,I.base.vY,I.base.vV],#[_,a0,λj y v' l D e3=>?_],λy c e=>?_,I.free,I.qA,λp hp=>?_,g #[oL,a1,I.free] f,by simpa using I.len] #[_,f,.inl rfl]
  .exact(f.2 b^f9^gD (Tk e) I.ok.above).trans^I.base.keep b o e n K B
  .let#[sl,l]:=I.base.slot b o e n K B
   exact#[sl,(f.2 b^f9^gD (Tk e) I.ok.above).trans l]
  .let#[o',l]:=I.base.there b o e B
   exact#[o',(f.2 b^f9^gD (Tk e) I.ok.above).trans l]
  .by_cases L:j=i
   .subst L
    rw[P]at l; injection l with l;subst l
    rw[m9 F]at D;cases D;exact#[u,r,.inl #[G,by simp]]
   .rw[lI^gf L]at D
    let#[u',r',q]:=hl j y v' l D e3;exists u',r'
    rcases q with⟨k,e⟩|⟨k,c,e,z⟩
    .refine .inl #[k,?_]
     have:y≠x:=λe=>L^JP hN l (e▸P)
     simp[this,e]
    .exact .inr #[k,c,e,z.sameBut f^J y c e]
  .let#[Y,z]:=I.cell y c e
   exact#[Y,z.sameBut f^J y c e]
  .let#[e,n,Z,nf,d]:=I.pin p hp
   exact#[(f.2 p.1 Z).trans e,n,Z,nf,d]
 .have O:X.fn x=p_:=by
   rcases hf with z|z
   .exact z
   .rw[z]at G; cases G
  let#[c,t]:=I.ok.has x^.inl G;let#[Y,z]:=I.cell x c t;refine wpAny_storeName_cell I.ok.kind G t z λh' S f=>?_;let#[oc,T,U]:=id z;refine h {s with heap:=h'} #[I.ok,I.os,I.bare,#[λb o e n K B=>?_,λb o e n K B=>?_,I.base.free,λb o e B=>?_,I.base.qI,I.base.vY,I.base.vV],#[m,hn.sameBut f^gf^J x c t,λj y v' l D e3=>?_],λy c' e=>?_,I.free,I.qA,λp hp=>?_,g #[oc,T,I.qA x c t] f,by simpa using I.len] #[c,f,.inr t]
  .exact(f.2 b^f9^gD (Tk e)^I.ok.cab x c O t).trans^I.base.keep b o e n K B
  .let#[sl,l]:=I.base.slot b o e n K B
   exact#[sl,(f.2 b^f9^gD (Tk e)^I.ok.cab x c O t).trans l]
  .let#[o',l]:=I.base.there b o e B
   exact#[o',(f.2 b^f9^gD (Tk e)^I.ok.cab x c O t).trans l]
  .by_cases L:j=i
   .subst L
    rw[P]at l; injection l with l;subst l
    rw[m9 F]at D;cases D;exact#[u,r,.inr #[.inl G,c,t,S]]
   .rw[lI^gf L]at D
    let#[u',r',q]:=hl j y v' l D e3;exists u',r'
    rcases q with q|⟨k,c',e,z'⟩
    .exact .inl q
    .refine .inr #[k,c',e,z'.sameBut f ?_]
     rintro rfl;exact L^JP hN l (I.ok.inj _ _ _ e t▸P)
  .by_cases W:c'=c
   .subst W; exact#[_,S]
   .let#[w2,z2]:=I.cell y c' e
    exact#[w2,z2.sameBut f W]
  .let#[e,n,Z,nf,d]:=I.pin p hp
   refine#[(f.2 p.1 ?_).trans e,n,Z,nf,d];intro q;simp only[q,T]at e;have q':oc=p.2:=fu e;exact d Y^by rw[←q']; exact U
theorem DV(I:Inv X zG σ H s)(b:X.N.Nodup)(c:X.N[i]?=P3 x)(hx:Loc X.env.scope x)(r:RelV v u)
  (h:∀a,Inv X zG (σ.set i^P3 v) H a->Q () a) (d:X.fn x=p_\/X.env.scope.names.lookup x=P3 .local:=by first|exact .inl rfl|exact .inr rfl|assumption):wpAny M A (storeName X.env x u) Q E s:=
 Ke I b c hx r (λa e _=>h a e) d
theorem Inv.call'(I:Inv X zG σ H s)(g:a.os=s.os)(u:Un (Kz X.stack) f H H' s.heap a.heap)(d:HOk X.prog X.w H' a.heap)(h:j8 a.gens)
  (e:∀b∈f,(b∈X.ex\/X.s₀.heap.objs.size<=b)/\b≠X.env.locals/\(∀x c,X.env.cells.lookup x=P3 c->c≠b)/\∀p∈X.pn++zG,p.1≠b):Inv X zG σ H' a:=by
 let#[h',i,j,k,l]:=a;subst g;exact I.call u d h e
end
abbrev XK:=Db->s_ Ch->Hp->Prop
abbrev St:=r_^s_ V
abbrev VK:=V->Hp->Prop
abbrev TE:=St->Hp->VK->Prop
abbrev TT:=St->Hp->(Bool->Hp->Prop)->Prop
abbrev TA:=St->Hp->(r_ V->Hp->Prop)->Prop
structure Ends where
 nx:St->Hp->Prop
 rt:VK
 bk:St->Hp->Prop:=λ_ _=>False
 ct:St->Hp->Prop:=λ_ _=>False
abbrev TS:=Ends->St->Hp->Prop
def EP(X:Cx)(b:r_ (Ch×Obj))(c:St)(Q:VK)(u:Db)(d:Go):Prop:=∃v a,Inv X b c a d/\RelV v u/\Q v a
def TP(X:Cx)(c:r_ (Ch×Obj))(d:St)(Q:Bool->Hp->Prop)(b:Bool)(e:Go):Prop:=∃a,Inv X c d a e/\Q b a
def AP(X:Cx)(c:r_ (Ch×Obj))(d:St)(Q:r_ V->Hp->Prop)(e:r_ Db)(f:Go):Prop:=∃a b,Inv X c d b f/\qQ a e/\Q a b
def SP(X:Cx)(c:r_ (Ch×Obj))(D:Ends)(f:Flow)(d:Go):Prop:=
 match f with
 |.next=>∃b a,Inv X c b a d/\D.nx b a
 |.brk=>∃b a,Inv X c b a d/\D.bk b a
 |.cont=>∃b a,Inv X c b a d/\D.ct b a
 |.ret u=>∃v b a,Inv X c b a d/\RelV v u/\D.rt v a
def PE(X:Cx)(e:gA)(t:TE):Prop:=
 ∀(b:r_ (Ch×Obj)) (s:Go) (a:St) (H:Hp) (Q:VK),Inv X b a H s->t a H Q->wpAny (model X.prog X.w) X.A (eval e X.env) (EP X b a Q) X.xe s
def PT(X:Cx)(e:gA)(t:TT):Prop:=
 ∀(b:r_ (Ch×Obj)) (s:Go) (a:St) (H:Hp) (Q:Bool->Hp->Prop),Inv X b a H s->t a H Q->wpAny (model X.prog X.w) X.A (isTrue e X.env^eval e X.env) (TP X b a Q) X.xe s
def PW(X:Cx)(e:gA)(t:TT):Prop:=
 ∀(a:Sem Db) (c:r_ (Ch×Obj)) (s:Go) (b:St) (H:Hp) (Q:Bool->Hp->Prop),Inv X c b H s->t b H Q->wpAny (model X.prog X.w) X.A (isTrue e X.env a) (TP X c b Q) X.xe s
theorem PW.pt(h:PW X e t):PT X e t:=h _
def PA(X:Cx)(c:r_ gA)(t:TA):Prop:=
 ∀(pos:Pos) (b:r_ (Ch×Obj)) (s:Go) (a:St) (H:Hp) (Q:r_ V->Hp->Prop),Inv X b a H s->t a H Q->wpAny (model X.prog X.w) X.A (spliced^backTo pos^starEach c X.env) (AP X b a Q) X.xe s
def PS(X:Cx)(c:gz)(t:TS):Prop:=
 ∀(a:r_ (Ch×Obj)) (s:Go) (b:St) (H:Hp) (D:Ends),Inv X a b H s->t D b H->wpAny (model X.prog X.w) X.A (exec c X.env) (SP X a D) X.xe s
def PSs(X:Cx)(c:r_ gz)(t:TS):Prop:=
 ∀(a:r_ (Ch×Obj)) (s:Go) (b:St) (H:Hp) (D:Ends),Inv X a b H s->t D b H->wpAny (model X.prog X.w) X.A (execs c X.env) (SP X a D) X.xe s
theorem thn(h:wpAny M A t Q E s)(d:∀a s,Q a s->c a s):wpAny M A t c E s:=gQ h d λ_ _ x=>x
section

def CH(i:Nat):TE:=λa H Q=>∃v,a[i]?=P3^P3 v/\Q v H
def tC(v:V):TE:=λ_ H Q=>Q v H
theorem ES(j:X.N[i]?=P3 x)(k:QK X.env.scope x)(hd:(x==("__debug__":Str))=q_:=by decide)(f:(x==("__classdict__":Str))=q_:=by decide):PE X (.Name x pos)^CH i:=by
 intro t s n H Q I h;let#[v,e,h]:=h;let#[m,o,p]:=I.loc;let#[u,r,l]:=p i x v j e k;have b:EP X _ n Q u s:=#[v,H,I,r,h]
 rcases l with⟨d,q⟩|⟨d,c,g,a⟩
 .exact wpAny_Name (wpAny_loadName_local I.ok.kind d o q b) hd
 .rcases d with d|d
  .exact wpAny_Name (wpAny_loadName_cell I.ok.kind d g a b) hd
  .exact wpAny_Name (wpAny_loadName_free I.ok.kind d g a b f) hd
theorem Av{i j pos}:PE X (.Constant (.int i) j pos)^tC^.int i:=λ_ _ _ H _ I h=>wpAny_Constant_int #[.int i,H,I.tok _,#[_,rfl],h]
theorem a_{b j pos}:PE X (.Constant (.bool b) j pos)^tC^.bl b:=λ_ _ _ H _ I h=>Constant_bool #[.bl b,H,I,rfl,h]
theorem YX{j pos}:PE X (.Constant .none j pos)^tC .non:=λ_ _ _ H _ I h=>Constant_none #[.non,H,I,rfl,h]
theorem YU{x j pos}:PE X (.Constant (.str x) j pos)^tC^.str x:=λ_ _ _ H _ I h=>Calls.Constant_str #[.str x,H,I.tok _,#[_,rfl],h]
def Gl(X:Cx)(x:Str):Prop:=X.env.kindOf x=P3 .globalImplicit
theorem Dy(I:Inv X a b H s)(c:Gl X x)(d:X.mg x=P3 u)(h:Q u s)
  (hd:(x==("__debug__":Str))=q_:=by decide):wpAny (model X.prog X.w) X.A (eval (.Name x pos) X.env) Q E s:=
 mB I.ok.kind c (Calls.loadGlobal_global (by rw[I.ok.glob]; exact I.mod.glob.keeps I.bk) d h) hd
theorem D6(I:Inv X a b H s)(c:Gl X x)(d:X.mg x=o_)(e:bootBuiltins x=P3 u)(h:Q u s)
  (f:x ≠ "__name__":=by decide) (hd:(x==("__debug__":Str))=q_:=by decide):wpAny (model X.prog X.w) X.A (eval (.Name x pos) X.env) Q E s:=by
 let#[j,g,i]:=I.mod.blt;exact mB I.ok.kind c (Calls.loadGlobal_builtin (by rw[I.ok.glob]; exact I.mod.glob.keeps I.bk) d (by rw[I.ok.blt]; exact g.keeps I.bk) ((i x f).trans e) h) hd
theorem Ph(a:Gl X x)(b:X.mg x=P3 u)(r:RelV v u)(hd:(x==("__debug__":Str))=q_:=by decide):PE X (.Name x pos)^tC v:=
 λ_ _ _ H _ I h=>Dy I a b #[v,H,I,r,h] hd
theorem IL(a:Gl X x)(b:X.mg x=o_)(c:bootBuiltins x=P3 u)(r:RelV v u)(d:x ≠ "__name__":=by decide)(hd:(x==("__debug__":Str))=q_:=by decide):PE X (.Name x pos)^tC v:=
 λ_ _ _ H _ I h=>D6 I a b c #[v,H,I,r,h] d hd

def tB(t:TE):TT:=λd H Q=>t d H λx e=>∃c,x=.bl c/\Q c e
theorem YL(h:PE X e t)(f:∀c,isTrue e X.env c=(do let v ←c; standAt e.pos; holding [v]^truthy v):=by intro _; rfl):PT X e^tB t:=by
 intro n s g H Q I i;refine isTrue_plain (thn (h _ s g H _ I i) λv o zz=>?_)^f _;let#[x,j,k,l,m]:=zz;let#[d,rfl,q]:=m;subst l;exact iJ #[j,k,q]

def aP(t u:TT):TT:=λd H Q=>t d H λc e=>if c=p_ then u d e Q else Q q_ e
def fQ(t u:TT):TT:=λd H Q=>t d H λc e=>if c=p_ then Q p_ e else u d e Q
def dL(t:TT):TT:=λd H Q=>t d H λc e=>Q (!c) e
theorem PV(d:PT X a tA):PW X (.BoolOp .And [a] pos) tA:=by
 intro g i s f H Q I h;refine isTrue_and^thn (d _ s f H Q I h) λc j e=>?_;cases c with
 |true=>exact isTrue_and_nil e
 |false=>exact e
theorem YK(d:PT X a tA):PW X (.BoolOp .Or [a] pos) tA:=by
 intro g i s f H Q I h;refine isTrue_or^thn (d _ s f H Q I h) λc j e=>?_;cases c with
 |false=>exact isTrue_or_nil e
 |true=>exact e
theorem Su(e:PT X a tA)(f:PW X (.BoolOp .And (b::rest) pos) tB'):PW X (.BoolOp .And (a::b::rest) pos)^aP tA tB':=by
 intro g m s d H Q I h;refine isTrue_and^thn (e _ s d H _ I h) λc i #[j,k,l]=>?_;cases c with
 |true=>exact f g _ i d j Q k l
 |false=>assumption
theorem av(e:PT X a tA)(f:PW X (.BoolOp .Or (b::rest) pos) tB'):PW X (.BoolOp .Or (a::b::rest) pos)^fQ tA tB':=by
 intro g m s d H Q I h;refine isTrue_or^thn (e _ s d H _ I h) λc i #[j,k,l]=>?_;cases c with
 |true=>assumption
 |false=>exact f g _ i d j Q k l
theorem YM(c:PT X a tA):PT X (.UnaryOp .Not a pos)^dL tA:=λe s d H Q I h=>isTrue_not^c _ s d H _ I h
def aO(ta tb:TE):TE:=λd H Q=>ta d H λx e=>∃c,x=.bl c/\if c=p_ then tb d e Q else Q (.bl q_) e
def aI(ta:TE):TE:=λd H Q=>ta d H λx e=>∃c,x=.bl c/\Q (.bl (!c)) e
theorem YY(i:PE X a ta)(j:PE X (.BoolOp .And (b::rest) pos) tb):PE X (.BoolOp .And (a::b::rest) pos)^aO ta tb:=by
 intro m s e H Q I h;refine BoolOp_and^thn (i _ s e H _ I h) λv k zz=>?_;let#[x,f,g,l,d]:=zz;let#[c,rfl,d]:=d;subst l;refine iJ ?_;cases c with
 |true=>exact j _ k e f Q g d
 |false=>exact#[.bl _,f,g,rfl,d]
theorem YW(e:PE X a ta):PE X (.UnaryOp .Not a pos)^aI ta:=by
 intro k s f H Q I h;refine UnaryOp_^thn (e _ s f H _ I h) λv l zz=>?_;let#[x,g,i,j,d]:=zz;let#[c,rfl,d]:=d;subst j;exact not_of^iJ #[.bl _,g,i,rfl,d]
def fR(t:TT)(ta tb:TE):TE:=λd H Q=>t d H λc e=>if c=p_ then ta d e Q else tb d e Q
theorem Mu(k:PT X c tA)(l:PE X a ta)(m:PE X b tb):PE X (.IfExp c a b pos)^fR tA ta tb:=by
 intro n s e H Q I h;refine wpAny_IfExp^thn (k _ s e H _ I h) λd f zz=>?_;let#[g,i,j]:=zz;cases d with
 |true=>exact l _ f e g Q i j
 |false=>exact m _ f e g Q i j
end
def SqL(K:Frag)(H:Hp)(a:Ch)(c:r_ V):Prop:=
 Rd H a (.lst c) \/
  ∃(o:Obj) (b:Array Db) (n:Nat),K.lookup a=P3 o/\o.cls=.type "list"/\o.dict=o_/\o.data=.seq b n/\b.size<=sizeLine/\qQ c b.toList
def SqT(K:Frag)(H:Hp)(a:Ch)(c:r_ V):Prop:=
 Rd H a (.tup c) \/
  ∃(o:Obj) (b:Array Db) (n:Nat),K.lookup a=P3 o/\o.cls=.type "tuple"/\o.data=.seq b n/\b.size<=sizeLine/\qQ c b.toList
def eN:Db->s_ V
 |.none=>P3 .non
 |.bool b=>P3^.bl b
 |.int i _=>P3^.int i
 |.str x _=>P3^.str x
 |.bytes b _=>P3^.byt b
 |.float b _=>P3^.flt b
 |.ref a=>P3^.ref a
 |.type n=>P3^.ty n
 |_=>o_
theorem RelV.abs(r:RelV x u):eN u=P3 x:=by
 cases x with
 |non=>subst r; rfl
 |bl _=>subst r; rfl
 |int _=>let#[t,rfl]:=r; rfl
 |str _=>let#[t,rfl]:=r; rfl
 |byt _=>let#[t,rfl]:=r; rfl
 |flt _=>let#[t,rfl]:=r; rfl
 |ref _=>subst r; rfl
 |ty _=>subst r; rfl
theorem RelV.inj(r:RelV x u)(q:RelV y u):x=y:=fu^r.abs.symm.trans q.abs
theorem qQ.inj:∀{a b:r_ V}{c:r_ Db},qQ a c->qQ b c->a=b
 |_,_,_,.nil,.nil=>rfl
 |_,_,_,.cons r t,.cons d e=>by rw[r.inj d,qQ.inj t e]
section

theorem SqL.of{K:Frag}(h:H a=P3^.lst xs):SqL K H a xs:=.inl^.inl h
theorem SqT.of{K:Frag}(h:H a=P3^.tup xs):SqT K H a xs:=.inl^.inl h
theorem Inv.list(I:Inv X zG σ H s)(h:SqL X.K H a xs):∃b:r_ Db,qQ xs b/\PlainL s.heap a b.toArray/\xs.length<=sizeLine:=by
 rcases h with h|⟨o,b,n,c,d,f,g,i,r⟩
 .let#[z,b,n,r,e]:=h.ok I.hok
  exact#[_,r,#[_,n,e,rfl,rfl,rfl],z]
 .exists _,r,#[o,n,I.kIn a o c,d,f,by lk]
  have e:=r.length
  simp_all
theorem Inv.tuple(I:Inv X zG σ H s)(h:SqT X.K H a xs):∃b:r_ Db,qQ xs b/\IsTup s.heap a b.toArray/\xs.length<=sizeLine:=by
 rcases h with h|⟨o,b,n,c,d,f,g,r⟩
 .let#[z,b,r,p]:=h.ok I.hok
  exact#[_,r,p.tup,z]
 .exists _,r,#[o,I.kIn a o c,d,n,by lk]
  have e:=r.length
  simp_all
theorem Inv.list_inj(I:Inv X zG σ H s)(h:SqL X.K H a xs)(f:SqL X.K H a ys):xs=ys:=by
 let#[c,r,#[o,n,e,_,_,d],_]:=I.list h;let#[b,g,#[i,j,k,_,_,l],_]:=I.list f
 have:c=b:=by simp_all
 subst this;exact r.inj g
theorem Inv.tuple_inj(I:Inv X zG σ H s)(h:SqT X.K H a xs)(f:SqT X.K H a ys):xs=ys:=by
 let#[c,r,#[o,e,_,n,d],_]:=I.tuple h;let#[b,g,#[i,j,_,k,l],_]:=I.tuple f
 have:c=b:=by simp_all
 subst this;exact r.inj g
end
abbrev Cx.vK(X:Cx)(E:Db->Go->Prop):Cx:={X with xe:=E}
abbrev Cx.nox(X:Cx):Cx:=X.vK λ_ _=>False
theorem Cx.Ok.vK{X:Cx}(ok:X.Ok)(E:Db->Go->Prop):(X.vK E).Ok:=
 #[ok.mod,ok.kind,ok.glob,ok.blt,ok.above,ok.inj,ok.has,ok.cab,ok.hd,ok.frames,ok.stk,ok.exf,ok.bs,ok.bsz,ok.noex,ok.exfs,ok.vZ,ok.frf]
theorem Cx.Ok.zg{X:Cx}(ok:(X.vK E).Ok):X.Ok:=
 #[ok.mod,ok.kind,ok.glob,ok.blt,ok.above,ok.inj,ok.has,ok.cab,ok.hd,ok.frames,ok.stk,ok.exf,ok.bs,ok.bsz,ok.noex,ok.exfs,ok.vZ,ok.frf]
section

theorem Inv.vK(I:Inv X zG σ H s)(E:Db->Go->Prop):Inv (X.vK E) zG σ H s:=#[I.ok.vK E,I.os,I.bare,I.base,I.loc,I.cell,I.free,I.qA,I.pin,I.hok,I.len]
theorem Inv.zg(I:Inv (X.vK E) zG σ H s):Inv X zG σ H s:=#[I.ok.zg,I.os,I.bare,I.base,I.loc,I.cell,I.free,I.qA,I.pin,I.hok,I.len]
theorem SP.zg(h:SP (X.vK E) zG D f c):SP X zG D f c:=by
 cases f with
 |next=>let#[b,a,I,q]:=h; exact#[_,a,I.zg,q]
 |brk=>let#[b,a,I,q]:=h; exact#[_,a,I.zg,q]
 |cont=>let#[b,a,I,q]:=h; exact#[_,a,I.zg,q]
 |ret u=>let#[v,b,a,I,r,q]:=h; exact#[v,_,a,I.zg,r,q]
theorem PSs.nox(h:PSs X.nox a t):PSs X a t:=λzG s σ H D I b=>
 gQ (h _ s σ H D (I.vK _) b) (λ_ _ q=>q.zg) λ_ _ z=>gh z
end
section
variable {st:Stmt}
def Wn:TS:=λD a H=>D.nx a H
def QY(t u:TS):TS:=λD a H=>t {D with nx:=u D} a H
theorem Ld:PSs X [] Wn:=λ_ _ a H _ I h=>jr #[a,H,I,h]
theorem BG(a:PS X st t)(b:PSs X rest u):PSs X (st::rest)^QY t u:=by
 intro i s c H D I h;refine mZ^thn (a _ s c H _ I h) λf d q=>?_;cases f with
 |next=>
  let#[j,e,g,q]:=q;exact b _ d _ e D g q
 |ret v=>exact q
 |brk=>exact q
 |cont=>exact q
theorem Cz(a:PS X st t):PSs X [st] t:=by
 intro c s b H D I h;refine mZ^thn (a _ s b H D I h) λf d q=>?_;cases f with
 |next=>exact jr q
 |ret v=>exact q
 |brk=>exact q
 |cont=>exact q
theorem Inv.quiet(I:Inv X a b H s):interactive X.env=q_:=by simp[interactive,I.ok.kind]
def aL(te:TE):TS:=λD a H=>te a H λ_ b=>D.nx a b
theorem VE(b:PE X e te)(c:swapsWith e o_ pos.line X.env=pure q_:=by rfl):PS X (.Expr e pos)^aL te:=λi s a H D I h=>wpAny_Expr_any (thn (b _ s a H _ I h) λv j #[x,d,f,k,g]=>#[a,d,f,g]) I.quiet c
def U1(te:TE):TS:=λD a H=>te a H D.rt
theorem Fh(b:PE X e te):PS X (.Return (P3 e) pos)^U1 te:=λi s a H D I h=>wpAny_Return_some^thn (b _ s a H _ I h) λv j #[x,c,d,f,g]=>#[x,a,c,d,f,g]
def aJ(c:TT)(t u:TS):TS:=λD a H=>c a H λb d=>if b=p_ then t D a d else u D a d
theorem Pa(l:PT X c f)(m:PSs X a t)(n:PSs X b u):PS X (.If c a b pos)^aJ f t u:=by
 intro o s e H D I h;refine wpAny_If^thn (l _ s e H _ I h) λd g zz=>?_;let#[i,j,k]:=zz;cases d with
 |true=>exact m _ g e i D j k
 |false=>exact n _ g e i D j k
end
abbrev TG:=V->St->Hp->(St->Hp->Prop)->Prop
abbrev Zd:=r_ V->St->Hp->(St->Hp->Prop)->Prop
def PG(X:Cx)(a:gA)(t:TG):Prop:=
 ∀(b:r_ (Ch×Obj)) (s:Go) (c:St) (H:Hp) (v:V) (u:Db) (Q:St->Hp->Prop),Inv X b c H s->RelV v u->t v c H Q->
  wpAny (model X.prog X.w) X.A (assign a X.env u) (λ_ f=>∃d e,Inv X b d e f/\Q d e) X.xe s
def cR(X:Cx)(g:r_ gA)(t:Zd):Prop:=
 ∀(a:r_ (Ch×Obj)) (s:Go) (b:St) (H:Hp) (c:r_ V) (d:r_ Db) (Q:St->Hp->Prop),Inv X a b H s->qQ c d->t c b H Q->
  wpAny (model X.prog X.w) X.A (assignInOrder ((assignEach g X.env).map (·.2)) d) (λ_ h=>∃e f,Inv X a e f h/\Q e f) X.xe s
abbrev Zc:=V->V->V->Hp->(Hp->Prop)->Prop
def cP(X:Cx)(t:Zc):Prop:=
 ∀(a:r_ (Ch×Obj)) (s:Go) (b:St) (H:Hp) (o i v:V) (c d u:Db) (Q:Hp->Prop),Inv X a b H s->RelV o c->RelV i d->RelV v u->t o i v H Q->
  wpAny (model X.prog X.w) X.A (setItem c d u) (λ_ f=>∃e,Inv X a b e f/\Q e) X.xe s
abbrev cv:=V->V->Hp->VK->Prop
def fI(X:Cx)(c:Operator)(t:cv):Prop:=
 ∀(a:r_ (Ch×Obj)) (s:Go) (b:St) (H:Hp) (x y:V) (v u:Db) (Q:VK),Inv X a b H s->RelV x v->RelV y u->t x y H Q->
  wpAny (model X.prog X.w) X.A (inplaceOp c v u) (EP X a b Q) X.xe s
section

def HW(i:Nat):TG:=λv a H Q=>Q (a.set i^P3 v) H
theorem GG(a:X.N.Nodup)(b:X.N[i]?=P3 x)(hx:Loc X.env.scope x)(c:X.fn x=p_\/X.env.scope.names.lookup x=P3 .local:=by first|exact .inl rfl|exact .inr rfl|assumption):PG X (.Name x pos)^HW i:=λe s f H v u Q I r h=>wpAny_assign_Name^DV I a b hx r (λg d=>#[_,H,d,h]) c
def d7:Zd:=λa b H Q=>a=[]/\Q b H
def bU(t:TG)(u:Zd):Zd:=λa b H Q=>∃v r,a=v::r/\t v b H λc d=>u r c d Q
theorem Pf:cR X [] d7:=by
 intro b s a H c d Q I r h;let#[e,h]:=h;exact assignInOrder_nil #[a,H,I,h]
theorem GF(b:PG X e t)(c:cR X a u)
  (d:(assignEach (e::a) X.env).map (·.2)=assign e X.env::(assignEach a X.env).map (·.2):=by rfl):cR X (e::a)^bU t u:=by
 intro n s f H o p Q I r h;let#[v,q,g,h]:=h;subst g;cases r with
 |cons r i=>
  rw[d];refine lm^thn (b _ s f H _ _ _ I r h) λ_ j zz=>?_;let#[_,k,l,m]:=zz;exact c _ j _ k _ _ Q l i m
def d6(K:Frag)(n:Nat)(t:Zd):TG:=λv c H Q=>∃a b,v=.ref a/\SqT K H a b/\b.length=n/\t b c H Q
theorem S7(g:X.calm=p_)(h:cR X c t)
  (i:(assignEach c X.env).length=n:=by rfl) (d:(assignEach c X.env).findIdx? (·.1)=o_:=by rfl):PG X (.Tuple c k pos)^d6 X.K n t:=by
 intro A s j H v u Q I r f;let#[a,l,m,p,q,f]:=f;subst m;subst r;let#[w,x,y,B]:=I.tuple p;exact assign_Tuple_tuple (I.ok.hd g) y (by simp[i,←q,x.length]) d λC z=>h _ _ j H l _ Q (I.kept λb o e=>z b o (f9^Tk e) e) (by omega) f
def bT(b c:TE)(t:Zc):TG:=λv a H Q=>b a H λo d=>c a d λi H2=>t o i v H2 λe=>Q a e
theorem ON(f:PE X o d)(g:PE X i e)(j:cP X t)
  (E:∀v,assign (.Subscript o i pos) X.env v=(do
   let a ←holding [v]^eval o X.env
   let b ←holding [v,a] (eval i X.env)
   standAt pos
   holding [v,a,b] (setItem a b v)
   release [v,a,b] []):=by intro _; rfl):PG X (.Subscript o i pos)^bT d e t:=λF s c H v u Q I r h=>Cn^gU^thn (f _ s c H _ I h) λa k #[x,l,m,n,p]=>Cn^gU^thn (g _ k c l _ m p) λb q #[y,H2,w,z,A]=>Cn^kM^Cn^gU^thn (j _ q c H2 x y v a b u _ w n z r A) λ_ G #[B,C,D]=>wpAny_release #[c,B,C,D]
def Mi(b:TE)(g:TG):TS:=λD a H=>b a H λx c=>g x a c D.nx
theorem Le(d:PE X e b)(f:PG X a g)(i:swapsWithSole [a] e pos.line X.env=pure q_:=by rfl)(j:swappedStores [a] e X.env=pure o_:=by rfl)
  (k:(assignEach [a] X.env).map (·.2)=[assign a X.env]:=by rfl):PS X (.Assign [a] e pos)^Mi b g:=by
 intro r s c H D I h;refine wpAny_Assign_stores (thn (d _ s c H _ I h) λv l #[x,m,n,o,p]=>?_) i j;rw[k];exact thn (f _ l c m x v _ n o p) λ_ t q=>q
theorem Ep(c:X.N.Nodup)(d:X.N[i]?=P3 x)(hx:Loc X.env.scope x)(f:PE X e b)(g:swapsWith e (P3^.Name x a) pos.line X.env=pure q_:=by rfl)(j:X.fn x=p_\/X.env.scope.names.lookup x=P3 .local:=by first|exact .inl rfl|exact .inr rfl|assumption):
  PS X (.Assign [.Name x a] e pos) (Mi b^HW i):=λq s k H D I h=>wpAny_Assign_Name (thn (f _ s k H _ I h) λv r #[y,l,m,n,o]=>DV m c d hx n (λt p=>#[_,l,p,o]) j) g
def dJ(i j:Nat)(b:TA):TS:=λD a H=>b a H λc d=>∃v w,c=[v,w]/\D.nx ((a.set i^P3 v).set j^P3 w) d
theorem YO{kt k2 pt2}(G:X.calm=p_)(u:X.N.Nodup)(J:X.N[i]?=P3 x)(K:X.N[j]?=P3 y)(l:i≠j)
  (hx:X.env.scope.names.lookup x=P3 .local) (z:X.env.scope.names.lookup y=P3 .local) (L:PA X [a,b] t)
  (M:swappedStores [.Tuple [.Name x g,.Name y k] kt pt] (.Tuple [a,b] k2 pt2) X.env=pure^P3 [x,y])
  (O:swapsWithSole [.Tuple [.Name x g,.Name y k] kt pt] (.Tuple [a,b] k2 pt2) pos.line X.env=pure q_:=by rfl):
  PS X (.Assign [.Tuple [.Name x g,.Name y k] kt pt] (.Tuple [a,b] k2 pt2) pos) (dJ i j t):=by
 intro B s C H D I h;simp only[exec_Assign_arm];refine Cn^kM ?_;rw[O];refine Cn^Sc ?_;rw[if_neg^by cbv];refine Cn^Tuple_^thn (L _ B s C H _ I h) λP c zz=>?_;let#[vs,E,Q,R,m]:=zz;let#[v,w,S,m]:=m;subst S
 obtain⟨d,f,rfl,T,n⟩:∃d f,P=[d,f]/\RelV v d/\RelV w f:=by
  cases R with
  | cons p q=>
   cases q with
   |cons U V=>
    cases V;exact#[_,_,rfl,p,U]
 refine iA ?_ (by show 2<=sizeLine; decide);have W:Inv X B C E {c with heap:=c.heap.push {cls:=.type "tuple",data:=.seq [d,f].toArray}}:=Q.kept (t':=c.toks) λb o e=>Ev _ e;rw[M];refine Cn^Sc ?_;show wpAny (model X.prog X.w) X.A (do rule "assign.swapped-stores"; let items ←unpackItems (.ref c.heap.objs.size) 2 o_; assignInOrder [λv=>bindName X.env y v,λv=>bindName X.env x v] items.reverse; pure Flow.next) _ _ _;refine Cn^kE^Cn^unpackItems_tuple (items:=#[ d,f]) (I.ok.hd G) (IsTup.new c.heap _) λh' r=>?_;have Y:=W.kept (h':=h') (t':=c.toks) λb o e=>r b o (f9^Tk e) e;show wpAny _ _ (assignInOrder [λv=>bindName X.env y v,λv=>bindName X.env x v] [f,d] >>=λ_=>pure Flow.next) _ _ _;refine Cn^lm^wpAny_bindName^DV Y u K (.inl z) n (λs2 Z=>?_)^.inr z;refine lm^wpAny_bindName^DV Z u J (.inl hx) T (λs3 F=>assignInOrder_nil^Sc ?_)^.inr hx;rw[List.set_comm _ _^gf l]at F;exact#[_,E,F,m]
def dP(i:Nat)(b:TE)(c:cv):TS:=λD a H=>∃x,a[i]?=P3^P3 x/\b a H λy d=>c x y d λz H2=>D.nx (a.set i^P3 z) H2
theorem YQ(E:X.N.Nodup)(t:X.N[i]?=P3 x)(hx:Loc X.env.scope x)(F:PE X e p)(G:fI X j q)(J:X.fn x=p_\/X.env.scope.names.lookup x=P3 .local:=by first|exact .inl rfl|exact .inr rfl|assumption):
  PS X (.AugAssign (.Name x d) j e pos) (dP i p q):=by
 intro n s B H D I h;let#[v,K,h]:=h;let#[m,L,M]:=I.loc;have o:QK X.env.scope x:=by rcases hx with k|k; exact .inl k; exact .inr^.inl k
 let#[u,r,l]:=M i x v t K o;refine wpAny_AugAssign_Name ?_
 have C:wpAny (model X.prog X.w) X.A (eval e X.env) (λw f=>wpAny (model X.prog X.w) X.A (inplaceOp j u w) (λr g=>wpAny (model X.prog X.w) X.A (storeName X.env x r) (λ_=>SP X n D .next) X.xe g) X.xe f) X.xe s:=by
  refine thn (F n s B H _ I h) λw O zz=>?_;let#[y,P,Q,R,S]:=zz;refine thn (G n O B P v y u w _ Q r R S) λz s2 zz=>?_;let#[zv,H2,T,U,V]:=zz;exact DV T E t hx U (λs3 W=>#[_,H2,W,V]) J
 rcases l with⟨a,Y⟩|⟨a,c,Z,b⟩
 .exact wpAny_loadName_local I.ok.kind a L Y C
 .rcases a with a|a
  .exact wpAny_loadName_cell I.ok.kind a Z b C
  .rcases hx with k|k
   .have:X.env.scope.names.lookup x=P3 .free:=a
    rw[k]at this; cases this
   .have:X.env.scope.names.lookup x=P3 .free:=a
    rw[k]at this; cases this
def fX(f:Int->Int->Int):cv:=λx y H Q=>∃i j,x=.int i/\y=.int j/\Q (.int^f i j) H
theorem Yt:fI X .Add (fX λi j=>i+j):=by
 intro e s f H x y v u Q I a b h;let#[i,j,c,d,q]:=h;subst c; subst d
 let#[t,rfl]:=a;let#[g,rfl]:=b;exact iadd_int #[.int _,H,I.tok _,#[_,rfl],q]
end
section

def X4(c:TT)(h:TS):TS:=λD a H=>∃W:Nat->St->Hp->Prop,(∃m,W m a H)/\∀m a H,W m a H->
 c a H λb d=>if b=p_ then ∃N:St->Hp->Prop,(∀e f,N e f->∃g,g<m/\W g e f)/\h {D with nx:=N,ct:=N,bk:=D.nx} a d else D.nx a d
theorem S0(x:lE (model X.prog X.w) X.A X.env X.xe)(F:PT X c t)(G:PSs X a u):PS X (.While c a [] pos)^X4 t u:=by
 intro l s J H D I h;let#[W,#[K,L],d]:=h;refine wpAny_While^codeAny_whileLoop (λn M=>∃y z,Inv X l y z M/\W n y z) ?_ K #[J,H,I,L];rintro n O ⟨i,B,P,Q⟩;refine jM x^thn (F l O i B _ P^d n i B Q) λb R zz=>?_;let#[H2,C,j]:=zz;cases b with
 | true=>
  let#[N,E,j]:=j;rw[if_pos rfl];refine jM x^thn (G l R i H2 _ C j) λf S k=>?_;cases f with
  |next=>
   let#[e,g,m,o]:=k;let#[p,q,r]:=E e g o;exact#[p,q,e,g,m,r]
  |cont=>
   let#[e,g,m,o]:=k;let#[p,q,r]:=E e g o;exact#[p,q,e,g,m,r]
  |brk=>exact k
  |ret v=>exact k
 |false=>
  rw[if_neg f6];exact jr #[i,H2,C,j]
end
structure It where
 go:Nat->Hp->Prop
 yld:Nat->Hp->V->Hp->Prop
 stop:Nat->Hp->Prop
def FO(X:Cx)(a:r_ (Ch×Obj))(H:Hp)(b:Ch):Prop:=
 H b=o_/\b≠X.env.locals/\b∉X.fs/\(b∈X.ex\/X.s₀.heap.objs.size<=b)/\(∀x c,X.env.cells.lookup x=P3 c->c≠b)/\∀p∈X.pn++a,p.1≠b
theorem Inv.vT(I:Inv X d g H s)(a:s.heap.objs.size<=b)(h:f b=o_):FO X d f b:=by
 refine#[h,i7^gD I.lt a,I.nofs a,.inr^f_ I.sz a,λx c e z=>?_,λp i z=>?_]
 .let#[v,q]:=I.cell x c e
  exact absurd (gD q.lt^by simp only[z]; exact a)^gS _
 .exact absurd (gD (Tk (I.pin p i).1)^by simp only[z]; exact a)^gS _
structure Turn (P:f7) (w:gB) (K:Frag) (tg:gA) (J:It) (fp:List Ch) (it:Ch) (tn:Nat->fz->Prop):Prop where
 mem:it∈fp
 obj:∀i h,tn i h->∀b∈fp,∃o,h.get? b=P3 o/\∀v,o.data≠.cell v
 keep:∀i h h',tn i h->(∀b∈fp,∀o,h.get? b=P3 o->h'.get? b=P3 o)->tn i h'
 item:∀(X:Cx),X.prog=P->X.w=w->X.K=K->X.calm=p_->∀(i:Nat) (zG:List (Ch×Obj)) (s:Go) (σ:St) (H:Hp) (E:Db->Go->Prop),Inv X zG σ H s->(∀b∈fp,FO X zG H b)->tn i s.heap->J.go i H->
  wpAny (model P w) X.A (pyNext^.ref it) (λr s1=>∃u,r=P3 u /\
   wpAny (model P w) X.A (letOwnedTupleGo tg (.ref it) u) (λ_ s2=>∃x H',Inv X zG σ H' s2/\RelV x u/\J.yld i H x H'/\tn (i+1) s2.heap/\∀b∈fp,H' b=o_) E s1) E s
 done:∀(X:Cx),X.prog=P->X.w=w->X.K=K->X.calm=p_->∀(i:Nat) (zG:List (Ch×Obj)) (s:Go) (σ:St) (H:Hp) (E:Db->Go->Prop),Inv X zG σ H s->(∀b∈fp,FO X zG H b)->tn i s.heap->J.stop i H->
  wpAny (model P w) X.A (pyNext^.ref it) (λr s1=>r=o_/\Inv X zG σ H s1) E s
 self:∀(A:gE) (i:Nat) (s:Go) (Q:Db->Go->Prop) (E:Db->Go->Prop),tn i s.heap->Q (.ref it) s->wpAny (model P w) A (pyIter^.ref it) Q E s
abbrev TI:=St->Hp->(It->Hp->Prop)->Prop
def fJ(X:Cx)(d:r_ (Ch×Obj))(i:St)(j:gA)(R:It->Hp->Prop)(a:Db)(e:Go):Prop:=
 ∃(f:Ch) (g:r_ Ch) (h:Nat->fz->Prop) (J:It) (c:Hp),a=.ref f/\Inv X d i c e/\Turn X.prog X.w X.K j J g f h/\h 0 e.heap/\(∀b∈g,FO X d c b)/\R J c
def PI(X:Cx)(d a:gA)(e:TI):Prop:=
 ∀(c:r_ (Ch×Obj)) (s:Go) (b:St) (H:Hp) (R:It->Hp->Prop),Inv X c b H s->e b H R->
  wpAny (model X.prog X.w) X.A (eval a X.env) (λv f=>wpAny (model X.prog X.w) X.A (pyIter v) (fJ X c b d R) X.xe f) X.xe s
theorem NR  (e:s.heap.get? c=P3 o) (f:o.cls=.type n) (hd:o.data=.fields d)
    (g:["enumerate","zip","dict_itemiterator","dict_reverseitemiterator","odict_iterator","itertools.zip_longest","itertools.pairwise"].contains n=q_) (a:Q () s):wpAny M A (letOwnedTupleGo b (.ref c) u) Q E s:=by
  unfold letOwnedTupleGo
  cases b <;>first
    |exact Sc a
    |(cases u <;>first
        |exact Sc a
        | (refine Cn^wpAny_load e ?_
           simp only[f,hd];show wpAny M A (if(["enumerate","zip","dict_itemiterator","dict_reverseitemiterator","odict_iterator","itertools.zip_longest","itertools.pairwise"].contains n && d[0]?==P3^rawInt _)=p_ then _ else _) Q E s;rw[if_neg^by grind];exact Sc a))
def eh(K:Frag)(a:Ch):It:=
 #[λi H=>∃b x,SqL K H a b/\b[i]?=P3 x,λi H x c=>c=H/\∀b,SqL K H a b->b[i]?=P3 x,λi H=>∃b,SqL K H a b/\b.length<=i]
def Zm(K:Frag)(a:Ch):It:=
 #[λi H=>∃b x,SqT K H a b/\b[i]?=P3 x,λi H x c=>c=H/\∀b,SqT K H a b->b[i]?=P3 x,λi H=>∃b,SqT K H a b/\b.length<=i]
def cU(a:Int)(n:Nat):It:=#[λi _=>i<n,λi H x b=>b=H/\x=.int (a+i),λi _=>n<=i]
theorem QS{K:Frag}(a g:Ch):Turn P w K R (eh K a) [g] g (λi h=>h.IsListIter g a i) where
 mem:=by simp
 obj:=λi h f b j=>by
  have e:b=g:=by simpa using j
  subst e;let#[o,e,c,d]:=f;exact#[o,e,λv z=>by rw[d]at z; cases z]
 keep:=λi h m f k=>f.at λo e=>k g (by simp) o e
 item:=by
  intro X r t y N i O s Q H E I n f A;subst r t y;let#[S,x,q,B]:=A;let#[C,D,p,T]:=I.list q;let#[u,U,V]:=D.get B;let#[F,G,W,J,L,M]:=n g (by simp);refine wpAny_pyNext_list_item f p.isList (x:=u) (by simpa using U) λm l Y=>?_;have Z:Inv X O Q H {s with heap:=m}:=I.turned (t':=s.toks) (λb o j e=>(Y.2 b j).trans e) F G J L M;let#[o,e,c,d]:=id l;exact#[u,rfl,NR (s:={s with heap:=m}) e c d (by cbv) #[x,H,Z,V,#[rfl,λys hy=>by rw[I.list_inj hy q]; exact B],l,λb j=>(n b j).1]]
 done:=by
  intro X r t y N i O s Q H E I n f A;subst r t y;let#[S,q,B]:=A;let#[C,D,p,T]:=I.list q;let#[F,G,W,J,L,M]:=n g (by simp);have hl:=D.length;exact wpAny_pyNext_list_end (I.ok.hd N) f p.isList (by simp; lk) λm eb=>#[rfl,I.turned (t':=s.toks) (λb o j e=>eb b o j e) F G J L M]
 self:=λ_ _ _ _ _ f h=>wpAny_pyIter_listiter f h
theorem Il{K:Frag}(a g:Ch):Turn P w K R (Zm K a) [g] g (λi h=>h.IsTupleIter g a i) where
 mem:=by simp
 obj:=λi h f b j=>by
  have e:b=g:=by simpa using j
  subst e;let#[o,e,c,d]:=f;exact#[o,e,λv z=>by rw[d]at z; cases z]
 keep:=λi h n f k=>f.at λo e=>k g (by simp) o e
 item:=by
  intro X t y A N i O s Q H E I q f B;subst t y A;let#[S,x,r,C]:=B;let#[l,D,p,T]:=I.tuple r;let#[u,U,V]:=D.get C;let#[F,G,W,J,L,M]:=q g (by simp);refine wpAny_pyNext_tuple_item f (show s.heap.IsTuple a l.toArray from p) (x:=u) (by simpa using U) λn m Y=>?_;have Z:Inv X O Q H {s with heap:=n}:=I.turned (t':=s.toks) (λb o j e=>(Y.2 b j).trans e) F G J L M;let#[o,e,c,d]:=id m;exact#[u,rfl,NR (s:={s with heap:=n}) e c d (by cbv) #[x,H,Z,V,#[rfl,λys hy=>by rw[I.tuple_inj hy r]; exact C],m,λb j=>(q b j).1]]
 done:=by
  intro X t y A N i O s Q H E I q f B;subst t y A;let#[S,r,C]:=B;let#[l,D,p,T]:=I.tuple r;let#[F,G,W,J,L,M]:=q g (by simp);have hl:=D.length;exact wpAny_pyNext_tuple_end (I.ok.hd N) f (show s.heap.IsTuple a l.toArray from p) (by simp; lk) λn eb=>#[rfl,I.turned (t':=s.toks) (λb o j e=>eb b o j e) F G J L M]
 self:=λ_ _ _ _ _ f h=>wpAny_pyIter_tupleiter f h
theorem N7{K:Frag}(c:Ch)(g:Int)(n:Nat):Turn P w K G (cU g n) [c] c (λi h=>IsRangeIter h c (g+(i:Nat)*1) ((n:Int) - (i:Nat)) 1) where
 mem:=by simp
 obj:=λi h a b d=>by
  simp_all
 keep:=λi h j a k=>k c (by simp) _ a
 item:=by
  intro X m p q r i C s D H E I l a u;subst m p q;let#[x,y,J,z,A,B]:=l c (by simp);have W:=Walks.range (prog:=X.prog) (w:=X.w) (I.ok.hd r) c g 1 n;refine W.item i s _ _ u a λv j F L f M=>?_;let#[t,rfl]:=L;have N:Inv X C D H {s with heap:=j,toks:=F}:=I.turned (λb o d e=>M b o (by simpa using d) e) x y z A B;refine#[_,rfl,NR (s:={s with heap:=j,toks:=F}) (n:="range_iterator") f rfl rfl (by cbv) #[.int (g+i),H,N,#[t,?_],#[rfl,rfl],f,λb d=>(l b d).1]];rw[Int.mul_one]
 done:=by
  intro X m p q r i C s D H E I l a u;subst m p q;let#[x,y,J,z,A,B]:=l c (by simp);exact wpAny_pyNext_range_end (I.ok.hd r) a (by have:n<=i:=u; lk) λj O=>#[rfl,I.turned (t':=s.toks) (λb o d e=>O b o d e) x y z A B]
 self:=λ_ _ _ _ _ a h=>wpAny_pyIter_rangeiter a h
section

def di(K:Frag)(c:TE):TI:=λd H R=>c d H λx b=>∃a,x=.ref a/\(∃e,SqT K b a e)/\R (Zm K a) b
theorem S5(f:PE X l d):PI X tg l^di X.K d:=by
 intro t s g H R I h;refine thn (f _ s g H _ I h) λv i zz=>?_;let#[x,j,c,k,m]:=zz;let#[a,e,#[u,n],q]:=m;subst e;subst k;let#[r,w,p,y]:=c.tuple n;refine ic (p) ?_;refine#[_,_,_,_,j,rfl,c.kept λb o e=>Ev _ e,Il a _,#[_,UF _ rfl,rfl,rfl],λb z=>?_,q];have e:b=i.heap.objs.size:=by simp_all
 subst e;exact c.vT (On _)^c.hok.fresh^On _
theorem Mr(I:Inv X d f H s)(i:-(2 ^ 62)<=a)(j:a<2 ^ 62)(k:-(2 ^ 62)<=c)(l:c<2 ^ 62)
  (q:R (cU a (c - a).toNat) H):wpAny (model X.prog X.w) X.A (pyIter^.ref s.heap.objs.size) (fJ X d f tg R) E {s with heap:=s.heap.push {cls:=.type "range",data:=.fields #[ .int a t,.int c u,.int 1 v]},toks:=g}:=by
 refine wpAny_pyIter_range (IsRange.new ..) (small_one i j k l) ?_;have h:Inv X d f H {s with heap:=s.heap.push {cls:=.type "range",data:=.fields #[ .int a t,.int c u,.int 1 v]},toks:=g}:=I.kept λb o e=>Ev _ e
 refine#[(s.heap.push {cls:=.type "range",data:=.fields #[ .int a t,.int c u,.int 1 v]}).objs.size,[(s.heap.push {cls:=.type "range",data:=.fields #[ .int a t,.int c u,.int 1 v]}).objs.size],_,_,H,rfl,
  h.kept (t':=g) λb o e=>Ev _ e,N7 _ a (c - a).toNat,?_,λb m=>?_,q]
 .have n:a+((0:Nat):Int)*1=a:=by simp
  have p:(((c - a).toNat:Nat):Int) - ((0:Nat):Int)=Builtin.Range.rangeSize a c 1:=by simp only[rangeSize_one]; grind
  show IsRangeIter _ _ (a+((0:Nat):Int)*1) ((((c - a).toNat:Nat):Int) - ((0:Nat):Int)) 1;simp only[n,p];exact UF _ rfl
 .have e:b=(s.heap.push {cls:=.type "range",data:=.fields #[ .int a t,.int c u,.int 1 v]}).objs.size:=by simpa using m
  subst e;exact h.vT (On _)^h.hok.fresh^On _
def bN(a:TA):TI:=λb H R=>a b H λc d=>∃j:Int,c=[.int j]/\-(2 ^ 62)<=j/\j<2 ^ 62/\R (cU 0 j.toNat) d
def bM(a:TA):TI:=λb H R=>a b H λc d=>∃i j:Int,c=[.int i,.int j]/\(-(2 ^ 62)<=i/\i<2 ^ 62/\-(2 ^ 62)<=j/\j<2 ^ 62)/\R (cU i (j - i).toNat) d
theorem Qk(d:Gl X "range")(f:X.mg "range"=o_)(g:PA X [a] c)(i:starEach [a] X.env=[(q_,eval a X.env)]:=by rfl):PI X tg (.Call (.Name "range" p) [a] [] pos)^bN c:=by
 intro u s k H R I h;refine Call_^D6 I d f boot_range (h_ (thn (g _ _ s k H _ I h) λv w zz=>?_) i rfl);let#[x,y,l,m,b]:=zz;let#[j,e,b,n,q]:=b;subst e;cases m with
 |cons r o=>
  cases o;let#[t,rfl]:=r;exact call_range_1^Mr l (by lk) (by lk) b n^by simpa using q
theorem Qj(k:Gl X "range")(l:X.mg "range"=o_)(m:PA X [a,b] g)(n:starEach [a,b] X.env=[(q_,eval a X.env),(q_,eval b X.env)]:=by rfl)(c:starEach [b] X.env=[(q_,eval b X.env)]:=by rfl):
  PI X tg (.Call (.Name "range" p) [a,b] [] pos) (bM g):=by
 intro A s o H R I h;refine Call_ (D6 I k l boot_range^h_ (thn (m _ _ s o H _ I h) λB C zz=>?_) (by simp only[n,c])^by rw[c]; rfl);let#[D,E,u,v,d]:=zz;let#[i,j,e,#[d,w,x,y],q]:=d;subst e;cases v with
 | cons r f=>
  cases f with
  |cons z f=>
   cases f;let#[t,rfl]:=r;let#[F,rfl]:=z;exact call_range_2^Mr u d w x y q
def dO(e:TI)(g:TG)(f:TS):TS:=λD a H=>e a H λJ h=>∃W:Nat->Nat->St->Hp->Prop,(∃m,W 0 m a h)/\∀i m a H,W i m a H->
 (J.stop i H/\D.nx a H)\/(J.go i H/\∃N:St->Hp->Prop,(∀c b,N c b->∃d,d<m/\W (i+1) d c b)/\∀x b,J.yld i H x b->g x a b λj H2=>f {D with nx:=N,ct:=N,bk:=D.nx} j H2)
def JF(a:r_ Ch)(h:fz):r_ (Ch×Obj):=a.filterMap λb=>(h.get? b).map λo=>(b,o)
theorem EU(c:b∈a)(e:h.get? b=P3 o):(b,o)∈JF a h:=ln.mpr #[b,c,by rw[e]; rfl]
theorem Qt(c:p∈JF a h):p.1∈a/\h.get? p.1=P3 p.2:=by
 let#[b,f,e]:=ln.mp c;cases q:h.get? b with
 |none=>simp_all
 |some o=>
  rw[q]at e;have d:=fu e;subst d
  simp_all
theorem Inv.pinned(I:Inv X a f H s)(h:∀b∈c,FO X a H b)(i:∀b∈c,∃o,s.heap.get? b=P3 o/\∀v,o.data≠.cell v):Inv X (a++JF c s.heap) f H s:=
 I.pins_of λp j=>(Uf.mp j).elim (λz=>I.pin p^f8 _ z) λz=>by
  let#[g,e]:=Qt z;let#[k,l,m,_]:=h _ g;let#[o,n,d]:=i _ g
  simp_all
theorem Inv.vk(I:Inv X (a++c) b H s):Inv X a b H s:=I.pins_of λp d=>I.pin p^f8 _^gy _ d
theorem JD(C:lE (model X.prog X.w) X.A X.env X.xe)(hc:X.calm=p_)(hi:PI X tg a wi)(hg:PG X tg g)(c:PSs X t tb)
  (hs:∀x,foldedSetIterable a X.env x=pure x:=by intro _; rfl):PS X (.For tg a t [] pos)^dO wi g tb:=by
 intro z s σ H D I h;refine wpAny_For (thn (hi z s σ H _ I h) λv s1 h1=>thn h1 λa0 s2 h2=>?_) hs;let#[it,E,tn,J,H2,e,I2,T,R,f2,W,#[m0,w0],F]:=h2;subst e;have j:∀{q:Hp},(∀b∈E,q b=o_)->∀b∈E,FO X z q b:=λhn b c=>#[hn b c,(f2 b c).2];refine codeAny_forLoop_any (λn s'=>∃i G q,Inv X z G q s'/\tn i s'.heap/\(∀b∈E,q b=o_)/\W i n G q) ?_ m0 #[0,σ,H2,I2,R,λb c=>(f2 b c).1,w0];rintro n s3 ⟨i,K,Q,I3,L,M,w3⟩
 rcases F i n K Q w3 with⟨O,qn⟩|⟨go,N,hN,step⟩
 .refine jM C^thn (T.done X rfl rfl rfl hc i z s3 K Q X.xe I3 (j M) L O) λr s4 zz=>?_;let#[S,I4]:=zz
  subst S;exact jr #[K,Q,I4,qn]
 .refine jM C^thn (T.item X rfl rfl rfl hc i z s3 K Q X.xe I3 (j M) L go) λr s4 zz=>?_;let#[u,S,h4]:=zz
  subst S;refine jM C^thn h4 λ_ s5 zz=>?_;let#[x,H5,I5,r5,y5,B,U]:=zz;have V:=I5.pinned (j U)^T.obj _ _ B;refine jM C^thn (hg _ s5 K H5 x u _ V r5^step x H5 y5) λ_ s6 zz=>?_;let#[Y,H6,I6,q6]:=zz;refine jM C^thn (c _ s6 Y H6 _ I6 q6) λf Z y=>?_
  have again:∀{k:St}{l:Hp},Inv X (z++JF E s5.heap) k l Z->N k l->∃m,m<n/\∃i G q,Inv X z G q Z/\tn i Z.heap/\(∀b∈E,q b=o_)/\W i m G q:=λ{k l} p P=>by
   let#[m',hm,w7]:=hN k l P;refine#[m',hm,i+1,k,l,p.vk,T.keep _ _ _ B λb c o e=>(p.pin (b,o)^f8 _^f8 _^EU c e).1,λb c=>?_,w7];let#[o,e,d]:=T.obj _ _ B b c;exact(p.pin (b,o)^f8 _^f8 _^EU c e).2.1
  cases f with
  |next=>let#[k,l,p,P]:=y; exact again p P
  |cont=>let#[k,l,p,P]:=y; exact again p P
  |brk=>let#[k,l,p,y]:=y; exact#[k,l,p.vk,y]
  |ret v=>let#[x7,k,l,p,r7,y]:=y; exact#[x7,k,l,p.vk,r7,y]
end
theorem Pw{K:Frag}{g:TG}{k:TS}{D:Ends}(c:Nat->St->Hp->Prop)(n:c 0 b H)(o:∀i b H,i<=xs.length->c i b H->SqT K H a xs)
  (r:∀i x b H,xs[i]?=P3 x->c i b H->g x b H λf H2=>k {D with nx:=c (i+1),ct:=c (i+1),bk:=D.nx} f H2) (s:∀b H,c xs.length b H->D.nx b H):
  ∃W:Nat->Nat->St->Hp->Prop,(∃m,W 0 m b H)/\∀i m b H,W i m b H->
   ((Zm K a).stop i H/\D.nx b H)\/((Zm K a).go i H/\∃N:St->Hp->Prop,(∀h d,N h d->∃l,l<m/\W (i+1) l h d)/\∀x d,(Zm K a).yld i H x d->g x b d λf H2=>k {D with nx:=N,ct:=N,bk:=D.nx} f H2):=by
 exists λi m b H=>m=xs.length - i/\i<=xs.length/\c i b H,#[xs.length,by rfl,T0 _,n];rintro i m b H ⟨rfl,t,p⟩;have q:=o i b H t p
 by_cases j:i<xs.length
 .refine .inr #[#[xs,xs[i],q,by simp],_,λh d u=>#[_,by omega,rfl,j,u],λx d y=>?_]
  let#[e,y]:=y;subst e;exact r i x b _ (y xs q) p
 .have e:i=xs.length:=by lk
  subst e;exact .inl #[#[xs,q,On _],s b H p]
abbrev R2:=V->V->Hp->VK->Prop
def OpR(X:Cx)(f:Db->Db->Sem Db)(r:R2):Prop:=
 ∀(a:r_ (Ch×Obj)) (s:Go) (b:St) (H:Hp) (x y:V) (v u:Db) (Q:VK),Inv X a b H s->RelV x v->RelV y u->r x y H Q->
  wpAny (model X.prog X.w) X.A (f v u) (EP X a b Q) X.xe s
def eU(X:Cx)(f:Db->Sem Db)(r:V->Hp->VK->Prop):Prop:=
 ∀(a:r_ (Ch×Obj)) (s:Go) (b:St) (H:Hp) (x:V) (v:Db) (Q:VK),Inv X a b H s->RelV x v->r x H Q->
  wpAny (model X.prog X.w) X.A (f v) (EP X a b Q) X.xe s
def CL(X:Cx)(f:Db)(r:r_ V->Hp->VK->Prop):Prop:=
 ∀(a:r_ (Ch×Obj)) (s:Go) (b:St) (H:Hp) (c:r_ V) (d:r_ Db) (Q:VK),Inv X a b H s->qQ c d->r c H Q->
  wpAny (model X.prog X.w) X.A (call f d) (EP X a b Q) X.xe s
def eV(X:Cx)(r:V->Hp->(Bool->Hp->Prop)->Prop):Prop:=
 ∀(a:r_ (Ch×Obj)) (s:Go) (b:St) (H:Hp) (x:V) (v:Db) (Q:Bool->Hp->Prop),Inv X a b H s->RelV x v->r x H Q->
  wpAny (model X.prog X.w) X.A (truthy v) (TP X a b Q) X.xe s
def EC(r:R2)(b c:TE):TE:=λa H Q=>b a H λx d=>c a d λy H2=>r x y H2 Q
def fO(r:V->Hp->VK->Prop)(a:TE):TE:=λb H Q=>a b H λx c=>r x c Q
def rI(C:Int->Int->Prop)(g:Int->Int->V):R2:=λx y H Q=>∃i j,x=.int i/\y=.int j/\C i j/\Q (g i j) H
def HL(g:Int->Int->V):R2:=λx y H Q=>∃i j,x=.int i/\y=.int j/\Q (g i j) H
def rU(g:Int->V):V->Hp->VK->Prop:=λx H Q=>∃i,x=.int i/\Q (g i) H
section

theorem ZN(k:PE X a ta)(l:PE X b tb){R:V->V->Hp->Prop}(I:Inv X j c H s)
  (h:ta c H λx i=>tb c i λy H2=>R x y H2) {f:Db->Db->Sem Db}
  (m:∀v u g x y H2,Inv X j c H2 g->RelV x v->RelV y u->R x y H2->wpAny (model X.prog X.w) X.A (f v u) Q X.xe g):
  wpAny (model X.prog X.w) X.A (eval a X.env) (λv d=>wpAny (model X.prog X.w) X.A (eval b X.env) (λu e=>wpAny (model X.prog X.w) X.A (f v u) Q X.xe e) X.xe d) X.xe s:=thn (k _ s c H _ I h) λv n #[x,i,o,p,q]=>thn (l _ n c i _ o q) λu g #[y,H2,r,t,z]=>m v u g x y H2 r p t z
theorem B3(d:OpR X (binaryOp c) r)(e:PE X a ta)(f:PE X b tb):PE X (.BinOp a c b pos)^EC r ta tb:=λm s g H Q I h=>wpAny_BinOp^ZN e f I h λv u i x y H2 j k l q=>d _ i g H2 x y v u Q j k l q
theorem a9(e:eU X (unaryOp c) r)(f:PE X a ta):PE X (.UnaryOp c a pos)^fO r ta:=λm s d H Q I h=>UnaryOp_^thn (f _ s d H _ I h) λv g #[x,i,j,k,l]=>e _ g d i x v Q j k l
theorem cq{g:Int->Int->Int}
  (c:∀(i j:Int) (t u:Tok) (s:Go) (Q:Db->Go->Prop) (E:Db->Go->Prop),C i j->Q (.int (g i j) s.toks) {s with toks:=s.toks+1}->wpAny (model X.prog X.w) X.A (f (.int i t)^.int j u) Q E s):
  OpR X f (rI C λi j=>.int^g i j):=by
 intro m s n H x y v u Q I d e h;let#[i,j,rfl,rfl,k,q]:=h;let#[t,rfl]:=d;let#[l,rfl]:=e;exact c i j t l s _ _ k #[.int _,H,I.tok _,#[_,rfl],q]
theorem bD{g:Int->Int->Int}
  (c:∀(i j:Int) (t u:Tok) (s:Go) (Q:Db->Go->Prop) (E:Db->Go->Prop),Q (.int (g i j) s.toks) {s with toks:=s.toks+1}->wpAny (model X.prog X.w) X.A (f (.int i t)^.int j u) Q E s):
  OpR X f (HL λi j=>.int^g i j):=by
 intro l s m H x y v u Q I d e h;let#[i,j,rfl,rfl,q]:=h;let#[t,rfl]:=d;let#[k,rfl]:=e;exact c i j t k s _ _ #[.int _,H,I.tok _,#[_,rfl],q]
theorem VW{g:Int->Int->Bool}
  (c:∀(i j:Int) (t u:Tok) (s:Go) (Q:Db->Go->Prop) (E:Db->Go->Prop),Q (.bool^g i j) s->wpAny (model X.prog X.w) X.A (f (.int i t)^.int j u) Q E s):
  OpR X f (HL λi j=>.bl^g i j):=by
 intro l s m H x y v u Q I d e h;let#[i,j,rfl,rfl,q]:=h;let#[t,rfl]:=d;let#[k,rfl]:=e;exact c i j t k s _ _ #[.bl _,H,I,rfl,q]
def WZ(i j:Int):Prop:=0<j/\j<1073741824
def WY(i j:Int):Prop:=0<=j/\j<=1000000/\i.natAbs<2 ^ 64
def qN(i j:Int):Prop:=(-(2 ^ 64)<i/\i<2 ^ 64)\/(-(2 ^ 64)<j/\j<2 ^ 64)
theorem qN.ok(h:qN i j):IntMulOk i j:=by
 rcases h with⟨c,d⟩|⟨c,d⟩
 .exact .of_left^intBits_le_64 c d
 .exact .of_right^intBits_le_64 c d
theorem vy:OpR X (binaryOp .Add) (HL λi j=>.int (i+j)):=bD λ_ _ _ _ _ _ _ q=>add_int q
theorem op_sub:OpR X (binaryOp .Sub) (HL λi j=>.int (i - j)):=bD λ_ _ _ _ _ _ _ q=>sub_int q
theorem vz:OpR X (binaryOp .Mult) (rI qN λi j=>.int (i*j)):=cq λ_ _ _ _ _ _ _ c q=>mul_int q c.ok
theorem IN:OpR X (binaryOp .FloorDiv) (rI WZ λi j=>.int (i / j)):=cq λi j _ _ _ _ _ c q=>by
 have d:=c.1;have e:=c.2;exact floordiv_int (by lk) (by grind)^.inl^PyProof.noPylong_small^by omega
theorem D5:OpR X (binaryOp .Mod) (rI (λ_ j=>0<j) λi j=>.int (i % j)):=cq λi j _ _ _ _ _ c q=>mod_int' (by lk)^by rw[Int.fmod_eq_emod_of_nonneg i^by lk]; exact q
theorem DZ:OpR X (binaryOp .Pow) (rI WY λi j=>.int (i ^ j.toNat)):=cq λ_ _ _ _ _ _ _ c q=>pow_int_small c.1 c.2.1 c.2.2 q
theorem fL{g:Int->Int}
  (c:∀(i:Int) (t:Tok) (s:Go) (Q:Db->Go->Prop) (E:Db->Go->Prop),Q (.int (g i) s.toks) {s with toks:=s.toks+1}->wpAny (model X.prog X.w) X.A (f^.int i t) Q E s):
  eU X f (rU λi=>.int^g i):=by
 intro e s j H x v Q I d h;let#[i,rfl,q]:=h;let#[t,rfl]:=d;exact c i t s _ _ #[.int _,H,I.tok _,#[_,rfl],q]
theorem Xx:eU X (unaryOp .USub) (rU λi=>.int (-i)):=fL λ_ _ _ _ _ q=>neg_int q
end
def aQ:V->V->Bool
 |.non,.non=>p_|.non,.int _=>p_|.int _,.non=>p_|.non,.bl _=>p_|.bl _,.non=>p_|.non,.str _=>p_|.str _,.non=>p_
 |.int _,.int _=>p_|.bl _,.bl _=>p_|.str _,.str _=>p_|.byt _,.byt _=>p_
 |.int _,.str _=>p_|.str _,.int _=>p_|.bl _,.str _=>p_|.str _,.bl _=>p_
 |_,_=>q_
def fB:R2:=λx y H Q=>aQ x y=p_/\Q (.bl (decide (x=y))) H
def e9:R2:=λx y H Q=>aQ x y=p_/\Q (.bl (!decide (x=y))) H
theorem IY:decide (V.int i=V.int j)=(i==j):=by
 rw[hX];simp
theorem MB:decide (V.bl i=V.bl j)=(i==j):=by
 rw[hX];simp
theorem IX:decide (V.str i=V.str j)=(i==j):=by
 rw[hX];simp
theorem P7:decide (V.byt i=V.byt j)=(i.toList==j.toList):=by
 rw[hX]
 simp_all
section

theorem Ar(I:Inv X zG d H s)(q:Q (.bl k) H)(e:k=f):EP X zG d Q (.bool f) s:=by
 subst e;exact#[.bl k,H,I,rfl,q]
theorem Bt:OpR X (compareOp .Eq) fB:=by
 intro g s k H x y v u Q I f c h;let#[e,q]:=h;cases x with
 |non=>
  cases f;cases y with
  |non=>subst c; exact PySem.EqNone.eq_none_none^Ar I q^by rfl
  |bl j=>subst c; exact PySem.EqNone.eq_none_bool^Ar I q^by rfl
  |int j=>let#[d,rfl]:=c; exact PySem.EqNone.eq_none_int^Ar I q^by rfl
  |str j=>let#[d,rfl]:=c; exact PySem.EqNone.eq_none_str^Ar I q^by rfl
  |_=>exact absurd (show q_=p_ from e) f6
 |bl i=>
  subst f;cases y with
  |non=>subst c; exact PySem.EqNone.eq_bool_none^Ar I q^by rfl
  |bl j=>subst c; exact eq_bool^Ar I q MB
  |str j=>let#[d,rfl]:=c; exact PySem.EqMixed.eq_bool_str^Ar I q^by rfl
  |_=>exact absurd (show q_=p_ from e) f6
 |int i=>
  let#[t,rfl]:=f;cases y with
  |non=>subst c; exact PySem.EqNone.eq_int_none^Ar I q^by rfl
  |int j=>let#[d,rfl]:=c; exact eq_int^Ar I q IY
  |str j=>let#[d,rfl]:=c; exact PySem.EqMixed.eq_int_str^Ar I q^by rfl
  |_=>exact absurd (show q_=p_ from e) f6
 |str i=>
  let#[t,rfl]:=f;cases y with
  |non=>subst c; exact PySem.EqNone.eq_str_none^Ar I q^by rfl
  |bl j=>subst c; exact PySem.EqMixed.eq_str_bool^Ar I q^by rfl
  |int j=>let#[d,rfl]:=c; exact PySem.EqMixed.eq_str_int^Ar I q^by rfl
  |str j=>let#[d,rfl]:=c; exact eq_str^Ar I q IX
  |_=>exact absurd (show q_=p_ from e) f6
 |byt i=>
  let#[t,rfl]:=f;cases y with
  |byt j=>let#[d,rfl]:=c; exact PySem.W.eq_bytes^Ar I q P7
  |_=>exact absurd (show q_=p_ from e) f6
 |_=>cases y <;>exact absurd (show q_=p_ from e) f6
theorem Dw:OpR X (compareOp .NotEq) e9:=by
 intro g s k H x y v u Q I f c h;let#[e,q]:=h;cases x with
 |non=>
  cases f;cases y with
  |non=>subst c; exact PySem.EqNone.ne_none_none^Ar I q^by rfl
  |bl j=>subst c; exact PySem.EqNone.ne_none_bool^Ar I q^by rfl
  |int j=>let#[d,rfl]:=c; exact PySem.EqNone.ne_none_int^Ar I q^by rfl
  |str j=>let#[d,rfl]:=c; exact PySem.EqNone.ne_none_str^Ar I q^by rfl
  |_=>exact absurd (show q_=p_ from e) f6
 |bl i=>
  subst f;cases y with
  |non=>subst c; exact PySem.EqNone.ne_bool_none^Ar I q^by rfl
  |bl j=>subst c; exact ne_bool^Ar I q^congrArg not MB
  |str j=>let#[d,rfl]:=c; exact PySem.EqMixed.ne_bool_str^Ar I q^by rfl
  |_=>exact absurd (show q_=p_ from e) f6
 |int i=>
  let#[t,rfl]:=f;cases y with
  |non=>subst c; exact PySem.EqNone.ne_int_none^Ar I q^by rfl
  |int j=>let#[d,rfl]:=c; exact ne_int^Ar I q^congrArg not IY
  |str j=>let#[d,rfl]:=c; exact PySem.EqMixed.ne_int_str^Ar I q^by rfl
  |_=>exact absurd (show q_=p_ from e) f6
 |str i=>
  let#[t,rfl]:=f;cases y with
  |non=>subst c; exact PySem.EqNone.ne_str_none^Ar I q^by rfl
  |bl j=>subst c; exact PySem.EqMixed.ne_str_bool^Ar I q^by rfl
  |int j=>let#[d,rfl]:=c; exact PySem.EqMixed.ne_str_int^Ar I q^by rfl
  |str j=>let#[d,rfl]:=c; exact ne_str^Ar I q^congrArg not IX
  |_=>exact absurd (show q_=p_ from e) f6
 |byt i=>
  let#[t,rfl]:=f;cases y with
  |byt j=>let#[d,rfl]:=c; exact PySem.W.ne_bytes^Ar I q^congrArg not P7
  |_=>exact absurd (show q_=p_ from e) f6
 |_=>cases y <;>exact absurd (show q_=p_ from e) f6
theorem op_lt:OpR X (compareOp .Lt) (HL λi j=>.bl (decide (i<j))):=VW λ_ _ _ _ _ _ _ q=>m_ q
theorem op_le:OpR X (compareOp .LtE) (HL λi j=>.bl (decide (i<=j))):=VW λ_ _ _ _ _ _ _ q=>le_int q
theorem XA:OpR X (compareOp .Gt) (HL λi j=>.bl (decide (j<i))):=VW λ_ _ _ _ _ _ _ q=>gt_int q
theorem XB:OpR X (compareOp .GtE) (HL λi j=>.bl (decide (j<=i))):=VW λ_ _ _ _ _ _ _ q=>ge_int q
theorem Qq:OpR X (compareOp .Lt) (λx y H Q=>∃i j,x=.str i/\y=.str j/\Q (.bl (decide (i.cps.toList<j.cps.toList))) H):=by
 intro e s f H x y v u Q I c d h;let#[i,j,rfl,rfl,q]:=h;let#[t,rfl]:=c;let#[g,rfl]:=d;exact lt_str (Ar I q rfl)
theorem Qs:OpR X (compareOp .In) (λx y H Q=>∃i j,x=.str i/\y=.str j/\Q (.bl (!(iC j i 0 j.length 1).isEmpty)) H):=by
 intro e s f H x y v u Q I c d h;let#[i,j,rfl,rfl,q]:=h;let#[t,rfl]:=c;let#[g,rfl]:=d;exact in_str (Ar I q rfl)
theorem Fi:OpR X (compareOp .Is) (λx y H Q=>y=.non/\Q (.bl (decide (x=.non))) H):=by
 intro e s f H x y v u Q I c d h;let#[rfl,q]:=h;subst d;refine is_none_gen^Ar I q ?_
 cases x <;>first
  |omega
  |(let#[t,rfl]:=c; rfl)
theorem IM:OpR X (compareOp .IsNot) (λx y H Q=>y=.non/\Q (.bl (!decide (x=.non))) H):=by
 intro e s f H x y v u Q I c d h;let#[rfl,q]:=h;subst d;refine isnot_none_gen^Ar I q ?_
 cases x <;>first
  |omega
  |(let#[t,rfl]:=c; rfl)
theorem OpR.or(h:OpR X f r)(i:OpR X f r'):OpR X f (λx y H Q=>r x y H Q\/r' x y H Q):=by
 intro j s d H x y v u Q I e g q
 rcases q with q|q
 .exact h _ s d H x y v u Q I e g q
 .exact i _ s d H x y v u Q I e g q
theorem Bj(b:gA)(h:op≠.In:=by decide)(f:op≠.NotIn:=by decide):behindInMarks op b=q_:=by
 have d:(op==CmpOp.In)=q_:=by simp_all
 have e:(op==CmpOp.NotIn)=q_:=by simp_all
 cases b <;>simp[behindInMarks,d,e]
theorem VP(d:OpR X (compareOp op) r)(e:PE X a ta)(f:PE X b tb)(g:behindInMarks op b=q_):PE X (.Compare a [op] [b] pos)^EC r ta tb:=λn s i H Q I h=>wpAny_Compare1 (ZN e f I h λv u j x y H2 k l m q=>d _ j i H2 x y v u Q k l m q) g
def PP(t:TE):TT:=λc H Q=>t c H λx d=>∃k,x=.bl k/\Q k d
theorem GD(g:OpR X (compareOp d) r)(i:PE X a ta)(j:PE X b tb)(l:behindInMarks d b=q_):PT X (.Compare a [d] [b] pos)^PP^EC r ta tb:=by
 intro G s f H Q I h
 refine wpAny_isTrue_Compare1 (thn (i _ s f H _ I h) λv m #[x,n,o,p,q]=>thn (j _ m f n _ o q) λu t #[y,H2,w,A,B]=>
  thn (g _ t f H2 x y v u _ w p A B) λc J #[z,C,D,E,k,e,F]=>?_) l
 subst e;subst E;exact iJ #[C,D,F]
def OA(r e:R2)(ta tb tc:TE):TE:=λc H Q=>ta c H λx f=>tb c f λy H2=>r x y H2 λz d=>∃k,z=.bl k /\
 (if k=p_ then tc c d λg h=>e y g h Q else Q (.bl q_) d)
theorem TF(q:OpR X (compareOp i) r)(j:OpR X (compareOp f) l)(t:PE X a ta)(w:PE X b tb)(A:PE X c tc)
  (B:lastMarks [i,f] [b,c]=q_:=by with_unfolding_all rfl):PE X (.Compare a [i,f] [b,c] C)^OA r l ta tb tc:=by
 intro Y s g H Q I h
 refine Compare_chain (thn (t _ s g H _ I h) λv D #[x,E,F,G,J]=>chain_link (thn (w _ D g E _ F J) λu K #[y,H2,L,m,M]=>
  thn (q _ K g H2 x y v u _ L G m M) λd N #[z,n,o,O,k,e,p]=>?_)) B
 subst e;subst O;refine iJ ?_;cases k with
 |false=>exact ite_ff #[.bl _,n,o,rfl,p]
 |true=>exact ite_tt^chain_last^thn (A _ N g n _ o p) λP R #[S,T,U,V,W]=>j _ R g T y S u P Q U m V W
theorem Sy(q:OpR X (compareOp i) r)(j:OpR X (compareOp f) l)(t:PE X a ta)(w:PE X b tb)(A:PE X c tc)
  (B:lastMarks [i,f] [b,c]=q_:=by with_unfolding_all rfl):PT X (.Compare a [i,f] [b,c] C)^PP^OA r l ta tb tc:=by
 intro zG s g H Q I h
 refine isTrue_chain (thn (t _ s g H _ I h) λv D #[x,E,F,G,J]=>test_link (thn (w _ D g E _ F J) λu K #[y,H2,L,m,M]=>
  thn (q _ K g H2 x y v u _ L G m M) λd N #[z,n,o,O,k,e,p]=>?_)) B
 subst e;subst O;refine iJ ?_;cases k with
 |false=>
  let#[k',P,R]:=p;injection P with P;subst P;exact ite_ff #[n,o,R]
 |true=>
  refine ite_tt^test_last^thn (A _ N g n _ o p) λS T zz=>?_;let#[U,V,W,Y,Z]:=zz;refine thn (j _ T g V y U u S _ W m Y Z) λd' s5 zz=>?_;let#[z2,H5,I5,r5,k2,e2,q5]:=zz;subst e2;subst r5;exact iJ #[H5,I5,q5]
def Zb(K:Frag)(x:V)(H:Hp)(k:Bool):Prop:=
 match x with
 |.non=>k=q_
 |.bl b=>k=b
 |.int i=>k=(i !=0)
 |.str y=>y.length<=sizeLine/\k=((y.length:Int) !=0)
 |.byt y=>y.size<=sizeLine/\k=((y.size:Int) !=0)
 |.ref p=>(∃c,SqL K H p c/\k=!c.isEmpty)\/(∃c,SqT K H p c/\k=!c.isEmpty)\/∃d,H p=P3^.dK d/\k=!d.isEmpty
 |_=>False
theorem Og(r:KV kvs e):(!e.isEmpty)=!kvs.isEmpty:=by
 cases r <;>rfl
theorem Ja(r:qQ d its):(!its.toArray.isEmpty)=!d.isEmpty:=by
 cases r <;>rfl
theorem G7:(sizeLine:Nat)<2 ^ 63:=by cbv
theorem X2:eV X (λx H Q=>∃k,Zb X.K x H k/\Q k H):=by
 intro C s D H x v Q I j h;let#[k,e,q]:=h;have E:=G7;have F:sizeLine=16777216:=gn;cases x with
 |non=>
  subst j;have c:k=q_:=e;subst c;exact truthy_none #[H,I,q]
 |bl b=>
  subst j;have c:k=b:=e;subst c;exact iJ #[H,I,q]
 |int i=>
  let#[t,rfl]:=j;have c:k=(i !=0):=e;subst c;exact PySem.P.truthy_int #[H,I,q]
 |str y=>
  let#[t,rfl]:=j;obtain⟨A,c⟩:y.length<=sizeLine/\k=((y.length:Int) !=0):=e;subst c;exact PySem.P.truthy_str (by lk) #[H,I.tok _,q]
 |byt y=>
  let#[t,rfl]:=j;obtain⟨A,c⟩:y.size<=sizeLine/\k=((y.size:Int) !=0):=e;subst c;exact PySem.W.truthy_bytes (by lk) #[H,I.tok _,q]
 | ref p=>
  subst j;have c:(∃g,SqL X.K H p g/\k=!g.isEmpty)\/(∃g,SqT X.K H p g/\k=!g.isEmpty)\/∃d,H p=P3^.dK d/\k=!d.isEmpty:=e
  rcases c with⟨g,l,c⟩|⟨g,l,c⟩|⟨d,l,c⟩
  .subst c
   let#[o,r,u,z]:=I.list l;have f:=r.length;exact wpAny_truthy_list u.isList (by simp only[fk]; omega) #[H,I.tok _,by rw[Ja r]; exact q]
  .subst c
   let#[o,r,u,z]:=I.tuple l;have f:=r.length;exact truthy_tuple u (by simp only[fk]; omega) #[H,I.tok _,by rw[Ja r]; exact q]
  .subst c
   obtain⟨z,B,n,r,m⟩:d.length<=sizeLine/\(p==sysModules)=q_/\∃n,KV d n/\s.heap.DictOf (A7 X.prog X.w) p n:=I.hok p _ l;have f:d.length=n.length:=Paired.length r;exact wpAny_truthy_dict B m (by omega) #[H,I.tok _,by rw[Og r]; exact q]
 |_=>exact(show False from e).elim
theorem Sx(f:PE X a ta)(g:∀c,isTrue a X.env c=(do let v ←c; standAt a.pos; holding [v]^truthy v)):
  PT X a (λd H Q=>ta d H λx e=>∃k,Zb X.K x e k/\Q k e):=λo s d H Q I h=>isTrue_plain (thn (f _ s d H _ I h) λv i #[x,j,l,m,n]=>X2 _ i d j x v Q l m n)^g _
theorem OR:OpR X (binaryOp .Add) (λx y H Q=>∃i j,x=.str i/\y=.str j/\i.length+j.length<=sizeLine/\Q (.str (i++j)) H):=by
 intro g s k H x y v u Q I c d h;let#[i,j,rfl,rfl,e,q]:=h;let#[t,rfl]:=c;let#[f,rfl]:=d;exact add_str (λf l=>#[.str _,H,I.tok _,#[_,rfl],q]) e
theorem vals1(r:qQ [x] us):∃u,us=[u]/\RelV x u:=by
 cases r with
 |cons e d=>cases d; simp_all
theorem vals2(r:qQ [x,y] us):∃u d,us=[u,d]/\RelV x u/\RelV y d:=by
 cases r with
 |cons e f=>
  cases f with
  |cons g h=>cases h; exact#[_,_,rfl,e,g]
theorem Js:CL X (.builtin "abs") (λc H Q=>∃i,c=[.int i]/\Q (.int (if i<0 then -i else i)) H):=by
 intro d s e H c f Q I r h;let#[i,rfl,q]:=h;let#[u,rfl,t,rfl]:=vals1 r;exact call_abs_int λu g=>#[.int _,H,I.tok _,#[_,rfl],q]
theorem Rf(e:X.calm=p_):CL X (.builtin "min") (λd H Q=>∃i j,d=[.int i,.int j]/\Q (.int (if j<i then j else i)) H):=by
 intro f s g H d l Q I r h;let#[i,j,rfl,q]:=h;let#[u,m,rfl,#[t,rfl],#[n,rfl]]:=vals2 r;refine min_two_ints (I.ok.hd e) λo p k=>#[_,H,I.kept k,?_,q]
 by_cases c:j<i
 .rw[if_pos c,if_pos c]; exact#[_,rfl]
 .rw[if_neg c,if_neg c]; exact#[_,rfl]
theorem MH:CL X (.type "str") (λc H Q=>∃i,c=[.int i]/\i.natAbs.log2<1920/\Q (.str^toString i) H):=by
 intro e s f H c g Q I r h;let#[i,rfl,d,q]:=h;let#[u,rfl,t,rfl]:=vals1 r;exact PySem.P.str_of_int d #[.str _,H,I.tok _,#[_,rfl],q]
def Zl(K:Frag)(x:V)(H:Hp)(n:Nat):Prop:=
 match x with
 |.str y=>y.length<=sizeLine/\n=y.length
 |.byt y=>y.size<=sizeLine/\n=y.size
 |.ref p=>(∃c,SqL K H p c/\n=c.length)\/∃c,SqT K H p c/\n=c.length
 |_=>False
theorem Jr:CL X (.builtin "len") (λc H Q=>∃x n,c=[x]/\Zl X.K x H n/\Q (.int n) H):=by
 intro v s w H c z Q I r h;let#[x,n,rfl,e,q]:=h;let#[u,rfl,g]:=vals1 r;have A:=G7;have B:sizeLine=16777216:=gn;cases x with
 |str y=>
  let#[t,rfl]:=g;obtain⟨m,f⟩:y.length<=sizeLine/\n=y.length:=e;subst f;exact len_str (by lk) #[.int _,H,I.tok _,#[_,rfl],q]
 |byt y=>
  let#[t,rfl]:=g;obtain⟨m,f⟩:y.size<=sizeLine/\n=y.size:=e;subst f;exact PySem.W.len_bytes (by lk) #[.int _,H,I.tok _,#[_,rfl],q]
 | ref p=>
  subst g;have f:(∃c,SqL X.K H p c/\n=c.length)\/∃c,SqT X.K H p c/\n=c.length:=e
  rcases f with⟨c,i,f⟩|⟨c,i,f⟩
  .subst f
   let#[j,k,l,o]:=I.list i;have d:=k.length;exact Calls.call_len_list l.isList (by simp only[fk]; omega) #[.int c.length,H,I.tok _,#[_,by simp only[fk]; rw[d]],q]
  .subst f
   let#[j,k,l,o]:=I.tuple i;have d:=k.length;exact len_tuple l (by simp only[fk]; omega) #[.int c.length,H,I.tok _,#[_,by simp only[fk]; rw[d]],q]
 |_=>exact(show False from e).elim
end
structure ObjM (h:fz) (x dx C:Ch) (mA:Str->Option Db):Prop where
 obj:h.get? x=P3 (PySem.W.instObj C dx)
 ns:h.Ns1 dx mA
 ne:dx≠x
theorem Kp{h:fz}(n:h.Ns1 d f):∃g,h.get? d=P3 g/\∀b,PySem.W.lookIn b g=P3^f b:=by
 let#[o,i,q,j,k,l,_,m]:=n;refine#[o,j,λb=>?_];have e:=m b;unfold nsFind findBy at e;unfold PySem.W.lookIn;rw[k]
 dsimp only
 split
 .simp_all
 .have a:i.toList.any (·.refKey)=q_:=by
   rw[List.any_eq_false];intro y p;let#[z,t,c]:=l y^nJ.mp p;simp[DictEntry.refKey,c]
  grind
theorem ObjM.look(I:ObjM h x c C d):∃b,PySem.W.InstAt h x (PySem.W.instObj C c) C^P3 b/\∀a,PySem.W.lookIn a b=P3^d a:=
 let #[b,e,f]:=Kp I.ns
 #[b,#[I.obj,rfl,rfl,e],f]
def Eh(f:Str)(v:V):r_ (Str×V)->r_ (Str×V)
 |[]=>[(f,v)]
 |(g,x)::r=>if g=f then(g,v)::r else(g,x)::Eh f v r
theorem HR(f g:Str)(v:V):∀c:r_ (Str×V),(Eh f v c).lookup g=if g=f then P3 v else c.lookup g
 |[]=>by
  show jF g [(f,v)]=_
  by_cases h:g=f
  .simp_all
  simp_all
 | (k,x)::r=>by
  have d:=HR f g v r;rw[show Eh f v ((k,x)::r)=(if k=f then(k,v)::r else(k,x)::Eh f v r)from rfl]
  by_cases a:k=f
  .rw[if_pos a]
   by_cases h:g=k
   .simp_all
   .have b:(g==k)=q_:=beq_eq_false_iff_ne.mpr h
    simp only[jF,b,if_neg λe:g=f=>h^e.trans a.symm]
  .rw[if_neg a]
   by_cases h:g=k
   .simp_all
   .have b:(g==k)=q_:=beq_eq_false_iff_ne.mpr h
    simp only[jF,b];exact d
theorem G8(f:Str)(v:V):∀a:r_ (Str×V),f∈(Eh f v a).map (·.1)/\∀g,g∈a.map (·.1)->g∈(Eh f v a).map (·.1)
 |[]=>#[by simp[Eh],λg h=>by simp at h]
 |(k,x)::r=>by
  let#[b,c]:=G8 f v r;rw[show Eh f v _=(if k=f then(k,v)::r else(k,x)::Eh f v r)from rfl]
  grind
theorem HS(f:Str)(v:V):∀a:r_ (Str×V),(Eh f v a).length<=a.length+1
 |[]=>by simp[Eh]
 |(k,x)::r=>by
  have b:=HS f v r;rw[show Eh f v _=(if k=f then(k,v)::r else(k,x)::Eh f v r)from rfl]
  grind
theorem zM.some_of(r:zM (P3 v) o):∃u,o=P3 u/\RelV v u:=by
 cases o with
 |none=>exact(r).elim
 |some u=>exact#[u,rfl,r]
theorem RI(r:RelV v u):PySem.W.handedIn u=p_:=by
 cases v with
 |non=>cases(r); rfl
 |bl b=>cases(r); rfl
 |int i=>let#[t,e]:=(r); subst e; rfl
 |str x=>let#[t,e]:=(r); subst e; rfl
 |byt b=>let#[t,e]:=(r); subst e; rfl
 |flt b=>let#[t,e]:=(r); subst e; rfl
 |ref a=>cases(r); rfl
 |ty n=>cases(r); rfl
section

theorem Vn(c:HOk P w H h)(e:H a=P3^.ins C dx fs):∃b,ObjM h a dx C b/\(∀f,zM (fs.lookup f)^b f)/\PySem.Within b (fs.map (·.1))/\fs.length<=1000/\H dx=P3^.own a:=by
 let#[d,z,g,i,b,n,r,q]:=(c a _ e);exact#[b,#[i,n,g],r,q,z,d]
end
structure Cls (K:Frag) (C:Ch):Prop where
 pg:PySem.W.plainGet K C Str.empty=p_
 hd:PySem.W.hasDictIn K C=p_
 po:PySem.W.plainOver K C=p_
 sa:PySem.W.findIn K (.ref C) "__setattr__"=P3^P3^.builtin "object.__setattr__"
theorem Cls.get{K:Frag}(c:Cls K C)(f:Str):PySem.W.plainGet K C f=p_:=c.pg
def F2(K:Frag)(C:Ch)(f:Str):Prop:=PySem.W.findIn K (.ref C) f=P3 o_
structure fg (K:Frag) (C:Ch) (f:Str) (v:V) (u:Db):Prop where
 at_:PySem.W.findIn K (.ref C) f=P3 (P3 u)
 rel:RelV v u
 get:PySem.W.specialIn K u "__get__"=P3 o_
 cp:PySem.W.copiedNames.contains f=q_
structure fc (K:Frag) (C:Ch) (m:Str) (f:Ch):Prop where
 at_:PySem.W.findIn K (.ref C) m=P3 (P3^.ref f)
 fn:PySem.W.isFn K^.ref f=p_
 kp:keepIn K^.ref f=p_
section

theorem WM(d:attributeBase e f b^eval e b=eval e b)
  (h:wpAny (model a w) A (eval e b) (λo c=>wpAny (model a w) A (getAttr o f p_) Q E c) E s):wpAny (model a w) A (eval (.Attribute e f pos) b) Q E s:=
 Attribute_any_ h (by simp only[arm_eval_Attribute,d])
end
section

inductive FN (K:Frag) (H:Hp):V->Db->Prop where
 |non:FN K H .non^.type "NoneType"
 |bl (x:Bool):FN K H (.bl x)^.type "bool"
 |int (i:Int):FN K H (.int i)^.type "int"
 |str (x:Str):FN K H (.str x)^.type "str"
 |flt (x:UInt64):FN K H (.flt x)^.type "float"
 |lst {a:Ch}{xs:List V} (e:H a=P3^.lst xs):FN K H (.ref a)^.type "list"
 |frz {a:Ch}{o:Obj}{xs:List V} (e:H a=P3^.frz o^.lst xs):FN K H (.ref a)^.type "list"
 |tup {a:Ch}{xs:List V} (e:H a=P3^.tup xs):FN K H (.ref a)^.type "tuple"
 |dF {a:Ch}{o:Obj}{kvs:List (Key×V)} (e:H a=P3^.frz o^.dK kvs):FN K H (.ref a)^.type "dict"
 |dK {a:Ch}{kvs:List (Key×V)} (e:H a=P3^.dK kvs):FN K H (.ref a)^.type "dict"
 |dT {a:Ch}{kvs:List (List Key×V)} (e:H a=P3^.dT kvs):FN K H (.ref a)^.type "dict"
 | ins {a C dx:Ch}{fs:List (Str×V)} (e:H a=P3^.ins C dx fs) (cl:Cls K C) (ha:PySem.W.findIn K (.ref C) "__class__"=P3^P3^.builtin "object.__class__")
   (hn:PySem.W.specialIn K (.builtin "object.__class__") "__get__"=P3^P3^.builtin "getset_descriptor.__get__") (htk:PySem.W.takesIn K^.builtin "object.__class__"=P3 p_)
   (hm:PySem.W.mroIn K C^.type "object"=P3 p_):FN K H (.ref a)^.ref C
theorem RD(I:Inv X zG σ H s)(f:RelV x u)(ty:FN X.K H x t)(e:PySem.W.kitOne X.K t c=P3 b)(h:∀F,Q (.bool b) {s with toks:=F}):
  wpAny (model X.prog X.w) A (call (.builtin "isinstance") [u,c]) Q E s:=by
 cases ty with
 |non=>cases(show u=gO from f); exact PySem.W.kia_one PySem.W.kitx_none I.kIn iQ e (λz=>nomatch z) h
 |bl y=>cases(show u=ke y from f); exact PySem.W.kia_one PySem.W.kitx_bool I.kIn iQ e (λz=>nomatch z) h
 |int i=>let#[t,q]:=(show ∃t,u=nY i t from f); subst q; exact PySem.W.kia_one PySem.W.kitx_int I.kIn iQ e (λz=>nomatch z) h
 |str y=>let#[t,q]:=(show ∃t,u=nZ y t from f); subst q; exact PySem.W.kia_one PySem.W.kitx_str I.kIn iQ e (λz=>nomatch z) h
 |flt y=>let#[t,q]:=(show ∃t,u=Value.float y t from f); subst q; exact PySem.W.kia_one PySem.W.kitx_float I.kIn iQ e (λz=>nomatch z) h
 |@lst a l d=>
  cases(show u=fj a from f);let#[_,_,n,_,g]:=(show qv X.prog X.w H s.heap a^.lst l from I.hok a _ d);exact PySem.W.kia_one PySem.W.kitx_list I.kIn #[_,g,rfl] e (λz=>nomatch z) h
 |@frz a m l d=>
  cases(show u=fj a from f);let#[_,_,_,n,_,g]:=(show qv X.prog X.w H s.heap a^.frz m^.lst l from I.hok a _ d);exact PySem.W.kia_one PySem.W.kitx_list I.kIn #[_,g,rfl] e (λz=>nomatch z) h
 |@tup a l d=>
  cases(show u=fj a from f);let#[_,_,_,p]:=(show qv X.prog X.w H s.heap a^.tup l from I.hok a _ d);let#[o,g,k,_]:=p;exact PySem.W.kia_one PySem.W.kitx_tuple I.kIn #[o,g,k] e (λz=>nomatch z) h
 |@dF a m j d=>
  cases(show u=fj a from f);let#[_,_,_,G,_,p]:=(show qv X.prog X.w H s.heap a^.frz m^.dK j from I.hok a _ d);let#[o,v,B,g,k,_]:=p;exact PySem.W.kia_one PySem.W.kitx_dict I.kIn #[o,g,k.1] e (λz=>nomatch z) h
 |@dK a j d=>
  cases(show u=fj a from f);let#[_,_,G,_,p]:=(show qv X.prog X.w H s.heap a^.dK j from I.hok a _ d);let#[o,v,B,g,k,_]:=p;exact PySem.W.kia_one PySem.W.kitx_dict I.kIn #[o,g,k.1] e (λz=>nomatch z) h
 |@dT a j d=>
  cases(show u=fj a from f);let#[_,_,l,_,o,v,B,g,k,_]:=(show qv X.prog X.w H s.heap a^.dT j from I.hok a _ d);exact PySem.W.kia_one PySem.W.kitx_dict I.kIn #[o,g,k.1] e (λz=>nomatch z) h
 |@ins a C P R d D L M r N=>
  cases(show u=fj a from f);let#[S,O,_]:=Vn I.hok d;let#[T,J,_]:=O.look;exact PySem.W.kia_one (PySem.W.kitx_own (D.get _) D.hd L M r N) I.kIn J e (λz=>nomatch z) h
end
structure qj (k:Nat) (A:gE):Prop where
 hd:A.handled=o_
 dp:A.depth+3*k+5<recursionLimit
 un:A.units+16*k+200<cLine
 gd:A.guards=P3 []
theorem qj.mono(r:qj k A)(h:j<=k):qj j A:=#[r.hd,by have:=r.dp; lk,by have:=r.un; lk,by first|exact r.gd|grind|grind]
theorem qj.deeper(r:qj (k+1) A)(a:Env):qj k^A.deeper a:=
 #[r.hd,by have:=r.dp; show A.depth+1+3*k+5<_; lk,by have:=r.un; show A.units+3+16*k+200<_; lk,by first|exact r.gd|omega|grind]
theorem qj.in1(r:qj (k+1) A):qj k A.in1:=
 #[r.hd,by have:=r.dp; grind,by have:=r.un; grind,by first|exact r.gd|omega|grind]
theorem Od{A:gE}:(A.under^.builtin "type.__call__" #[.ref C::a,b]).depth=A.depth+1:=by
 first|rfl|omega
theorem Oc{A:gE}:(A.under^.builtin "type.__call__" #[.ref C::a,b]).units=A.units+1:=by
 first|rfl|omega
theorem qj.make(r:qj (k+1) A)(C:Ch)(a:r_ Db)(b:r_ (Str×Db)):qj k^A.under^.builtin "type.__call__" #[.ref C::a,b]:=
 #[r.hd,by have:=r.dp; rw[Od]; lk,by have:=r.un; rw[Oc]; lk,by first|exact r.gd|omega|grind]
theorem qj.depth(r:qj k A):A.depth<recursionLimit:=by have:=r.dp; lk
theorem qj.units(r:qj k A):A.units+64<cLine:=by have:=r.un; lk
theorem qj.units0(r:qj k A):A.units<cLine:=by have:=r.un; lk
def U5:TA:=λ_ H Q=>Q [] H
def PQ(b:TE)(c:TA):TA:=λa H Q=>b a H λx d=>c a d λe H2=>Q (x::e) H2
section

theorem B4:PA X [] U5:=λ_ _ _ _ H Q I h=>jW #[[],H,I,.nil,h]
theorem A4(b:PE X e te)(c:PA X es t)(d:starEach (e::es) X.env=(q_,eval e X.env)::starEach es X.env:=by rfl):PA X (e::es)^PQ te t:=by
 intro f p s a H Q I h;rw[d];refine iw^thn (b _ s a H _ I h) λu g zz=>?_;let#[x,i,j,k,l]:=zz;refine thn (c _ _ g a i _ j l) λq r zz=>?_;let#[v,H2,m,n,o]:=zz;exact #[_,H2,m,.cons k n,o]
def dE(t:TA):TE:=λc H Q=>t c H λa b=>a.length<=sizeLine/\∀p,b p=o_->Q (.ref p)^Al b p^.tup a
def dM(t:TA):TE:=λc H Q=>t c H λa b=>a.length<=sizeLine/\∀p,b p=o_->Q (.ref p)^Al b p^.lst a
theorem OO{x1}(h:PA X es t):PE X (.Tuple es x1 pos)^dE t:=by
 intro f s g H Q I i;refine wpAny_Tuple_spliced^thn (h pos f s g H _ I i) λj a zz=>?_;let#[k,c,d,r,z,q]:=zz;refine #[by rw[←r.length]; exact z,?_];have l:c a.heap.objs.size=o_:=d.hok.fresh^On _;refine#[.ref a.heap.objs.size,Al c a.heap.objs.size^.tup k,d.laid (t':=a.toks) (λb u e=>Ev _ e) (On _) ?_,rfl,q _ l];exact#[z,j,r,qR.new _ _]
theorem OP(h:PA X es t):PE X (.List es pos)^dM t:=by
 intro f s g H Q I i;refine wpAny_List_spliced^thn (h pos f s g H _ I i) λj a zz=>?_;let#[k,c,d,r,z,q]:=zz;refine #[by rw[←r.length]; exact z,?_];have l:c a.heap.objs.size=o_:=d.hok.fresh^On _;refine#[.ref a.heap.objs.size,Al c a.heap.objs.size^.lst k,d.laid (t':=a.toks) (λb u e=>Ev _ e) (On _) ?_,rfl,q _ l];exact#[z,j,0,r,UF _ rfl]
end
abbrev Sp:=r_ V->Hp->VK->XK->Prop
abbrev Rp:=r_ Env->Hp->Go->XK->Db->Go->Prop
structure vG (P:f7) (w:gB) (K:Frag) (mg:Str->Option Db) (base:fz) (A:gE) (outer:List Env) (s:Go) (H:Hp):Prop where
 frames:A.frames=P3 outer
 mod:Mod K mg base
 bs:∀b o,base.get? b=P3 o->s.heap.get? b=P3 o/\H b=o_
 bsz:base.objs.size<=s.heap.objs.size
 vZ:s.heap.FunFrames base outer
 frf:∀b∈Kz outer,H b=o_
 hok:HOk P w H s.heap
 bare:j8 s.gens
def CE(a:r_ Env)(P:f7)(w:gB)(H:Hp)(s:Go)(Q:VK)(u:Db)(b:Go):Prop:=
 ∃v c,b.os=s.os/\j8 b.gens/\Un (Kz a) [] H c s.heap b.heap/\HOk P w c b.heap/\RelV v u/\Q v c
def CR(c:Rp)(a:r_ Env)(P:f7)(w:gB)(H:Hp)(s:Go)(Q:VK)(E:XK)(r:Result)(b:Go):Prop:=
 match r with
 |.ok (.ret u)=>CE a P w H s Q u b
 |.ok _=>False
 |.error e=>c a H s E e b
structure qV (P:f7) (w:gB) (K:Frag) (mg:Str->Option Db) (base:fz) (CX:Rp) (k:Nat) (f:Ch) (fd:gX) (ps:List Str) (sp:Sp):Prop where
 len:∀vs H Q E,sp vs H Q E->vs.length=ps.length
 run:∀(A:gE) (outer:List Env) (s:Go) (H:Hp) (args:Args) (us:List Db) (vs:List V) (Q:VK) (E:XK),qj k A->vG P w K mg base A outer s H->lc s fd args^ps.zip us->qQ vs us->sp vs H Q E->
  codeAny (model P w) A (.call (.ref f) args) (CR CX outer P w H s Q E) s
theorem qV.imp{K:Frag}(F:qV P w K e a g k f fd i j)
  (h:∀b H Q E,c b H Q E->j b H Q E):qV P w K e a g k f fd i c:=
 #[λb H Q E q=>F.len b H Q E^h _ _ _ _ q,λA d s H l m b Q E n o p r t=>F.run A _ s H _ m b Q E n o p r^h _ _ _ _ t]
theorem vG.make{K:Frag}(e:vG P w K c b A a s H)(C:Ch)(d:r_ Db)(f:r_ (Str×Db)):
  vG P w K c b (A.under^.builtin "type.__call__" #[.ref C::d,f]) a s H:=#[by first|exact e.frames|grind,e.mod,e.bs,e.bsz,e.vZ,e.frf,e.hok,e.bare]
theorem vG.in1{K:Frag}(e:vG P w K c b A a s H):
  vG P w K c b A.in1 a s H:=#[e.frames,e.mod,e.bs,e.bsz,e.vZ,e.frf,e.hok,e.bare]
section

theorem Inv.env0(I:Inv X zG σ H s):vG X.prog X.w X.K X.mg X.base X.A X.stack s H:=
 #[I.ok.frames,I.ok.mod,I.bs,f_ I.ok.bsz I.sz,I.stack,I.vP,I.hok,I.bare]
theorem Inv.after(I:Inv X zG σ H s)(h:CE X.stack X.prog X.w H s Q u s'):EP X zG σ Q u s':=by
 let#[v,f,i,a,j,c,r,q]:=h;let#[k,g,d,t,e]:=s';obtain rfl:e=s.os:=i;exact#[v,f,I.call j c a λb z=>absurd z^by simp,r,q]
end
def SV(b:Sp)(a:r_ V)(E:XK)(t:TA):TE:=λc H Q=>t c H λd e=>b (d++a) e Q E
def Binds(K:Frag)(fd:gX)(b:r_ Str)(c:r_ Db):Prop:=
 ∀(s:Go) (a:r_ Db),K.In s.heap->(a++c).length=b.length->lc s fd #[a,[]]^b.zip (a++c)
theorem Binds.all{K:Frag}(h:∀a:r_ Db,a.length=b.length->bindArgs fd #[a,[]]=pure^b.zip a):Binds K fd b []:=λs a _ c=>by
 rw[gM]at c ⊢;exact .of_eq^h a c
def HG(b:Rp)(X:Cx)(E:XK):Prop:=∀(c:r_ (Ch×Obj)) (d:St) (H:Hp) (s:Go) (e:Db) (a:Go),Inv X c d H s->b X.stack H s E e a->X.xe e a
section

theorem YD(F:qV X.prog X.w X.K X.mg X.base CX k f fd ps sp)(j:qj k X.A)(l:Binds X.K fd ps ds)(hd:qQ dvs ds)(hx:HG CX X E)
  (I:Inv X d g H s) (r:qQ c a) (h:sp (c++dvs) H Q E):wpAny (model X.prog X.w) X.A (call (.ref f) a) (EP X d g Q) X.xe s:=by
 have i:qQ (c++dvs) (a++ds):=r.append hd;have m:(a++ds).length=ps.length:=by rw[←i.length]; exact F.len _ _ _ _ h
 refine i8^jj (F.run X.A X.stack s H #[a,[]] (a++ds) (c++dvs) Q E j I.env0 (l s a I.kIn m) i h) λr n b=>?_;cases r with
 |error e=>exact hx d g H s e n I b
 |ok o=>
  cases o with
  |ret u=>exact I.after b
  |next=>exact gh b
  |brk=>exact gh b
  |cont=>exact gh b
theorem Pj(F:qV X.prog X.w X.K X.mg X.base CX k f fd ps sp)(d:qj k X.A)(g:Gl X x)(i:X.mg x=P3^.ref f)(j:keepIn X.K^.ref f=p_)(l:Binds X.K fd ps ds)(hd:qQ dvs ds)(hx:HG CX X E)
  (m:PA X (e::es) t) (a:(x==("__debug__":Str))=q_:=by decide) (n:starEach (e::es) X.env=(q_,eval e X.env)::starEach es X.env:=by rfl) (b:(backTo pos^starEach es X.env).any (·.1)=q_:=by rfl):
  PE X (.Call (.Name x p) (e::es) [] pos) (SV sp dvs E t):=λu s o H Q I h=>hU^Dy I g i (PySem.W.callWith_K I.ok.mod.kin j (thn (m _ _ s o H _ I h) λv y #[z,B,c,r,q]=>#[c.kIn,YD F d l hd hx c r q]) n b) a
structure Mk (K:Frag) (C f:Ch):Prop where
 makes:PySem.W.makesIn K C=p_
 init:PySem.W.findIn K (.ref C) "__init__"=P3 (P3^.ref f)
 fn:PySem.W.isFn K^.ref f=p_
 kp:keepIn K^.ref C=p_
end
section

structure eZ (K:Frag) (fd:gX) (ps ks:List Str) (g:List Db->List Db->List Db) (gV:List V->List V->List V):Prop where
 to:∀(s:Go) (us ws:List Db),K.In s.heap->(g us ws).length=ps.length->lc s fd #[us,ks.zip ws] (ps.zip^g us ws)
 rel:∀{vs:List V}{us:List Db}{zs:List V}{ws:List Db},qQ vs us->qQ zs ws->qQ (gV vs zs)^g us ws
end
structure BJ (N P:List Str) (sc:i6):Prop where
 kind:sc.kind=.function
 co:sc.isCoroutine=q_
 gen:sc.isGenerator=q_
 nd:N.Nodup
 pre:N.take P.length=P
 par:∀x∈P,sc.names.lookup x=P3 .local\/sc.names.lookup x=P3 .cell
 nofree:∀y∈sc.names,y.2≠.free
theorem LA:∀{binds:r_ (Str×Db)}{m:Str->s_ Db},(∀v,(x,v)∉binds)->bindL a binds m x=m x
 |[],_,_=>rfl
 |(n,v)::r,m,h=>by
  unfold bindL;rw[LA λw b=>h w^TM _ b]
  split
  .grind
  .rfl
theorem LC:∀{binds:r_ (Str×Db)}{m:Str->s_ Db},(∀v,(x,v)∉binds)->bindC a binds m x=m x
 |[],_,_=>rfl
 |(n,v)::r,m,h=>by
  unfold bindC;rw[LC λw b=>h w^TM _ b]
  split
  .rfl
  grind
theorem LB:∀{P:r_ Str}{b:r_ Db}{i:Nat}{m:Str->s_ Db},P.Nodup->P[i]?=P3 x->b[i]?=P3 v->a x=P3 .local->
  bindL a (P.zip b) m x=P3 v
 |[],_,_,_,_,h,_,_=>by simp at h
 |_::_,[],_,_,_,_,h,_=>by simp at h
 |p::P,w::b,0,m,c,d,e,f=>by
  simp at d e; subst d; subst e
  show bindL a ((p,w)::P.zip b) m p=_;unfold bindL;rw[LA λv g=>(gF.mp c).1 (kT g).1,if_pos f];simp
 |p::P,w::b,i+1,m,c,d,e,f=>by
  unfold bindL;exact LB (i:=i) (gF.mp c).2 (by simp_all) (by simp_all) f
theorem LD:∀{P:r_ Str}{b:r_ Db}{i:Nat}{m:Str->s_ Db},P.Nodup->P[i]?=P3 x->b[i]?=P3 v->a x≠P3 .local->
  bindC a (P.zip b) m x=P3 v
 |[],_,_,_,_,h,_,_=>by simp at h
 |_::_,[],_,_,_,_,h,_=>by simp at h
 |p::P,w::b,0,m,c,d,e,f=>by
  simp at d e; subst d; subst e
  show bindC a ((p,w)::P.zip b) m p=_;unfold bindC;rw[LC λv g=>(gF.mp c).1 (kT g).1,if_neg f];simp
 |p::P,w::b,i+1,m,c,d,e,f=>by
  unfold bindC;exact LD (i:=i) (gF.mp c).2 (by simp_all) (by simp_all) f
def start(N:r_ Str)(a:r_ V):St:=a.map P3++fq (N.length - a.length) o_
def Dh(i:Rp)(P:f7)(w:gB)(K:Frag)(mg:Str->s_ Db)(base:fz)(N:r_ Str)(c:Str)(a:i6)(f:Ch)(h:Db)(A:gE)(outer:r_ Env)(s:Go)(H:Hp)(E:XK):Cx where
 prog:=P
 w:=w
 K:=K
 mg:=mg
 base:=base
 A:=A.deeper (envOfC c a s.heap.objs.size f h)
 N:=N
 s₀:=s
 H₀:=H
 env:=envOfC c a s.heap.objs.size f h
 outer:=outer
 stack:=envOfC c a s.heap.objs.size f h::outer
 ex:=[]
 calm:=p_
 fn:=λ_=>p_
 pn:=[]
 xe:=λe k=>wpAny (model P w) (A.deeper^envOfC c a s.heap.objs.size f h) (leaving (envOfC c a s.heap.objs.size f h) e) (λ_ g=>i outer H s E e g) (λl g=>i outer H s E l g) k
theorem Nk{a:i6}(h:a.names.lookup x=P3 .cell):∃c,(cellsFrom n a.names []).lookup x=P3 c:=by
 have q:=PySem.W.cellsFrom_some a.names n []^.inl h;exact Option.isSome_iff_exists.mp q
theorem Kw{K:Frag}
  (S:BJ N t d) (hd:A.handled=o_) (o:vG P w K M m A g s H) (Z:B.length=t.length) (r:qQ B O)
  (x:InCallC s s.heap.objs.size (bindL (envOfC j d s.heap.objs.size f I).kindOf (t.zip O) λ_=>o_) (cellsFrom (s.heap.objs.size+1) d.names []) (bindC (envOfC j d s.heap.objs.size f I).kindOf (t.zip O) λ_=>o_) R):
  Inv (Dh Q P w K M m N j d f I A g s H E) [] (start N B) H R:=by
 have W:t.length<=N.length:=by have:=congrArg jG S.pre; rw[ie]at this; lk
 let#[J,tk,rfl,T]:=x.done;have C:∀b:Ch,b∉(Dh Q P w K M m N j d f I A g s H E).ex:=λb z=>absurd (show b∈([]:r_ Ch)from z)^by simp
 exists#[o.mod,S.kind,rfl,rfl,On _,λy z c J l=>?_,λy D=>?_,λy c _ h=>?_,λ_=>hd,nL o.frames,.inr #[rfl,rfl],λb z=>absurd z^C b,o.bs,o.bsz,λb _ _=>C b,λb z=>absurd z^C b,o.vZ,o.frf],
  rfl,o.bare,Un.kept T,#[_,x.toInCall.ns,λi y v J l h3=>?_],λy c h=>#[_,x.cell y c h],o.hok.fresh^On _,λy c h=>?_,λp F=>absurd (show p∈([]:r_ (Ch×Obj))from F)^by simp,o.hok.kept T
 .exact name_of_addr x.apart (PySem.mem_of_lookup J)^PySem.mem_of_lookup l
 .have D:d.names.lookup y=P3 .cell\/d.names.lookup y=P3 .free:=D
  rcases D with D|D
  .exact Nk D
  .exact absurd rfl (S.nofree _^PySem.mem_of_lookup D)
 .exact lH^x.above y c^PySem.mem_of_lookup h
 .have L:i<B.length:=by
   unfold start at l
   by_cases L:i<B.length
   .exact L
   .rw[iD^by simpa using L]at l
    rw[kj]at l
    split at l <;>cases l
  have X:B[i]?=P3 v:=by
   unfold start at l;rw[jY (by simpa using L),fo]at l;cases e:B[i]? with
   |none=>rw[e]at l; cases l
   |some a=>rw[e]at l; cases l; rfl
  let#[u,U,Y]:=r.get X
  have F:t[i]?=P3 y:=by
   rw[←S.pre,List.getElem?_take_of_lt^by lk]; exact J
  have G:t.Nodup:=by rw[←S.pre]; exact S.nd.sublist^mL _ _
  exists u,Y
  rcases S.par y^gZ F with k|k
  .exact .inl #[k,LB G F U k]
  .let#[c,e]:=Nk (n:=s.heap.objs.size+1) k
   refine .inr #[.inl k,c,e,?_];have q:=x.cell y c e;rw[LD G F U^by show d.names.lookup y≠_; rw[k]; decide]at q;exact q
 .exact o.hok.fresh^lH^x.above y c^PySem.mem_of_lookup h
 .unfold start
  show _=N.length;simp only[fh,No,iz];lk
theorem XI{K:Frag}{dV kV C pm g ct oc:Db}
   (lk:K.lookup f=P3 #[oc,od,.func^fnOf name d i j a dV kV C pm an g ct,T]) (X:codeIn K g d=p_) (S:BJ N O a)
  (len:∀l H Q E,U l H Q E->l.length=O.length)
  (p:∀(A:gE) (c:r_ Env) (s:Go) (H:Hp) (l:r_ V) (Q:VK) (E:XK),qj k^A.deeper^envOfC d a s.heap.objs.size f g->U l H Q E->
   ∃t,PSs (Dh L P w K M h N d a f g A c s H E) j t/\t {nx:=λ_ m=>Q .non m,rt:=Q} (start N l) H):
  qV P w K M h L (k+1) f (fnOf name d i j a dV kV C pm an g ct) O U:=by
 refine#[len,λA c s H a0 us l Q E Y D hb r F=>?_];have hl:=len _ _ _ _ F;have KX:K.In s.heap:=D.mod.kin.keeps λb o e=>(D.bs b o e).1;have Z:s.heap.NoLimit:=D.mod.nolimit.keeps λb o e=>(D.bs b o e).1
 have z:∀y∈O.zip us,a.names.lookup y.1=P3 .local\/(a.names.lookup y.1=P3 .cell/\((cellsFrom (s.heap.objs.size+1) a.names []).lookup y.1).isSome=p_):=fun#[n,v] hy=>by
  rcases S.par n (kT hy).1 with q|q
  .exact .inl q
  .exact .inr #[q,PySem.W.cellsFrom_some _ _ _^.inl q]
 refine codeAny_call_function Y.depth (KX _ _ lk) rfl S.co S.gen rfl (PySem.W.codeRec_of KX X) (hb _ _ _ _ ?_);refine mC S.kind z λa1 he s1 x=>?_;subst he;refine#[Z.keeps x.toInCall.keep,codeAny_func ?_];let#[t,ht,hq]:=p A c s H l Q E (Y.deeper _) F;have I:Inv (Dh L P w K M h N d a f g A c s H E) [] (start N l) H s1:=Kw S Y.hd D hl r x;refine gQ (ht [] s1 (start N l) H _ I hq) (λfl s' B=>?_) λe s' B=>B
 have G:∀{R:St}{m:Hp}{v:V}{u:Db},Inv (Dh L P w K M h N d a f g A c s H E) [] R m s'->RelV v u->Q v m->CE c P w H s Q u s':=
  λ{R m v u} J rv q=>#[v,m,J.os,J.bare,J.base,J.hok,rv,q]
 cases fl with
 |ret u=>
  let#[v,R,m,J,rv,q]:=B;exact G J rv q
 |next=>
  let#[R,m,J,q]:=B;exact G (v:=V.non) (u:=gO) J rfl q
 |brk=>
  let#[_,_,_,q]:=B;exact gh q
 |cont=>
  let#[_,_,_,q]:=B;exact gh q
section
variable {id T:String}
def cj(r:r_ V->Hp->VK->Prop)(t:TA):TE:=λa H Q=>t a H λb c=>r b c Q
theorem C4(d:CL X (.builtin id) r)(f:Gl X x)(g:X.mg x=o_)(i:bootBuiltins x=P3^.builtin id)(j:PA X (e::es) t)(k:x ≠ "__name__":=by decide)(a:(x==("__debug__":Str))=q_:=by decide)
  (l:starEach (e::es) X.env=(q_,eval e X.env)::starEach es X.env:=by rfl) (b:(backTo pos^starEach es X.env).any (·.1)=q_:=by rfl):PE X (.Call (.Name x p) (e::es) [] pos)^cj r t:=λy s c H Q I h=>hU^D6 I f g i (PyProof.Rows.callWith_builtin1 (thn (j _ _ s c H _ I h) λm n #[o,q,u,v,w]=>d _ n c q o m Q u v w) l b) k a
theorem Ki(d:CL X (.type T) r)(f:Gl X x)(g:X.mg x=o_)(i:bootBuiltins x=P3^.type T)(j:PA X (e::es) t)(k:x ≠ "__name__":=by decide)(a:(x==("__debug__":Str))=q_:=by decide)
  (l:starEach (e::es) X.env=(q_,eval e X.env)::starEach es X.env:=by rfl) (b:(backTo pos^starEach es X.env).any (·.1)=q_:=by rfl):PE X (.Call (.Name x p) (e::es) [] pos)^cj r t:=λy s c H Q I h=>hU^D6 I f g i (h_ (thn (j _ _ s c H _ I h) λm n #[o,q,u,v,w]=>d _ n c q o m Q u v w) l b) k a
end
end L2
namespace HT
section

theorem cat_tup(u:IsTup s.heap t d.toArray)(v:IsTup s.heap b c.toArray)(z:d≠[])
  (x:c=[]->Q (.ref t) s) (B:c≠[]->Q (.ref s.heap.objs.size) {s with heap:=s.heap.push {cls:=.type "tuple",data:=.seq (d++c).toArray}})
  (y:d.length+c.length<=sizeLine):wpAny (model prog w) A (binaryOp .Add (.ref t)^.ref b) Q E s:=by
 let#[#[cls,k,data,l],i,m,n,o]:=id u;let#[#[p,e,j,f],a,g,q,h]:=id v;simp only at m o g h;subst m o g h
 by_cases r:c=[]
 .exact concat_meets #[_,i,rfl] #[_,a,rfl] md seq_tuple_add PySem.F.slot_tuple_add PySem.F.entry_tuple_add (PySem.F.args_tuple_add_2 _ _)
   (tuple_addW1 t b d.toArray c.toArray n q k e l f (by simp_all)^by simp[r]) #[i,a,x r]
 .refine concat_meets #[_,i,rfl] #[_,a,rfl] md seq_tuple_add PySem.F.slot_tuple_add PySem.F.entry_tuple_add (PySem.F.args_tuple_add_2 _ _)
   (tuple_addW2 t b d.toArray c.toArray n q k e l f (by simp_all) (by grind)^by lk) #[i,a,?_]
  simp_all
def sIx(n d:Nat):s_ Int->Nat
 |none=>d
 |some v=>if v<0 then(v+(n:Int)).toNat else min v.toNat n
theorem zh(n d:Nat):sIx n d o_=d:=rfl
theorem qL(n d k:Nat):sIx n d^P3 (k:Int)=min k n:=by
 show(if k<0 then((k:Int)+n).toNat else min _ n)=min k n;rw[if_neg^by lk,jX]
theorem YC(n d:Nat)(hd:d<=n)(o:s_ Int):sIx n d o<=n:=by
 cases o with
 |none=>exact hd
 |some v=>
  show(if v<0 then(v+n).toNat else min _ n)<=n
  lia
theorem QA(v:Int)(n d:Nat):(if v<0 then max (v+(n:Int)) 0 else min v (n:Int))=((sIx n d^P3 v:Nat):Int):=by
 show(if v<0 then max _ 0 else min v _)=(if v<0 then(v+n).toNat else min _ n)
 grind
theorem O6(a b:s_ Int)(n:Nat):jZ a b 1 (n:Int)=(((sIx n 0 a:Nat):Int),((sIx n n b:Nat):Int)):=by
 refine Prod.ext ?_ ?_
 .cases a with
  |none=>rfl
  |some v=>exact QA v n 0
 .cases b with
  |none=>rfl
  |some v=>exact QA v n n
theorem OL(i j:Nat):iX (i:Int) (j:Int) 1=j - i:=by
 unfold iX
 lia
theorem vq(p:lJ v o)(h:Q o s):wpAny (model prog w) A (Builtin.Slice.slicePartIndex v) Q E s:=by
 cases p with
 |none=>exact slicePart_none h
 |int i t=>exact slicePart_int h
theorem qC{a d:s_ Int}{Q:Int×Int×Nat->Go->Prop}(i:s.heap.IsSliceOf g e f .none)(j:lJ e a)(k:lJ f d)
  (h:Q (((sIx n 0 a:Nat):Int),1,sIx n n d - sIx n 0 a) s):wpAny (model prog w) A (mE (.ref g)^pure (n:Int)) Q E s:=by
 let#[m,b,l,c]:=id i;refine Cn^Cn (gp b c (x:=e) rfl (Cn (gp b c (x:=f) rfl (Cn (gp b c (x:=.none) rfl (Sc ?_))))));refine Cn^slicePart_none ?_;refine Cn^vq j^Cn^vq k^Cn^Sc ?_;show wpAny _ _ (match jZ a d 1 (n:Int)with|(a,d)=>pure (a,(1:Int),iX a d 1)) _ _ s;rw[O6 a d n];show wpAny _ _ (pure _) _ _ s;rw[OL];exact Sc h
theorem S3(a:Array Db)(i k:Nat):((gG k).filterMap fun(m:Nat)=>a[((i:Int)+(m:Int)*1).toNat]?).toArray=((a.toList.drop i).take k).toArray:=by
 have e:(fun(m:Nat)=>a[((i:Int)+(m:Int)*1).toNat]?)=λm=>a[i+m]?:=by
  grind
 rw[e]
 have:=pick_run a i k
 simp only[lq]at this;have b:((λx=>a[x]?)∘λx=>i+x)=λm=>a[i+m]?:=rfl
 simp_all
theorem getItem_tuple_cut{c d:s_ Int}(f:IsTup s.heap t a)(p:s.heap.IsSliceOf g n o .none)(q:lJ n c)(r:lJ o d)
  (y:¬(sIx a.size 0 c=0/\sIx a.size a.size d=a.size))
  (h:Q (.ref s.heap.objs.size) {s with heap:=s.heap.push {cls:=.type "tuple",data:=.seq ((a.toList.drop^sIx a.size 0 c).take (sIx a.size a.size d - sIx a.size 0 c)).toArray}})
  (u:a.size<=sizeLine):wpAny (model prog w) A (getItem (.ref t)^.ref g) Q E s:=by
 have e:sizeOk^.seq ((a.toList.drop^sIx a.size 0 c).take (sIx a.size a.size d - sIx a.size 0 c)).toArray:=by
  show((a.toList.drop^sIx a.size 0 c).take (sIx a.size a.size d - sIx a.size 0 c)).toArray.size<=sizeLine;simp only[fk,ie,kF,iW];omega
 have z:sIx a.size a.size d<=a.size:=YC _ _ (On _) d;let#[v,i,j,x]:=id p;have k:s.TypeIs (.ref g) "slice":=#[v,i,j];unfold getItem
 try with_reducible refine gU ?_
 first|refine Cn^Sc ?_|skip
 refine Cn^mM f.typeIs (by cbv) ?_
 refine Cn (iP (name:=gu "__getitem__") f.typeIs gP
  (jD gP f.typeIs lZ ?_^lr _ _))
 show wpAny _ _ (kN^.ref t >>=_) _ _ s;refine Cn^tupleItemsOf_ f ?_;refine Cn^jI k ?_;rw[if_pos^by cbv];refine Cn^qC p q r ?_
 have l:¬((((sIx a.size 0 c:Nat):Int)==0&&(1:Int)==1&&(sIx a.size a.size d - sIx a.size 0 c)==a.size)=p_):=by
  simp_all
 show wpAny _ _ (if(((sIx a.size 0 c:Nat):Int)==0&&(1:Int)==1&&(sIx a.size a.size d - sIx a.size 0 c)==a.size)=p_ then _ else _) _ _ s;rw[if_neg l,S3]
 first
  |exact Cn (m:=i9 _)^iA (Sc #[_,rfl,Sc h]) e
  |grind
  |grind
  |grind
end
end HT
namespace L2
abbrev TO:=St->Hp->(s_ Int->Hp->Prop)->Prop
def PO(X:Cx)(e:s_ gA)(t:TO):Prop:=
 ∀(b:r_ (Ch×Obj)) (s:Go) (a:St) (H:Hp) (Q:s_ Int->Hp->Prop),Inv X b a H s->t a H Q->
  wpAny (model X.prog X.w) X.A (evalPart e X.env) (λu d=>∃o c,Inv X b a c d/\lJ u o/\Q o c) X.xe s
def U4:TO:=λ_ H Q=>Q o_ H
def aH(t:TE):TO:=λa H Q=>t a H λx b=>∃i,x=.int i/\Q (P3 i) b
section
variable {lo hi:s_ Expr}
theorem Pe:PO X o_ U4:=λa s b H Q I h=>Sc #[_,H,I,.none,h]
theorem Pc(h:PE X e te):PO X (P3 e)^aH te:=by
 intro j s a H Q I b;refine thn (h _ s a H _ I b) λu k zz=>?_;let#[x,c,d,f,g]:=zz;let#[i,rfl,q]:=g;let#[t,rfl]:=f;exact#[_,c,d,.int i t,q]
def SlR(X:Cx)(r:V->s_ Int->s_ Int->Hp->VK->Prop):Prop:=
 ∀(a:r_ (Ch×Obj)) (s:Go) (b:St) (H:Hp) (x:V) (v c d:Db) (lo hi:s_ Int) (e:Ch) (Q:VK),Inv X a b H s->RelV x v->s.heap.IsSliceOf e c d .none->lJ c lo->lJ d hi->r x lo hi H Q->
  ∃T f,typeLookup (.type T) "__getitem__"=pure^P3^.builtin f/\s.TypeIs v T/\wpAny (model X.prog X.w) X.A (getItem v^.ref e) (EP X a b Q) X.xe s
theorem SlR.or(h:SlR X r)(k:SlR X a):SlR X (λx lo hi H Q=>r x lo hi H Q\/a x lo hi H Q):=by
 intro l s b H x v c d lo hi e Q I f g i j q
 rcases q with q|q
 .exact h _ s b H x v c d lo hi e Q I f g i j q
 .exact k _ s b H x v c d lo hi e Q I f g i j q
def fP(r:V->s_ Int->s_ Int->Hp->VK->Prop)(te:TE)(tl th:TO):TE:=λa H Q=>te a H λx b=>tl a b λl H2=>th a H2 λu c=>r x l u c Q
theorem Mt(j:SlR X r)(k:PE X e te)(m:PO X lo tl)(n:PO X hi th):PE X (.Subscript e (.Slice lo hi o_ p2) pos)^fP r te tl th:=by
 intro c s d H Q I h;refine Subscript_^thn (k c s d H _ I h) λv o zz=>?_;let#[x,p,t,y,z]:=zz;refine wpAny_Slice^thn (m c o d p _ t z) λf B zz=>?_;let#[l,H2,C,D,E]:=zz;refine thn (n c B d H2 _ C E) λg a zz=>?_;let#[u,i,F,G,J]:=zz;simp only[evalPart_none];refine Sc ?_;have K:Inv X c d i {a with heap:=a.heap.push {cls:=.type "slice",data:=.fields #[ f,g,.none]}}:=F.kept (t':=a.toks) λb O q=>Ev _ q;let#[T,P,L,M,N]:=j c {a with heap:=a.heap.push {cls:=.type "slice",data:=.fields #[ f,g,.none]}} d i x v f g l u a.heap.objs.size Q K y (ni ..) D G J;show wpAny (model X.prog X.w) X.A (subscriptTail e (.Slice lo hi o_ p2) v^.ref a.heap.objs.size) (EP X c d Q) X.xe {a with heap:=a.heap.push {cls:=.type "slice",data:=.fields #[ f,g,.none]}};exact tail_any (ops:=[.ref a.heap.objs.size,v]) M L N^by with_unfolding_all rfl
def Nd(a:r_ V)(lo hi:s_ Int):r_ V:=(a.drop^HT.sIx a.length 0 lo).take (HT.sIx a.length a.length hi - HT.sIx a.length 0 lo)
theorem He(a:r_ V)(lo hi:s_ Int):(Nd a lo hi).length<=a.length:=by
 unfold Nd
 grind
def aV(K:Frag):V->s_ Int->s_ Int->Hp->VK->Prop:=λx lo hi H Q=>∃a b,x=.ref a/\SqT K H a b /\
 ¬(HT.sIx b.length 0 lo=0/\HT.sIx b.length b.length hi=b.length)/\∀p,H p=o_->Q (.ref p)^Al H p^.tup^Nd b lo hi
theorem sl_tup:SlR X^aV X.K:=by
 intro n s o H x v p t lo hi u Q I g i j k h;let#[a,e,rfl,l,w,q]:=h;subst g;let#[d,r,f,m]:=I.tuple l;have c:d.toArray.size=e.length:=by exact r.length.symm
 exists _,_,gP.lookup,f.typeIs;refine HT.getItem_tuple_cut f i j k (by simp_all) ?_ (by simp_all);rw[c];refine#[.ref _,_,I.laid (λb y q=>Ev _ q) (On _) ?_,rfl,q _^I.hok.fresh^On _];exact#[f_ (He e lo hi) m,_,(r.drop _).take _,qR.new _ _]
def Sr(K:Frag):R2:=λx y H Q=>∃a b d c,x=.ref a/\y=.ref b/\SqT K H a d/\SqT K H b c/\d≠[]/\d.length+c.length<=sizeLine /\
 (c=[]->Q (.ref a) H)/\(c≠[]->∀p,H p=o_->Q (.ref p)^Al H p^.tup (d++c))
theorem qQ.vS(r:qQ a b):b=[]↔a=[]:=by
 cases r with
 |nil=>simp
 |cons _ _=>simp
theorem op_catT:OpR X (binaryOp .Add)^Sr X.K:=by
 intro r s t H x y v u Q I f g h;let#[a,b,A,B,rfl,rfl,i,j,k,l,m,n]:=h;subst f;subst g;let#[o,d,p,_]:=I.tuple i;let#[e,c,p2,_]:=I.tuple j;refine HT.cat_tup p p2 (λz=>k^d.vS.mp z) (λz=>#[.ref a,H,I,rfl,m^c.vS.mp z]) (λz=>?_) (by simp only[←d.length,←c.length]; exact l);refine#[.ref _,_,I.laid (λb C q=>Ev _ q) (On _) ?_,rfl,n (λw=>z^c.vS.mpr w) _^I.hok.fresh^On _];exact#[by simp_all,_,d.append c,qR.new _ _]
end
def Uq(n:Nat)(i:Int):s_ Nat:=if 0<=i then(if i<n then P3 i.toNat else o_)else if -(n:Int)<=i then P3 (i+n).toNat else o_
def atI{a:Type}(b:r_ a)(i:Int):s_ a:=(Uq b.length i).bind λj=>b[j]?
theorem Pt(h:Uq n i=P3 j):seqIndex? i n=P3 j/\j<n/\-(n:Int)<=i/\i<n:=by
 unfold Uq at h
 by_cases b:0<=i
 .rw[if_pos b]at h
  by_cases a:i<n
  .rw[if_pos a]at h
   have e:i.toNat=j:=fu h;exact#[by rw[seqIndex_of b a,e],by lk,by lk,a]
  simp_all
 .rw[if_neg b]at h
  by_cases a:-(n:Int)<=i
  .rw[if_pos a]at h
   have e:(i+n).toNat=j:=fu h;exact#[by rw[seqIndex_neg (by lk) a,e],by lk,a,by lk]
  simp_all
theorem MK(h:atI a i=P3 v):∃j,seqIndex? i a.length=P3 j/\a[j]?=P3 v/\j<a.length/\-(a.length:Int)<=i/\i<a.length:=by
 unfold atI at h;cases e:Uq a.length i with
 |none=>simp_all
 |some j=>
  let#[c,d,f,g]:=Pt e
  simp_all
theorem AD{j:Nat}(h:a[j]?=P3 v):atI a (j:Int)=P3 v:=by
 have c:=(XV.mp h).1
 have e:Uq a.length j=P3 j:=by
  unfold Uq
  simp_all
 unfold atI; simp_all
theorem UV(a:r_ b)(v:b):atI (a++[v]) (-1)=P3 v:=by
 have e:Uq (a++[v]).length (-1)=P3 a.length:=by
  unfold Uq
  grind
 unfold atI
 simp_all
def MT(b:gA):Prop:=∀o i,subscripted b q_ o i=operate [o,i]^getItem o i
def IxR(X:Cx)(r:R2):Prop:=
 ∀(value a:gA) (b:r_ (Ch×Obj)) (s:Go) (c:St) (H:Hp) (x y:V) (v u:Db) (Q:VK),Inv X b c H s->RelV x v->RelV y u->r x y H Q->
  subscripted a q_ v u=operate [v,u]^getItem v u->wpAny (model X.prog X.w) X.A (subscriptTail value a v u) (EP X b c Q) X.xe s
def Zk(X:Cx)(e:String)(r:V->r_ V->Hp->VK->Prop):Prop:=
 ∀(a:r_ (Ch×Obj)) (s:Go) (b:St) (H:Hp) (x:V) (c:r_ V) (v:Db) (d:r_ Db) (Q:VK),Inv X a b H s->RelV x v->qQ c d->r x c H Q->
  wpAny (model X.prog X.w) X.A (call (.builtin e) (v::d)) (EP X a b Q) X.xe s
section

theorem IxR.or(h:IxR X r)(j:IxR X d):IxR X (λx y H Q=>r x y H Q\/d x y H Q):=by
 intro value c k s e H x y v u Q I f g q i
 rcases q with q|q
 .exact h _ _ _ s e H x y v u Q I f g q i
 .exact j _ _ _ s e H x y v u Q I f g q i
theorem EZ(c:IxR X r)(d:PE X a ta)(e:PE X b tb)(f:MT b):PE X (.Subscript a b pos)^EC r ta tb:=λm s g H Q I h=>Subscript_^ZN d e I h λv u i x y H2 j k l q=>c a b _ i g H2 x y v u Q j k l q^f _ _
def YI(K:Frag):R2:=λx y H Q=>∃p c i v,x=.ref p/\y=.int i/\SqL K H p c/\atI c i=P3 v/\Q v H
def ag(K:Frag):R2:=λx y H Q=>∃p c i v,x=.ref p/\y=.int i/\SqT K H p c/\atI c i=P3 v/\Q v H
def ah:R2:=λx y H Q=>∃z i c,x=.str z/\y=.int i/\z.length<=sizeLine/\atI z.cps.toList i=P3 c/\Q (.str #[#[ c]]) H
theorem qB:IxR X^YI X.K:=by
 intro value d k s l H x y v u Q I B C h m;let#[p,N,i,z,rfl,rfl,D,E,q]:=h;subst B;let#[t,rfl]:=C;let#[e,r,f,O]:=I.list D;let#[j,n,F,P,G,J]:=MK E;let#[w,L,g]:=r.get F;have R:=r.length;have S:=G7;have c:EP X k l Q w s:=#[z,H,I,g,q]
 by_cases o:0<=i
 .have A:i.toNat=j:=by
   rw[seqIndex_of o J]at n
   simp_all
  exact item_listR f.isList o (by lk) (by rw[A]; simpa using L) c m
 .have A:(i+(e.toArray.size:Int)).toNat=j:=by
   rw[seqIndex_neg (by lk) G]at n
   simp_all
  exact subscriptTail_builtinR (x:=w) f.isList.typeIs mN.lookup
   (wpAny_getItem_list_neg (Q:=λr M=>r=w/\EP X k l Q r M) f.isList (by lk) (by simp_all) (by lk) (by simp_all) #[rfl,c]) m
theorem ix_tup:IxR X^ag X.K:=by
 intro value c A s B H x y v u Q I f g h k;let#[p,C,i,z,rfl,rfl,l,m,q]:=h;subst f;let#[t,rfl]:=g;let#[n,r,e,D]:=I.tuple l;let#[j,E,o,F,G,J]:=MK m;let#[w,L,d]:=r.get o;have M:=r.length;have N:=G7
 exact subscriptTail_builtinR e.typeIs gP.lookup
  (getItem_tuple (j:=j) e (by lk) (by lk) (by simp_all) (by grind) #[rfl,#[z,H,I,d,q]]) k
theorem Yp:IxR X ah:=by
 intro value d l s m H x y v u Q I e f h g;let#[z,i,c,rfl,rfl,n,k,q]:=h;let#[t,rfl]:=e;let#[o,rfl]:=f;let#[j,p,r,w,A,B]:=MK k;have C:z.cps.toList.length=z.length:=by simp[Str.length]
 have D:=G7
 exact tail_any (typeIs_str s z t) slot_str_getitem.lookup (getItem_str (by
  lia) (by simp_all) #[.str _,H,I.tok _,#[_,rfl],q]) g
def e_(K:Frag):R2:=λx y H Q=>YI K x y H Q\/ag K x y H Q\/ah x y H Q
theorem Yq:IxR X^e_ X.K:=qB.or^ix_tup.or Yp
theorem Ob(c:r_ Db)(n j:Nat)(u:Db):gs (·.setIfInBounds j u) {cls:=.type "list",data:=.seq c.toArray n}={cls:=.type "list",data:=.seq (c.set j u).toArray n}:=by
 simp[gs]
theorem Inv.lst{f:r_ (Ch×Obj)}{g:St}{H:Hp}{s:Go}{p:Ch}{d:r_ V}(I:Inv X f g H s)(h:H p=P3^.lst d):
  ∃(c:r_ Db) (n:Nat),qQ d c/\s.heap.get? p=P3 {cls:=.type "list",data:=.seq c.toArray n}/\d.length<=sizeLine:=by
 let#[z,c,n,r,e]:=I.hok p _ h;exact#[_,n,r,e,z]
theorem Inv.lstUpd{d c:r_ Db}(I:Inv X j k H s)(h:H p=P3^.lst m)
  (o:s.heap.get? p=P3 {cls:=.type "list",data:=.seq d.toArray n}) (l:f {cls:=.type "list",data:=.seq d.toArray n}={cls:=.type "list",data:=.seq c.toArray i}) (r:qQ g c) (v:g.length<=sizeLine) (t:Nat):
  Inv X j k (Al H p^.lst g) {s with heap:=s.heap.update p f,toks:=t}:=by
 have e:(s.heap.update p f).get? p=P3 {cls:=.type "list",data:=.seq c.toArray i}:=by
  rw[g7 f o (by rw[l] <;>rfl),l]
 exact I.write (by rw[h]; trivial) (.inl rfl) (λb u w q=>(fm _ _^gf w).trans q) #[_,e] #[v,_,i,r,e]
def Wv:V->V->V->Hp->(Hp->Prop)->Prop:=λo i v H Q=>∃p c k j,o=.ref p/\i=.int k/\H p=P3^.lst c/\Uq c.length k=P3 j/\Q^Al H p^.lst^c.set j v
theorem set_list:cP X Wv:=by
 intro w s x H o i v F G u Q I y z A h;let#[p,B,k,j,rfl,rfl,f,C,q]:=h;subst y;let#[t,rfl]:=z;let#[c,n,r,d,J]:=I.lst f;let#[g,K,D,E]:=Pt C;have L:=r.length;have M:=G7
 have l:Inv X w x (Al H p^.lst^B.set j v) {s with heap:=s.heap.update p (gs (·.setIfInBounds j u))}:=
  I.lstUpd f d (Ob c n j u) (r.set A j) (by simp_all) s.toks
 by_cases m:0<=k
 .have e:k.toNat=j:=by
   rw[seqIndex_of m E]at g
   simp_all
  exact PySem.W.ki_setAt d m (by lk) (by simp_all)^by rw[e]; exact#[_,l,q]
 .have e:(k+(c.toArray.size:Int)).toNat=j:=by
   rw[seqIndex_neg (by lk) D]at g
   simp_all
  exact PySem.W.ki_setBack d (by lk) (by simp_all) (by lk)^by rw[e]; exact#[_,l,q]
theorem LV(c d:s_ Int)(n:Nat):(sliceBounds c d o_ n).1=((HT.sIx n 0 c:Nat):Int)/\(sliceBounds c d o_ n).2.1=((HT.sIx n n d:Nat):Int)/\(sliceBounds c d o_ n).2.2=1:=by
 refine#[?_,?_,rfl]
 .cases c with
  |none=>simp[sliceBounds,HT.sIx]
  |some i=>
   simp only[sliceBounds,HT.sIx,Option.getD_none,show(1:Int) > 0 by cbv,if_true]
   by_cases h:i<0
   .grind
   .simp only[h,if_false] <;>lk
 .cases d with
  |none=>simp[sliceBounds,HT.sIx]
  |some i=>
   simp only[sliceBounds,HT.sIx,Option.getD_none,show(1:Int) > 0 by cbv,if_true]
   by_cases h:i<0
   .grind
   .simp only[h,if_false] <;>lk
theorem J5(c:r_ Db)(d e:s_ Int):slicePick c.toArray d e o_=((c.drop^HT.sIx c.length 0 d).take (HT.sIx c.length c.length e - HT.sIx c.length 0 d)).toArray:=by
 let#[f,g,h]:=LV d e _;unfold slicePick;rw[f,g,h];simp only[sliceRange_one,pick_run] <;>rfl
def aW(K:Frag):V->s_ Int->s_ Int->Hp->VK->Prop:=λx d e H Q=>∃a c,x=.ref a/\SqL K H a c/\∀p,H p=o_->Q (.ref p)^Al H p^.lst^Nd c d e
theorem sl_list:SlR X^aW X.K:=by
 intro p s t H x v u w e f y Q I g i j k h;let#[a,l,rfl,m,q]:=h;subst g;let#[n,r,d,o]:=I.list m;have c:=r.length;exists _,_,mN.lookup,d.isList.typeIs;refine wpAny_getItem_list_slice d.isList i j k .none (by decide) ?_ (by simp_all);rw[J5,←c];refine#[.ref _,_,I.laid (λb z q=>Ev _ q) (On _) ?_,rfl,q _^I.hok.fresh^On _];exact#[f_ (He l e f) o,_,0,(r.drop _).take _,UF _ rfl]
def XM:V->Bool
 |.non=>p_
 |.bl _=>p_
 |.int _=>p_
 |.str _=>p_
 |_=>q_
def bj:V->V->Bool
 |.non,.non=>p_
 |.bl a,.bl b=>a==b
 |.bl a,.int b=>(if a then 1 else 0)==b
 |.int a,.bl b=>a==(if b then 1 else 0)
 |.int a,.int b=>a==b
 |.str a,.str b=>a==b
 |_,_=>q_
theorem L6(e:RelV y u)(c:RelV x v)(g:XM y=p_)(f:XM x=p_):SeqAt.EqAt A s u v^bj y x:=by
 cases y with
 |non=>
  subst e;cases x with
  |non=>subst c; exact SeqAt.EqAt.same _
  |bl b=>subst c; exact SeqAt.EqAt.none_bool b
  |int b=>let#[t,rfl]:=c; exact SeqAt.EqAt.none_int b t
  |str b=>let#[t,rfl]:=c; exact SeqAt.EqAt.none_str b t
  |_=>exact absurd (show q_=p_ from f) f6
 |bl a=>
  subst e;cases x with
  |non=>subst c; exact SeqAt.EqAt.bool_none a
  |bl b=>subst c; exact SeqAt.EqAt.bool_bool a b
  |int b=>let#[t,rfl]:=c; exact SeqAt.EqAt.bool_int a b t
  |str b=>let#[t,rfl]:=c; exact SeqAt.EqAt.bool_str a b t
  |_=>exact absurd (show q_=p_ from f) f6
 |int a=>
  let#[d,rfl]:=e;cases x with
  |non=>subst c; exact SeqAt.EqAt.int_none a d
  |bl b=>subst c; exact SeqAt.EqAt.int_bool a d b
  |int b=>let#[t,rfl]:=c; exact SeqAt.EqAt.int_int a d b t
  |str b=>let#[t,rfl]:=c; exact ng a d b t
  |_=>exact absurd (show q_=p_ from f) f6
 |str a=>
  let#[d,rfl]:=e;cases x with
  |non=>subst c; exact SeqAt.EqAt.str_none a d
  |bl b=>subst c; exact SeqAt.EqAt.str_bool a d b
  |int b=>let#[t,rfl]:=c; exact nh a d b t
  |str b=>let#[t,rfl]:=c; exact SeqAt.EqAt.str_str a d b t
  |_=>exact absurd (show q_=p_ from f) f6
 |_=>exact absurd (show q_=p_ from g) f6
theorem DP:CL X (.type "list") (λB H Q=>∃p f,B=[.ref p]/\(SqL X.K H p f\/SqT X.K H p f)/\∀l,H l=o_->Q (.ref l)^Al H l^.lst f):=by
 intro D s E H B G Q I r h;let#[p,f,rfl,j,q]:=h;let#[u,rfl,F]:=vals1 r;subst F
 have k:∀(c:r_ Db),qQ f c->f.length<=sizeLine->∀(d:fz) (i:Nat),(∀b C,s.heap.get? b=P3 C->d.get? b=P3 C)->
   d.get? s.heap.objs.size=P3 _->EP X D E Q (.ref s.heap.objs.size) {s with heap:=d}:=λc g m d i t e=>
  #[.ref s.heap.objs.size,_,I.laid (t':=s.toks) t (On _) (show qv X.prog X.w _ d _^.lst f from#[m,c,i,g,e]),rfl,q _^I.hok.fresh^On _]
 rcases j with j|j
 .let#[c,g,x,m]:=I.list j
  have v:=g.length;let#[o,y,z,n,A]:=x.isList;exact call_list_seq p (.inl rfl) y z A (λd i t e=>k c g m d i t e)^by grind
 .let#[c,g,x,m]:=I.tuple j
  have v:=g.length;let#[o,y,z,n,A]:=x;exact call_list_seq p (.inr rfl) y z A (λd i t e=>k c g m d i t e)^by grind
theorem KL:CL X (.type "tuple") (λj H Q=>∃p c,j=[.ref p]/\((SqL X.K H p c/\∀l,H l=o_->Q (.ref l)^Al H l^.tup c)\/(SqT X.K H p c/\Q (.ref p) H))):=by
 intro w s x H j y Q I r h;let#[p,c,rfl,h]:=h;let#[u,rfl,t]:=vals1 r;subst t
 rcases h with⟨d,q⟩|⟨d,q⟩
 .let#[f,g,i,k]:=I.list d
  have m:=g.length;refine call_tuple_list i.isList (λz v=>?_) (by simp_all);have n:=I.kept (t':=s.toks) v;exact#[.ref _,_,n.laid (t':=s.toks) (λb o e=>Ev _ e) (On _) (show qv _ _ _ _ _^.tup c from#[k,_,g,qR.new _ _]),rfl,q _^n.hok.fresh^On _]
 .let#[f,g,i,k]:=I.tuple d
  exact call_tuple_same i #[.ref p,H,I,rfl,q]
def dA(K:Frag)(T:String)(x:V)(H:Hp):Prop:=match x with
 |.str _=>T="str"
 |.int _=>T="int"
 | .ref p=>(T="list"/\∃d,SqL K H p d)\/(T="tuple"/\∃o,K.lookup p=P3 o/\o.cls=.type "tuple"/\o.dict=o_) \/
   (T="dict"/\((∃c,H p=P3^.dK c)\/∃c,H p=P3^.dT c))\/(T="set"/\∃S n,H p=P3^.set S n)
 |_=>False
theorem Xy(I:Inv X l m H s)(r:RelV x v)(ty:dA X.K T x H):
  s.TypeIs v T/\∀a,v=.ref a->∃j,s.heap.get? a=P3 j/\j.dict=o_:=by
 cases x with
 |str z=>
  let#[t,rfl]:=r;cases(show T="str" from ty);exact#[typeIs_str s z t,λ_ e=>nomatch e]
 |int i=>
  let#[t,rfl]:=r;cases(show T="int" from ty);exact#[mV s i t,λ_ e=>nomatch e]
 | ref p=>
  subst r
  rcases ty with⟨rfl,y,q⟩|⟨rfl,o,d,u,f⟩|⟨rfl,d⟩|⟨rfl,S,n,d⟩
  .let#[w,_,k,_]:=I.list q
   refine#[k.isList.typeIs,λa e=>?_];injection e with e;subst e;let#[o,n,e,c,f,_]:=k;exact#[o,e,f]
  .refine#[#[o,I.kIn p o d,u],λa e=>?_]
   cases e;exact#[o,I.kIn _ o d,f]
  .have z:∃o,s.heap.get? p=P3 o/\o.ExactDict:=by
    rcases d with⟨g,d⟩|⟨g,d⟩
    .let#[_,_,_,_,o,_,_,e,ex,_]:=I.hok p _ d
     exact#[o,e,ex]
    .let#[_,_,_,_,o,_,_,e,ex,_]:=I.hok p _ d
     exact#[o,e,ex]
   let#[o,e,ex]:=z;refine#[#[o,e,ex.1],λa h=>?_];cases h;exact#[o,e,ex.2.1]
  .let#[o,_,_,_,e,ex,_]:=I.hok p _ d
   refine#[#[o,e,ex.1],λa h=>?_];injection h with h;subst h;exact#[o,e,ex.2.1]
 |_=>exact gh ty
def fS(K:Frag)(T:String)(r:V->r_ V->Hp->VK->Prop)(e:TE)(t:TA):TE:=λc H Q=>e c H λx d=>dA K T x d/\t c d λf H2=>r x f H2 Q
variable {T id:String}
theorem W6(p:PlainAttrs T)(f:Slot T name id)(j:typeOf^.builtin id=pure^.type "method_descriptor")(q:Zk X id r)(u:PE X o to)(w:PA X (e::es) t)
  (c:attributeBase o name X.env^eval o X.env=eval o X.env:=by rfl)
  (g:((backTo cpos^starEach (e::es) X.env).all (λx=>!x.1)&&(backToKw cpos^keywordEach [] X.env).all (λx=>x.1.isSome)
   && decide ((e::es).length+([]:r_ jf).length+(if([]:r_ jf).isEmpty then 0 else 1)<30))=p_:=by rfl)
  (d:(apos.endLine==cpos.line)=p_:=by rfl) (y:starEach (e::es) X.env=(q_,eval e X.env)::starEach es X.env:=by rfl) (i:(backTo cpos^starEach es X.env).any (·.1)=q_:=by rfl):
  PE X (.Call (.Attribute o name apos) (e::es) [] cpos) (fS X.K T r to t):=by
 intro N s k H Q I h;refine wpAny_Call_method_late c g d rfl (thn (u _ s k H _ I h) λv z zz=>?_);let#[x,A,l,m,ty,B]:=zz;let#[C,D]:=Xy l m ty;exists T,id,p,f,j,C,D;have n:=w cpos _ z k A _ l B;rw[y]at n ⊢;refine jH (by grind)^kG ?_;refine thn n λE F zz=>?_;let#[G,H2,J,L,M]:=zz;exact q _ F k H2 x G v E Q J m L M
end
def fb(X:Cx)(e:String)(r:V->r_ V->Hp->VK->Prop):Prop:=
 ∀(a:r_ (Ch×Obj)) (s:Go) (b:St) (H:Hp) (x:V) (c:r_ V) (v:Db) (d:r_ Db) (Q:VK),Inv X a b H s->RelV x v->qQ c d->r x c H Q->
  wpAny (model X.prog X.w) X.A (call (.builtin e) (v::d)) (EP X a b Q) X.xe s
theorem qQ.one:∀{x:V}{a:r_ Db},qQ [x] a->∃u,a=[u]/\RelV x u
 |_,_,.cons r .nil=>#[_,rfl,r]
theorem qQ.eraseIdx:∀{a:r_ V}{b:r_ Db} (i:Nat),qQ a b->qQ (a.eraseIdx i)^b.eraseIdx i
 |_,_,_,.nil=>.nil
 |_,_,0,.cons _ t=>t
 |_,_,i+1,.cons r t=>.cons r^qQ.eraseIdx i t
theorem qQ.reverse(h:qQ a b):qQ a.reverse b.reverse:=by
 induction h with
 |nil=>exact .nil
 |cons r t c=>simp only[j1,j1]; exact qQ.append c^.cons r .nil
theorem Ks{a:Type}:∀(l:r_ a) (i:Nat),(l.eraseIdx i).length<=l.length
 |[],_=>On _
 |_::_,0=>gq _
 |_::r,i+1=>jk^Ks r i
section

theorem Inv.lset{a its':r_ Db}(I:Inv X zG σ H s)(b:H l=P3^.lst xs)
  (e:s.heap.get? l=P3 {cls:=.type "list",data:=.seq a.toArray n}) (c:f a.toArray=its'.toArray) (d:qQ ys its') (g:ys.length<=sizeLine):
  Inv X zG σ (Al H l^.lst ys) {s with heap:=s.heap.update l^gs f,toks:=t'}:=by
 have q:=PySem.IsL.update e f;rw[c]at q;exact I.write (by rw[b]; exact trivial) (.inl rfl) (λk u h i=>(fm _ _^gf h).trans i) #[_,q] #[g,_,_,d,q]
theorem Inv.lnew(I:Inv X zG σ H s)(c:qQ ys a)(d:ys.length<=sizeLine):
  Inv X zG σ (Al H s.heap.objs.size^.lst ys) {s with heap:=s.heap.push {cls:=.type "list",data:=.seq a.toArray},toks:=b}:=
 I.laid (λ_ _ q=>Ev _ q) (On _) #[d,_,0,c,UF _ rfl]
theorem Inv.fresh(I:Inv X zG σ H s):H s.heap.objs.size=o_:=I.hok.fresh^On _
theorem Inv.lstM(I:Inv X zG σ H s)(b:H l=P3^.lst xs):xs.length<=sizeLine/\∃(a:r_ Db) (n:Nat),qQ xs a/\xs.length=a.length/\s.heap.get? l=P3 {cls:=.type "list",data:=.seq a.toArray n}:=by
 let#[z,a,n,r,e]:=I.hok l _ b;exact#[z,_,n,r,r.length,e]
end
section

def PU:V->r_ V->Hp->VK->Prop:=λx b H Q=>∃l a y,x=.ref l/\b=[y]/\H l=P3^.lst a/\a.length<sizeLine/\Q .non^Al H l^.lst (a++[y])
theorem BP:fb X "list.append" PU:=by
 intro g s i H x j v k Q I b c h;let#[l,m,y,rfl,rfl,a,o,q]:=h;subst b;let#[u,rfl,d]:=c.one;let#[z,f,n,r,p,e]:=I.lstM a;refine jt F.slot_list_append #[_,e,rfl] F.entry_list_append (F.args_list_append_2 _ _) (PySem.list_append l _ n u^by simp_all) #[e,?_];refine#[.non,_,I.lset a e (by simp) (r.append^.cons d .nil) ?_,rfl,q]
 grind
end
end L2
namespace Att
open PySem.W PySem.Calls
theorem Hy:∀(c:r_ Int) (d:r_ Db),WellAll P h d^c.map WData.int->IntsAre d c:=by
 intro c
 induction c with
 |nil=>
  intro d w;cases w;exact .nil
 | cons n c e=>
  intro d w;cases w with
  |cons a b=>
   cases a;exact .cons _ _^e _ b
theorem Qe{l:OpenLaw}(w:l.most=P3 n)
  (c:l.row.toRowW.claim.pre args=p_) (i:WellAll P h b args):
  ∃a k e,b=[fj a]/\args=[WData.list^e.map WData.int]/\h.get? a=P3 {cls:=.type "list",data:=.seq k.toArray}/\IntsAre k e/\e.length<=n:=by
 have j:WShape.hasAll [] args [.list .int]=p_:=(pre_splitW c).1;have m:l.pre.holds [] {args:=args}=p_:=(pre_splitW c).2;let#[d,r,rfl,p,q]:=hasAllW_cons j;obtain rfl:=hasAllW_nil q;let#[x,rfl,s]:=hasW_list p;let#[e,rfl]:=items_int s
 have f:e.length<=n:=by
  unfold OpenLaw.pre at m
  have o:(WTm.not^.lt (.lit^.int (n:Int))^.len^.arg 0).holds [] {args:=[.list^e.map .int]}=p_:=by
   have o:=(holds_andW m).1
   simp_all
  have y:=condW_of o^w_not^w_lt w_lit^w_len_list (w_arg rfl)
  simp_all
 cases i with
 |cons t u=>
  cases u;cases t with
  |list v g=>exact#[_,_,e,rfl,rfl,v,Hy e _ g,f]
theorem Qh(l:OpenLaw)(a:r_ WData):l.row.toRowW.claim.post a (.bool p_) a=p_:=
 postW_of
  (show WShape.has [] _ _=p_ by first|rfl|decide|omega)
  (w_eq_bool (w_res rfl) w_lit) rfl
theorem attach_call{l:OpenLaw}
  (K:l.most=P3 n) (x:d.params.defaults=[])
  (call:∀(w:gB) (e b:Go) (s y:Str->s_ Db) (j:Ch) (o:Obj) (z t g:Db) (a:Ch) (i:r_ Db) (u:r_ Int),
   Ground q c [] D w e s y b.heap->E w b.heap->
   b.heap.get? j=P3 o->o.data=.func^docDef d.name d.params d.body d.scope z t g->b.heap.CodeRec t d.name->s d.name=P3^.ref j->
   b.heap.get? a=P3 {cls:=.type "list",data:=.seq i.toArray}->IntsAre i u->u.length<=n->b.gens=#[]->
   codeAny (model l.prog w) callerA (.call (.ref j) #[[.ref a],[]]) (λr v=>r=.ok^.ret^.bool p_/\OldK b.heap v.heap/\v.os=b.os/\j8 v.gens) b):
  WalkO q c D E l.row.toRowW d [] (λf i=>PySem.call f i):=by
 intro w e b s y G Y j o z t g L M N O A F B P H I X k J Q C R;obtain rfl:L=.none:=Dflts.none F x;obtain rfl:M=.none:=Dflts.noKw F;let#[a,i,u,rfl,rfl,m,h,p]:=Qe K k C;refine enter_call^jj (call w e b s y j o z t g a i u G Y N (fd_plain O) A B m h p P) λr v S=>?_;let#[rfl,T,U,V]:=S;exact#[.inl #[.bool p_,.bool p_,[],rfl,λ_=>rfl,.bool p_,Qh l _,λ_=>#[nk,λ_ W=>(nomatch W)]],T,U,V]
end Att
namespace L2
theorem KW:∀{a:r_ Db}{b:r_ Int},IntsAre a b->qQ (b.map V.int) a
 |_,_,.nil=>.nil
 |_,_,.cons n t h=>.cons #[t,rfl]^KW h
def Zh(H:Hp):Prop:=∀b,H b=o_\/∃o a,H b=P3^.frz o^.lst a
theorem Ti{K:Frag}
  (KX:K.In c.heap) (C:c.heap.Ns mainGlobals A) (g:c.heap.Ns builtinsNs R) (T:∀x:Str,x ≠ "__name__"->R x=bootBuiltins x) (D:c.heap.NoLimit) (hg:c.gens=#[])
  (Q:c.heap.get? a=P3 {cls:=.type "list",data:=.seq t.toArray}) (hi:IntsAre t B) (hl:B.length<=sizeLine) (hr:qj k callerA)
  (F:∀i:fz,K.In i->i.Ns mainGlobals A->qV P w K A i CX k S fd [x] sp) (y:∀(s:Go) (u:Db),lc s fd #[[u],[]] [(x,u)])
  (U:∀H:Hp,Zh H->SqL K H a^B.map V.int->sp [.ref a] H (λv _=>v=.bl p_) λ_ _ _=>False)
  (W:∀H e j,CX [] H c (λ_ _ _=>False) e j->False):
  codeAny (model P w) callerA (.call (.ref S) #[[.ref a],[]]) (λr j=>r=.ok^.ret^.bool p_/\OldK c.heap j.heap/\j.os=c.os/\j8 j.gens) c:=by
 have rv:=KW hi;have E:=hi.length
 have p:∀H:Hp,Zh H->SqL K H a^B.map V.int->HOk P w H c.heap->(∀b,H b≠o_->b=a)->(H a≠o_->K.lookup a=o_)->
   codeAny (model P w) callerA (.call (.ref S) #[[.ref a],[]]) (λr j=>r=.ok^.ret^.bool p_/\OldK c.heap j.heap/\j.os=c.os/\j8 j.gens) c:=by
  intro H hO hS G hA hK;have f:∀{b:Ch}{o:Obj},c.heap.get? b=P3 o->H b=o_->(Lx c.heap H).get? b=P3 o:=λe n=>Tx e n
  have X:∀{b:Ch}{o:Obj}{I:Array DictEntry}{J:Nat},c.heap.get? b=P3 o->o.data=.dict I J->H b=o_:=λ{b o I J} e d=>by
   cases q:H b with
   |none=>rfl
   |some u=>
    have Y:b=a:=hA b (by rw[q]; simp);subst Y;rw[Q]at e; injection e with e;subst e
    have d':Data.seq t.toArray _=Data.dict I J:=d;cases d'
  have l:∀{b:Ch}{m:Str->s_ Db},c.heap.Ns b m->(Lx c.heap H).Ns b m:=λ{b m} #[o,I,J,e,d,r]=>#[o,I,J,f e^X e d,d,r]
  have L:K.In^Lx c.heap H:=λb o e=>f (KX b o e) (by
   cases q:H b with
   |none=>rfl
   |some u=>
    have Y:b=a:=hA b (by rw[q]; simp);subst Y;rw[hK^by rw[q]; simp]at e; cases e)
  have hM:Mod K A^Lx c.heap H:=#[L,l C,#[R,l g,T],let #[mc,h1,h2]:=D; #[mc,l h1,h2]];have e0:vG P w K A (Lx c.heap H) callerA [] c H:=#[rfl,hM,λb o e=>VZ e,me^RH _ _,trivial,λb g=>absurd (show b∈([]:r_ Ch)from g)^by simp,G,.of_eq hg];refine jj ((F _ L^l C).run callerA [] c H #[[.ref a],[]] [.ref a] [.ref a] _ _ hr e0 (y c^.ref a) (.cons rfl .nil)^U H hO hS) λr j h=>?_;cases r with
  |error e=>exact(W H e j h).elim
  | ok fl=>
   cases fl with
   |next=>exact gh h
   |brk=>exact gh h
   |cont=>exact gh h
   | ret u=>
    let#[v,H',os,M,un,N,r',q]:=h;have q':v=.bl p_:=q;subst q';obtain rfl:u=ke p_:=r';refine#[rfl,OldK.of_keep λb o e=>?_,os,M];cases q:H b with
    |none=>exact un.keep b o e q (by intro z; exact absurd (show b∈([]:r_ Ch)from z)^by simp)^by simp
    | some u=>
     rcases hO b with z|⟨ob,xs,z⟩
     .rw[q]at z; cases z
     .have z2:=un.vY b ob _ z
      let#[e1,_]:=G b _ z;let#[e2,_]:=N b _ z2;rw[e]at e1; injection e1 with e1;subst e1
      exact e2
 cases Z:K.lookup a with
 |some o=>
  have e:=KX a o Z;rw[Q]at e;injection e with e;subst e;refine p (λ_=>o_) (λ_=>.inl rfl) (.inr #[_,t.toArray,_,Z,rfl,rfl,rfl,by rw[fk,E]; exact hl,by simpa using rv]) (λb u z=>by have O:(o_:s_ HO)=P3 u:=z; cases O) (λb z=>absurd rfl z) λz=>absurd rfl z
 | none=>
  refine p (λb=>if b=a then P3^.frz {cls:=.type "list",data:=.seq t.toArray}^.lst^B.map V.int else o_) (λb=>?_) (.inl^.inr #[{cls:=.type "list",data:=.seq t.toArray},if_pos rfl]) (λb u z=>?_) (λb z=>?_) λ_=>Z
  .by_cases g:b=a
   .exact .inr #[_,_,if_pos g]
   .exact .inl^if_neg g
  .by_cases g:b=a
   .have O:=(if_pos g).symm.trans z
    injection O with O;subst O;subst g;exact#[Q,by rw[No]; exact hl,t,_,rv,Q]
   .have O:=(if_neg g).symm.trans z
    cases O
  .by_cases g:b=a
   .exact g
   .exact absurd (if_neg g) z
theorem O_{l:PySem.W.OpenLaw}{K:Params->Frag}{CX:gB->Rp}{sp:gB->Sp}
  (P:l.most=P3 n) (z:n<=sizeLine) (A:d.params.defaults=[]) (Q:qj k callerA)
  (R:∀(w:gB) (h:fz),I w h->(K w.params).In h)
  (F:∀(w:gB) (p:Str->s_ Db) (t:Ch) (h:fz),(K w.params).In h->h.Ns mainGlobals p->p d.name=P3^.ref t->
   ∃fd:gX,(∀(s:Go) (u:Db),lc s fd #[[u],[]] [(x,u)]) /\
    ∀c:fz,(K w.params).In c->c.Ns mainGlobals p->qV l.prog w (K w.params) p c (CX w) k t fd [x]^sp w)
  (B:∀(w:gB) (H:Hp) (a:Ch) (y:r_ Int),y.length<=n->Zh H->SqL (K w.params) H a^y.map V.int->sp w [.ref a] H (λv _=>v=.bl p_) λ_ _ _=>False)
  (C:∀(w:gB) (H:Hp) (s:Go) (e:Db) (D:Go),CX w [] H s (λ_ _ _=>False) e D->False):
  PySem.W.WalkO q j O I l.row.toRowW d [] (λf J=>PySem.call f J):=by
 refine Att.attach_call P A λw L M p mb t o pm cd S a J y G Y ho hd U E r m i X=>?_;have N:=R w _ Y;let#[fd,Z,hF]:=F w p t _ N G.T.g E;exact Ti N G.T.g G.T.b G.T.builtins G.T.nolimit X r m (f_ i z) Q hF Z (λH hO hS=>B w H a y i hO hS) λH e D=>C w H _ e D
end L2
/- THE LAST THEOREM (shape; LID,My.* are yours):
   My.Adr:a structure of the addresses that your layer names (classes,functions); My.Txt K t:a structure (Prop) of the equations over K;
   My.txt_mk:{K}{implicit addresses ..} (e1:nsIn K mainGlobals "law"=P3^P3^.ref f) (e2:K.lookup f=P3 #[oc,od,.func^fnOf "law" "law" params body scope dV kV doc pm an cdv ct,sl]) (e3:codeIn K cdv "law"=p_) ..:∃ t,My.Txt K t
set_option maxRecDepth 100000 in
set_option maxHeartbeats 0 in
theorem PySem.Challenge.cw_LID_holds:PySem.Challenge.rw_LID.Holds:=by
 w_on; o_law; k_head; (case hw=>w_witness2)
 k_fill
 refine L2.O_ (l:=PySem.Challenge.rw_LID) (n:=63) (k:=40) (x:="script") (CX:=λw=>..) (sp:=λ_=>My.sp_law) rfl (by cbv) rfl #[rfl,by cbv,by cbv] (λw h Y=>PySem.W.kIn_of Y) ?F ?S ?C
 case F=>
  intro w mg fa h KX G hmg
  have T:∃t,My.Txt (L2.KOf KX) t:=by
   dsimp only[L2.KOf] -- K must stand as «<heap const> w.params» for k_is
   refine' My.txt_mk ?e1 ?e2 ?e3 ..
   (case e1=>PySem.W.k_is) -- in the order:a name->its address->its object->its parts
   (case e2=>PySem.W.k_is)
   ..
  let#[t,T]:=T;have e0:=hmg.symm.trans^mg_of KX G T.law;cases e0 -- fa is the law's own address;exact#[_,λs u=>.of_eq rfl,λbase kb nb=>My.law_fn T kb nb] -- if «.of_eq rfl» comes too early:refine' #[_,?b,λbase kb nb=>My.law_fn T kb nb]; exact λs u=>.of_eq rfl
 case S=>exact λw H a ns hl hO hS=>..
 case C=>exact ..
(the tactic k_is has no namespace:write k_is) -/
namespace L2
def CC(s:gz):Arguments:=match s with
 |.FunctionDef _ a _ _ _ _ _ _ _ _=>a
 |_=>{posonlyargs:=[],args:=[],vararg:=o_,kwonlyargs:=[],kw_defaults:=[],kwarg:=o_,defaults:=[]}
def A9(s:gz):r_ gz:=match s with
 |.FunctionDef _ _ b _ _ _ _ _ _ _=>b
 |_=>[]
def AK(s:gz):i6:=match s with
 |.FunctionDef _ _ _ _ _ _ a _ _ _=>a
 |_=>{kind:=.function,names:=[],isGenerator:=q_,isCoroutine:=q_}
abbrev Ef:Rp:=λ_ _ _ _ _ _=>False
abbrev E0:XK:=λ_ _ _=>False
theorem W_:HG Ef X E0:=λ_ _ _ _ _ _ _ h=>h.elim
structure Fun (K:Frag) (x qual:Str) (st:gz) (f:Ch) (fd:gX):Prop where
 ex:∃(oc:Db) (od:Option Ch) (kV doc pm:Db) (an:Option Ch) (cdv ct:Db) (osl:Array^Option Db),
  fd=fnOf x qual (CC st) (A9 st) (AK st) .none kV doc pm an cdv ct/\K.lookup f=P3 #[oc,od,.func fd,osl]/\codeIn K cdv qual=p_
 kp:keepIn K^.ref f=p_
section
variable {K:Frag}
theorem Fun.ok{g:gz}(F:Fun K x a g f fd)(S:BJ N i^AK g)(len:∀c H Q E,j c H Q E->c.length=i.length)
  (d:∀(e:Db) (A:gE) (b:r_ Env) (s:Go) (H:Hp) (c:r_ V) (Q:VK) (E:XK),qj k^A.deeper^envOfC a (AK g) s.heap.objs.size f e->j c H Q E->
   ∃t,PSs (Dh Ef P w K mg base N a (AK g) f e A b s H E).nox (A9 g) t/\t {nx:=λ_ n=>Q .non n,rt:=Q} (start N c) H):qV P w K mg base Ef (k+1) f fd i j:=by
 let#[v,y,z,o,B,C,e,D,p,rfl,r,l]:=F.ex;refine XI r l S len λA b s H c Q E u m=>?_;let#[t,h,q]:=d _ A _ s H c Q E u m;exact#[t,h.nox,q]
theorem Fun.binds(F:Fun K x a d f fd)
  (h:∀(e b g:Db) (i:s_ Ch) (c j:Db) (k:r_ Db),k.length=ps.length->bindArgs (fnOf x a (CC d) (A9 d) (AK d) .none e b g i c j) #[k,[]]=pure^ps.zip k):Binds K fd ps []:=by
 let#[n,o,e,b,g,i,c,j,l,rfl,p,m]:=F.ex;exact .all^h e _ g i _ j
theorem Oj{st:gz}{kV d h b i:Db}(l:K.lookup f=P3 #[j,m,.func^fnOf x a (CC st) (A9 st) (AK st) .none kV d h e b i,g])
  (c:codeIn K b a=p_) (k:keepIn K^.ref f=p_):Fun K x a st f^fnOf x a (CC st) (A9 st) (AK st) .none kV d h e b i:=#[#[j,m,kV,_,h,e,_,i,_,rfl,l,c],k]
end
theorem Jc(a:qj k A):A.units+1<cLine:=kW (Nat.add_le_add_left (by cbv) _) a.units
section

theorem pv(i:Nat)(b:X.N[i]?=P3 x:=by rfl)(c:QK X.env.scope x:=by first|exact gi rfl|exact iE (gi rfl)|exact iE (iE rfl))(hd:(x==("__debug__":Str))=q_:=by decide)
  (a:(x==("__classdict__":Str))=q_:=by decide):PE X (.Name x pos)^CH i:=ES b c hd a
end
theorem Az{A B:Prop}(h:B):if q_=p_ then A else B:=by
 simp_all
theorem Ay{A B:Prop}(h:A):if p_=p_ then A else B:=by
 simp_all
theorem B9{c A B:Prop}[Decidable c](a:c->A)(b:¬c->B):if c then A else B:=by
 simp_all
section
variable {κ:Type}[DecidableEq κ]
def Eg(a:r_ (κ×V))(k:κ):s_ V:=(a.find? λb=>decide (b.1=k)).map (·.2)
def putK(a:r_ (κ×V))(k:κ)(v:V):r_ (κ×V):=
 if(a.any λb=>decide (b.1=k))=p_ then a.map (λb=>if b.1=k then(b.1,v)else b)else a++[(k,v)]
theorem Ej{k:κ}(e:p.1=k):Eg (p::r) k=P3 p.2:=by simp[Eg,e]
theorem Ek{k:κ}(e:¬p.1=k):Eg (p::r) k=Eg r k:=by simp[Eg,e]
theorem Mb(k:κ):∀a:r_ (κ×V),(a.any λb=>decide (b.1=k))=(Eg a k).isSome
 |[]=>rfl
 |p::r=>by
  simp only[mF]
  by_cases e:p.1=k
  .simp[Ej e,decide_eq_true e,Bool.true_or]
  .rw[Ek e,decide_eq_false e]; exact Mb k r
theorem Et(a:r_ (κ×V))(k:κ)(v:V):(putK a k v).length<=a.length+1:=by
 unfold putK
 grind
theorem zM.qD(r:zM o u):o.isSome=u.isSome:=by
 cases o with
 |none=>cases u with
  |none=>rfl
  |some _=>exact(r).elim
 |some _=>cases u with
  |none=>exact(r).elim
  |some _=>rfl
theorem zM.getD(r:zM o u)(b:RelV d a):RelV (o.getD d)^u.getD a:=by
 cases o with
 |none=>cases u with
  |none=>exact b
  |some _=>exact(r).elim
 |some _=>cases u with
  |none=>exact(r).elim
  |some _=>exact r
theorem KV.val(r:KV a f)(k:κ):zM (Eg a k)^valueAt f k:=by
 induction r with
 |nil=>exact iQ
 | @cons p q l c h t i=>
  let#[g,j]:=h
  by_cases e:p.1=k
  .have d:=g.symm.trans e
   have b:valueAt (q::c) k=P3 q.2:=by simp[valueAt,d]
   rw[Ej e,b]; exact j
  .have d:¬q.1=k:=λz=>e^g.trans z
   have b:valueAt (q::c) k=valueAt c k:=by simp[valueAt,d]
   rw[Ek e,b]; exact i
theorem KV.any(r:KV a c)(k:κ):(a.any λb=>decide (b.1=k))=c.any λb=>decide (b.1=k):=by
 induction r with
 |nil=>rfl
 |cons h t d=>simp_all
theorem KV.repl(r:KV b c)(k:κ)(f:RelV y u):
  KV (b.map λa=>if a.1=k then(a.1,y)else a) (c.map λa=>if a.1=k then(a.1,u)else a):=by
 induction r with
 |nil=>exact .nil
 |@cons p q g i h t d=>
  refine .cons ?_ d
  by_cases e:p.1=k
  .simp_all
  simp_all
theorem KV.put(r:KV kvs a)(k:κ)(b:RelV y u):KV (putK kvs k y)^stored a k u:=by
 delta putK stored;rw[r.any k]
 by_cases e:(a.any λc=>decide (c.1=k))=p_
 .rw[if_pos e,if_pos e]; exact r.repl k b
 .rw[if_neg e,if_neg e]; exact Paired.snoc r #[rfl,b]
theorem KV.keys{b:r_ (κ×Db)}(r:KV a b):a.map (·.1)=b.map (·.1):=by
 induction r with
 |nil=>rfl
 |cons h t c=>simp_all
theorem KV.length{b:r_ (κ×Db)}(r:KV a b):a.length=b.length:=Paired.length r
end
theorem GR(r:RelV (kV k) u):(A7 P w).is k u=p_:=by
 cases k with
 |inl i=>let#[t,e]:=(r); subst e; exact NB P w i t
 |inr x=>let#[t,e]:=(r); subst e; exact NA P w x t
theorem Kv:∀{a:r_ Key}{b:r_ Db},qQ (a.map kV) b->ItemsAre (A7 P w) a b
 |[],_,r=>by cases r; exact .nil
 |k::a,_,r=>by
  cases r with
  |cons h t=>exact .cons (GR h)^Kv t
abbrev KT(H:Hp):r_ (r_ Key×V)->r_ (r_ Key×Ch×Db)->Prop:=Paired λp q=>p.1=q.1/\H q.2.1=P3^.tup^p.1.map kV/\RelV p.2 q.2.2
theorem KT.val(r:KT H a f)(k:r_ Key):zM (Eg a k) ((atKey f k).map (·.2)):=by
 induction r with
 |nil=>exact iQ
 | @cons p q l c h t i=>
  let#[g,_,j]:=h
  by_cases e:p.1=k
  .have d:=g.symm.trans e
   have b:atKey (q::c) k=P3 q.2:=by simp[atKey,d]
   rw[Ej e,b]; exact j
  .have d:¬q.1=k:=λz=>e^g.trans z
   have b:atKey (q::c) k=atKey c k:=by simp[atKey,d]
   rw[Ek e,b]; exact i
theorem KT.repl(r:KT H a c)(k:r_ Key)(f:RelV y u):
  KT H (a.map λb=>if b.1=k then(b.1,y)else b) (c.map^putAt k u):=by
 induction r with
 |nil=>exact .nil
 |@cons p q g i h t d=>
  refine .cons ?_ d;unfold putAt
  by_cases e:p.1=k
  .simp_all
  simp_all
theorem KT.put(r:KT H kvs a)(k:r_ Key)(d:H b=P3^.tup^k.map kV)(c:RelV y u):
  KT H (putK kvs k y) (storedH a k b u):=by
 have e:(kvs.any λf=>decide (f.1=k))=(atKey a k).isSome:=by
  simp only[Mb,(r.val k).qD,mO]
 delta putK storedH;rw[e]
 by_cases q:(atKey a k).isSome=p_
 .rw[if_pos q,if_pos q]; exact r.repl k c
 .rw[if_neg q,if_neg q]; exact Paired.snoc r #[rfl,d,c]
theorem KT.keeps(r:KT H a d)(f:∀b e,H b=P3^.tup e->c b=P3^.tup e):KT c a d:=
 Paired.mapP r λ_ _ z=>#[z.1,f _ _ z.2.1,z.2.2]
section

theorem Wo(ok:HOk P w H h)(e:Rd H a u):qv P w H h a u:=e.ok ok
theorem Fb(ok:HOk P w H h)(e:Rd H a^.dK b):b.length<=sizeLine/\(a==sysModules)=q_/\∃c,KV b c/\h.DictOf (A7 P w) a c:=
 Wo ok e
theorem XY(ok:HOk P w H h)(e:H a=P3^.dK b):b.length<=sizeLine/\(a==sysModules)=q_/\∃c,KV b c/\h.DictOf (A7 P w) a c:=Fb ok^.inl e
theorem Fq(ok:HOk P w H h)(e:H a=P3^.tup^b.map kV):(tupleKind^A7 P w).is h b a:=by
 let#[_,c,r,o,d,f,n,g,_]:=(ok a _ e);exact#[o,_,n,d,f,g,by simpa using Kv r]
theorem Hb(ok:HOk P w H h)(e:Rd H a^.dT b):b.length<=sizeLine/\(a==sysModules)=q_ /\
  ∃d,KT H b d/\h.DictOfH (tupleKind^A7 P w) a d:=by
 let#[z,y,d,r,o,f,g,i,j,k,n,s]:=(Wo ok e);refine#[z,y,d,r,o,f,g,i,j,k,n,λx c=>?_,s]
 have all:∀{l:r_ _}{m:r_ _},KT H l m->∀x∈m,(tupleKind^A7 P w).is h x.1 x.2.1:=by
  intro l m q
  induction q with
  |nil=>simp_all
  |@cons p q v A B t u=>
   intro x c
   rcases TW.mp c with e|c
   .exact Fq ok^by simp_all
   .exact u x c
 exact all r x c
theorem bo(ok:HOk P w H h)(e:H a=P3^.dT b):b.length<=sizeLine/\(a==sysModules)=q_ /\
  ∃c,KT H b c/\h.DictOfH (tupleKind^A7 P w) a c:=Hb ok^.inl e
end
def zy(H:Hp)(a:Ch)(y:V)(r:s_ V):Prop:=
 (∃c k,Rd H a^.dK c/\y=kV k/\r=Eg c k)\/∃c k b,Rd H a^.dT c/\y=.ref b/\H b=P3^.tup^k.map kV/\r=Eg c k
def DPut(H:Hp)(a:Ch)(y v:V)(d:Hp):Prop:=
 (∃c k,H a=P3^.dK c/\y=kV k/\c.length<sizeLine/\d=Al H a^.dK^putK c k v) \/
 ∃c k b,H a=P3^.dT c/\y=.ref b/\H b=P3^.tup^k.map kV/\c.length<sizeLine/\d=Al H a^.dT^putK c k v
theorem zy.k{k:Key}(e:H a=P3^.dK b):zy H a (kV k)^Eg b k:=.inl #[_,k,.inl e,rfl,rfl]
theorem DPut.k{k:Key}(e:H a=P3^.dK b)(c:b.length<sizeLine):DPut H a (kV k) v^Al H a^.dK^putK b k v:=.inl #[_,k,e,rfl,c,rfl]
section

theorem Inv.big(I:Inv X zG σ H s):sysModules<s.heap.objs.size:=kX (by cbv) (I.mod.glob.keeps I.bk).lt
theorem RZ(B:A.units+1<cLine)(I:Inv X zG σ H s)(g:zy H a y^P3 v)(t:RelV y u)(h:∀f x,Inv X zG σ H x->RelV v f->Q f x):
  wpAny (model X.prog X.w) A (getItem (.ref a) u) Q E s:=by
 rcases g with⟨i,k,e,j,l⟩|⟨i,k,b,e,j,C,l⟩
 .subst j
  let#[z,D,F,c,m]:=Fb I.hok e;let#[f,n,d]:=zM.some_of (v:=v) (o:=valueAt F k) (by rw[l]; exact c.val k);exact wpAny_getItem_of (GR t) m.mapOf n^h f _ (I.tok _) d
 .subst j
  cases(show u=fj b from t);let#[z,D,G,c,m]:=Hb I.hok e;let#[f,n,d]:=zM.some_of (v:=v) (o:=(atKey G k).map (·.2)) (by rw[l]; exact c.val k);let#[p,J,q]:=gY.mp n;refine wpAny_getItem_heap (jJ B) (Fq I.hok C) m J ?_;simp only[q];exact h f _ (I.tok _) d
theorem eI(p:A.units+1<cLine)(I:Inv X zG σ H s)(g:zy H a y o)(m:RelV y u)(h:∀n,Inv X zG σ H n->Q (.bool o.isSome) n):
  wpAny (model X.prog X.w) A (compareOp .In u^.ref a) Q E s:=by
 rcases g with⟨d,k,e,f,l⟩|⟨d,k,b,e,f,t,l⟩
 .subst f
  let#[z,i,x,c,j]:=Fb I.hok e;refine wpAny_in_of (GR m) i j.mapOf ?_;rw[←(c.val k).qD,←l];exact h _^I.tok _
 .subst f
  cases(show u=fj b from m);let#[z,i,B,c,j]:=Hb I.hok e;refine wpAny_in_heap (jJ p) (Fq I.hok t) i j ?_;have q:=(c.val k).qD;simp only[mO]at q;simp only[←q,←l];exact h _^I.tok _
theorem WI(p:A.units+1<cLine)(I:Inv X zG σ H s)(g:zy H a y o)(m:RelV y u)(h:∀n,Inv X zG σ H n->Q (.bool (!o.isSome)) n):
  wpAny (model X.prog X.w) A (compareOp .NotIn u^.ref a) Q E s:=by
 rcases g with⟨d,k,e,f,l⟩|⟨d,k,b,e,f,t,l⟩
 .subst f
  let#[z,i,x,c,j]:=Fb I.hok e;refine wpAny_notIn_of (GR m) i j.mapOf ?_;rw[←(c.val k).qD,←l];exact h _^I.tok _
 .subst f
  cases(show u=fj b from m);let#[z,i,B,c,j]:=Hb I.hok e;refine wpAny_notIn_heap (jJ p) (Fq I.hok t) i j ?_;have q:=(c.val k).qD;simp only[mO]at q;simp only[←q,←l];exact h _^I.tok _
theorem MD(I:Inv X zG σ H s)(f:cT^H a)(g:ji a s.heap c)(h:∃q,c.get? a=P3 q)(new:qv X.prog X.w (Al H a d) c a d):
  Inv X zG σ (Al H a d) {s with heap:=c,toks:=e}:=
 I.write f (.inl rfl) (λb q i z=>(g.2 b i).trans z) h new
theorem Ov(z:b.length<=sizeLine)(hd:(a==sysModules)=q_)(d:KV b c)(g:e.DictOf (A7 P w) a c):
  qv P w f e a (.dK b):=#[z,hd,c,d,g]
theorem RY(M:A.units+1<cLine)(I:Inv X zG σ H s)(g:DPut H a y v D)(F:RelV y u)(rv:RelV v r)(h:∀G,Inv X zG σ D G->Q () G):
  wpAny (model X.prog X.w) A (setItem (.ref a) u r) Q E s:=by
 rcases g with⟨d,k,e,m,l,n⟩|⟨d,k,b,e,m,J,l,n⟩
 .subst m n
  let#[z,p,N,f,t]:=XY I.hok e;have x:N.length<=sizeLine:=by rw[←f.length]; exact z
  have B:(putK d k v).length<=sizeLine:=by have:=Et d k v; lk
  refine wpAny_setItem_pairs (hsz:=x) (GR F) t λK i C=>h _ ?_;have O:∃q,K.get? a=P3 q:=let #[q,_,_,j,_]:=i; #[q,j]
  exact MD I (by rw[e]; exact iQ) C O^Ov B p (f.put k rv) i
 .subst m n
  cases(show u=fj b from F);let#[z,p,P,f,t]:=bo I.hok e;have x:P.length<=sizeLine:=by rw[←Paired.length f]; exact z
  have B:(putK d k v).length<=sizeLine:=by have:=Et d k v; omega
  refine wpAny_setItem_heap (hsz:=x) (jJ M) (Fq I.hok J) t λK i C=>h _ ?_;let#[q,R,S,j,T,U,V,_,W]:=i;refine MD I (by rw[e]; exact iQ) C #[q,j] #[B,p,_,(f.put k J rv).keeps λc Y L=>?_,q,R,S,j,T,U,V,W];rw[AL^bF L e λz=>nomatch z];exact L
end
def Zi(i:gA):Prop:=∀a b,subscripted i q_ a b=operate [a,b]^getItem a b
theorem U7
  (m:typeLookup (.type T) "__getitem__"=pure^P3^.builtin l) (n:Zi a)
  (h:wpAny (model b w) A (eval value f) (λo e=>wpAny (model b w) A (eval a f) (λi c=>c.TypeIs o T/\wpAny (model b w) A (getItem o i) Q E c) E e) E s):
  wpAny (model b w) A (eval (.Subscript value a pos) f) Q E s:=by
 refine Subscript_^gQ h (λo e g=>gQ g (λi c d=>?_) λ_ _ x=>x) λ_ _ x=>x;let#[p,d]:=d;refine Cn ?_;refine Cn^m6 p m ?_
 first
  |exact Sc (Cn (by
  rw[n o i];exact wpAny_operating^gQ d (λr k j=>Cn^wpAny_letTemporaryGo^Sc j) λ_ _ x=>x))
  |grind
  |grind
theorem Nb(I:Inv X f h H s)(g:zy H a y o):s.TypeIs (.ref a) "dict":=by
 rcases g with⟨c,k,e,_,_⟩|⟨c,k,b,e,_,_,_⟩
 .let#[_,_,i,_,d]:=Fb I.hok e
  exact d.typeIs
 .let#[_,_,j,_,d]:=Hb I.hok e
  exact d.typeIs
def aN(c ty:TE):TE:=λb H Q=>c b H λx d=>ty b d λy H2=>∃a v,x=.ref a/\zy H2 a y^P3 v/\Q v H2
def aR(d ty e:TE):TS:=λD b H=>e b H λv f=>d b f λx H2=>ty b H2 λy g=>∃a c,x=.ref a/\DPut g a y v c/\D.nx b c
section

theorem Lg(e:X.A.units+1<cLine)(f:PE X o td)(j:PE X i ty)(k:Zi i):PE X (.Subscript o i pos)^aN td ty:=by
 intro z s c H Q I h;refine U7 PySem.F.slot_dict_getitem.lookup k^thn (f _ s c H _ I h) λu l zz=>?_;let#[x,m,n,p,q]:=zz;refine thn (j _ l c m _ n q) λB C zz=>?_;let#[y,H2,d,r,a,v,ex,g,t]:=zz;subst ex;obtain rfl:u=fj a:=p;exact#[Nb d g,RZ e d g r λD E w b=>#[v,H2,w,b,t]]
theorem II(c:X.A.units+1<cLine)(d:PE X o td)(e:PE X i ty)(f:PE X value tv)(j:swapsWith value (P3^.Subscript o i pos') pos.line X.env=pure q_):
  PS X (.Assign [.Subscript o i pos'] value pos) (aR td ty tv):=by
 intro J s b H D I h;refine wpAny_Assign_Subscript (thn (f _ s b H _ I h) λr k zz=>?_) j;let#[v,l,m,n,p]:=zz;refine thn (d _ k b l _ m p) λu q zz=>?_;let#[x,H2,t,w,z]:=zz;refine thn (e _ q b H2 _ t z) λK L zz=>?_;let#[y,M,B,C,a,E,ex,g,F]:=zz;subst ex;obtain rfl:u=fj a:=w;exact RY c B g C n λN G=>#[b,E,G,F]
end
theorem Na(h:fz)(a:sysModules<h.objs.size):qv P w H (h.push {cls:=.type "dict",data:=.dict #[]}) h.objs.size^.dK []:=
 #[T0 _,beq_eq_false_iff_ne.mpr^gf^f9 a,[],.nil,Heap.DictOf.new h]
def X7:TE:=λ_ H Q=>∀p,H p=o_->Q (.ref p)^Al H p^.dK []
section

theorem Mv:PE X (.Dict [] [] pos) X7:=λa s b H Q I h=>
 wpAny_Dict_empty #[.ref _,_,I.laid (λ_ _ q=>Ev _ q) (On _)^Na _ I.big,rfl,h _^I.hok.fresh^On _]
end
def N_:r_ (TE×TE)->St->Hp->(r_ (V×V)->Hp->Prop)->Prop
 |[],_,H,Q=>Q [] H
 |(b,c)::r,a,H,Q=>b a H λx d=>c a d λy H2=>N_ r a H2 λe f=>Q ((x,y)::e) f
abbrev VV:r_ (V×V)->r_ (Db×Db)->Prop:=Paired λp q=>RelV p.1 q.1/\RelV p.2 q.2
def cw(X:Cx)(pos:Pos)(keys:r_^s_ gA)(a:r_ gA)(b:r_ (TE×TE)):Prop:=
 ∀(d:r_ (Ch×Obj)) (s:Go) (c:St) (H:Hp) (Q:r_ (V×V)->Hp->Prop),Inv X d c H s->N_ b c H Q->
  wpAny (model X.prog X.w) X.A (evalPairs^pairTrees keys a X.env pos) (λg h=>∃e f,Inv X d c f h/\VV e g/\Q e f) X.xe s
theorem VF:cw X pos [] [] []:=λa s b H Q I h=>pairTrees_nil_walk #[[],H,I,.nil,h]
theorem S2(i:PE X k f)(j:PE X v g)(l:cw X pos d e a):
  cw X pos (P3 k::d) (v::e) ((f,g)::a):=λD s b H Q I h=>
 pairTrees_cons_walk (thn (i _ s b H _ I h) λu m #[x,n,o,p,q]=>thn (j _ m b n _ o q) λE r #[y,H2,t,w,z]=>
  thn (l _ r b H2 _ t z) λF G #[J,A,B,c,C]=>#[_,A,B,.cons #[p,w] c,C])
def JS(a more:r_ (Key×V)):r_ (Key×V):=more.foldl (λb c=>putK b c.1 c.2) a
theorem KV.merge:∀{a:r_ (Key×V)}{d:r_ (Key×Db)}{b:r_ (Key×V)}{c:r_ (Key×Db)},KV a d->KV b c->KV (JS b a)^merged c d:=by
 intro a d b c r
 induction r generalizing b c with
 |nil=>intro q; exact q
 | @cons p q g i h t e=>
  intro f
  exact e (by
   have:=f.put p.1 h.2
   simp_all)
theorem FY:∀(more a:r_ (Key×V)),(JS a more).length<=a.length+more.length
 |[],a=>by show a.length<=a.length+0; lk
 |p::r,a=>by
  have b:=FY r^putK a p.1 p.2;have c:=Et a p.1 p.2;show(JS _ r).length<=_
  grind
theorem Jo:∀{d:r_ (Key×V)}{f:r_ (Db×Db)},VV (d.map λg=>(kV g.1,g.2)) f->∃e,Carries (A7 P w) f e/\KV d e
 |[],_,r=>by cases r; exact#[[],iQ,.nil]
 | p::d,_,r=>by
  cases r with
  |@cons a b j k h t=>
   let#[e,c,q]:=Jo t;let#[l,i]:=b;exact#[(p.1,i)::e,#[GR h.1,rfl,c],.cons #[rfl,h.2] q]
def aM(b:r_ (TE×TE)):TE:=λd H Q=>∀p,H p=o_->N_ b d (Al H p^.dK []) λe H2=>H2 p=P3^.dK []/\∃a:r_ (Key×V),e=a.map (λc=>(kV c.1,c.2))/\a.length<=15/\Q (.ref p)^Al H2 p^.dK^JS [] a
theorem VN(h:cw X pos keys b d)(f:keys.all (·.isSome)=p_)(m:keys.length=b.length)(n:keys≠[])
  (j:keys.length<=15):PE X (.Dict keys b pos)^aM d:=by
 intro p s r H Q I q;have t:=I.hok.fresh^On s.heap.objs.size;have u:=I.laid (a:=s.heap.objs.size) (o:=.dK []) (h':=s.heap.push {cls:=.type "dict",data:=.dict #[]}) (t':=s.toks) (λ_ _ q=>Ev _ q) (On _)^Na s.heap I.big;refine wpAny_Dict_walk (knd:=A7 X.prog X.w) f m n j^thn (h p _ r _ _ u^q _ t) λM N zz=>?_;let#[O,H2,l,k,e,g,v,R,x]:=zz;subst v;let#[y,c,A]:=Jo (P:=X.prog) (w:=X.w) k;let#[z,B,C,D,E]:=XY l.hok e;cases D;refine#[y,c,E,λh' i F=>#[.ref s.heap.objs.size,_,?_,rfl,x]]
 have G:(JS [] g).length<=sizeLine:=by
  have J:=FY g [];simp only[hZ]at J;simp only[gn]; lk
 have K:∃q,h'.get? s.heap.objs.size=P3 q:=let #[q,_,_,L,_]:=i; #[q,L]
 exact MD l (by simp only[e]; exact iQ) F K^Ov G B (A.merge .nil) i
structure M1 (X:Cx) (o:gA) (m:Str) (apos:Pos) (e:gA) (cpos:Pos):Prop where
 base:attributeBase o m X.env^eval o X.env=eval o X.env
 few:((backTo cpos^starEach [e] X.env).all (λx=>!x.1)&&(backToKw cpos^keywordEach [] X.env).all (λx=>x.1.isSome)
  && decide (([e]:List gA).length+([]:List jf).length+(if([]:List jf).isEmpty then 0 else 1)<30))=p_
 line:(apos.endLine==cpos.line)=p_
 trees:backTo cpos^starEach [e] X.env=[(q_,eval e X.env)]
structure M2 (X:Cx) (o:gA) (m:Str) (apos:Pos) (e f:gA) (cpos:Pos):Prop where
 base:attributeBase o m X.env^eval o X.env=eval o X.env
 few:((backTo cpos^starEach [e,f] X.env).all (λx=>!x.1)&&(backToKw cpos^keywordEach [] X.env).all (λx=>x.1.isSome)
  && decide (([e,f]:List gA).length+([]:List jf).length+(if([]:List jf).isEmpty then 0 else 1)<30))=p_
 line:(apos.endLine==cpos.line)=p_
 trees:backTo cpos^starEach [e,f] X.env=[(q_,eval e X.env),(q_,eval f X.env)]
def cx(H:Hp)(a:Ch):Prop:=(∃b,Rd H a^.dK b)\/∃b,Rd H a^.dT b
theorem Oh(I:Inv X k l H s)(d:cx H a):
  s.TypeIs (.ref a) "dict"/\(∀b,fj a=.ref b->∃c,s.heap.get? b=P3 c/\c.dict=o_)/\(a==sysModules)=q_:=by
 rcases d with⟨g,e⟩|⟨g,e⟩
 .let#[_,h,m,_,f]:=Fb I.hok e
  refine#[f.typeIs,λb q=>?_,h];cases q;let#[c,_,_,i,j,_]:=f;exact#[c,i,j.2.1]
 .let#[_,h,n,_,f]:=Hb I.hok e
  refine#[f.typeIs,λb q=>?_,h];cases q;let#[c,_,_,i,j,_]:=f;exact#[c,i,j.2.1]
section

theorem ZF(t:A.units+1<cLine)(I:Inv X zG σ H s)(g:zy H a y o)(n:RelV y u)(h:∀p q,Inv X zG σ H q->RelV (o.getD .non) p->Q p q):
  wpAny (model X.prog X.w) A (call (.builtin "dict.get") [.ref a,u]) Q E s:=by
 rcases g with⟨i,k,e,j,l⟩|⟨i,k,b,e,j,v,l⟩
 .subst j
  let#[z,m,B,c,f]:=Fb I.hok e;refine lK PySem.F.slot_dict_get f.typeIs PySem.F.entry_dict_get (PySem.F.args_dict_get_2 _ _) (meets_dict_get (A7 X.prog X.w) a (GR n) m) #[_,f.mapOf,h _ _ (I.tok _) ?_];rw[l];exact(c.val k).getD rfl
 .subst j
  cases(n);let#[z,m,x,c,f]:=Hb I.hok e;refine lK PySem.F.slot_dict_get f.typeIs PySem.F.entry_dict_get (PySem.F.args_dict_get_2 _ _) (meetsH_dict_get _ a b m) #[jJ t,k,x,Fq I.hok v,f,h _ _ (I.tok _) ?_];rw[l];exact(c.val k).getD rfl
theorem ZE(v:A.units+1<cLine)(I:Inv X zG σ H s)(g:zy H a y o)(n:RelV y u)(p:RelV d r)(h:∀q t,Inv X zG σ H t->RelV (o.getD d) q->Q q t):
  wpAny (model X.prog X.w) A (call (.builtin "dict.get") [.ref a,u,r]) Q E s:=by
 rcases g with⟨i,k,e,j,l⟩|⟨i,k,b,e,j,x,l⟩
 .subst j
  let#[z,m,C,c,f]:=Fb I.hok e;refine lK PySem.F.slot_dict_get f.typeIs PySem.F.entry_dict_get (PySem.F.args_dict_get_3 _ _ _) (meets_dict_get_default (A7 X.prog X.w) a (GR n) m r) #[_,f.mapOf,h _ _ (I.tok _) ?_];rw[l];exact(c.val k).getD p
 .subst j
  cases(n);let#[z,m,B,c,f]:=Hb I.hok e;refine lK PySem.F.slot_dict_get f.typeIs PySem.F.entry_dict_get (PySem.F.args_dict_get_3 _ _ _) (meetsH_dict_get_default _ a b m r) #[jJ v,k,B,Fq I.hok x,f,h _ _ (I.tok _) ?_];rw[l];exact(c.val k).getD p
end
def X9(d ty:TE):TE:=λb H Q=>d b H λx c=>∃a,x=.ref a/\cx c a/\ty b c λy H2=>∃o,zy H2 a y o/\Q (o.getD .non) H2
def X8(e ty f:TE):TE:=λb H Q=>e b H λx c=>∃a,x=.ref a/\cx c a/\ty b c λy H2=>f b H2 λz d=>∃o,zy d a y o/\Q (o.getD z) d
section

theorem TD(j:X.A.units+1<cLine)(k:PE X o td)(l:PE X e ty)(m:M1 X o "get" apos e cpos):PE X (.Call (.Attribute o "get" apos) [e] [] cpos)^X9 td ty:=by
 intro D s c H Q I h;refine wpAny_Call_method m.base m.few m.line PySem.F.plainAttrs_dict PySem.F.slot_dict_get PySem.F.type_dict_get^thn (k _ s c H _ I h) λu n zz=>?_;let#[x,p,i,q,a,ex,d,r]:=zz;subst ex;obtain rfl:u=fj a:=q;let#[t,v,_]:=Oh i d;exists t,v;rw[m.trees];refine jH rfl (kG^iw^thn (l _ n c p _ i r) λE G zz=>?_);let#[y,H2,w,z,J,g,B]:=zz;exact jW^ZF j w g z λK L C b=>#[_,H2,C,b,B]
theorem TC(j:X.A.units+1<cLine)(k:PE X o td)(l:PE X e ty)(n:PE X f tx)(m:M2 X o "get" apos e f cpos):PE X (.Call (.Attribute o "get" apos) [e,f] [] cpos)^X8 td ty tx:=by
 intro N s b H Q I h;refine wpAny_Call_method m.base m.few m.line PySem.F.plainAttrs_dict PySem.F.slot_dict_get PySem.F.type_dict_get^thn (k _ s b H _ I h) λu p zz=>?_;let#[x,q,i,r,a,ex,d,t]:=zz;subst ex;obtain rfl:u=fj a:=r;let#[v,w,_]:=Oh i d;exists v,w;rw[m.trees]
 exact jH rfl (kG (iw (thn (l _ p b q _ i t) λO B #[y,H2,C,D,E]=>
  iw (thn (n _ B b H2 _ C E) λP R #[z,G,J,K,S,g,L]=>jW^ZE j J g D K λT U M c=>#[_,G,M,c,L]))))
end
end L2
set_option maxHeartbeats 4000000
namespace L2
section
theorem O2:∀(f:r_ (Str×jC)) (h:r_ (Str×Ch)),(∀x,(x,gv)∈f->∃c,g.cells.lookup x=P3 c)->(∀x c,h.lookup x=P3 c->g.cells.lookup x=P3 c)->
  ∃i,(forIn f h fun(x:Str×jC) (r:r_ (Str×Ch))=>(if(x.2==gv)=p_ then do let a ←cellOf g x.1; pure^i_ ((x.1,a)::r) else pure^i_ r:Sem^ForInStep^r_ (Str×Ch)))=(pure i:Sem _) /\
   (∀x c,i.lookup x=P3 c->g.cells.lookup x=P3 c)/\(∀x,((x,gv)∈f\/∃c,h.lookup x=P3 c)->∃c,i.lookup x=P3 c):=by
 intro f
 induction f with
 |nil=>
  intro h _ m;exact#[h,rfl,m,λx d=>d.elim (λz=>absurd z^by simp) λz=>z]
 | cons p r w=>
  intro h q m;let#[n,k]:=p
  by_cases s:k=gv
  .subst s
   let#[c,y]:=q n Op;have j:cellOf g n=pure c:=by simp only[cellOf,y]
   let#[i,e,a,b]:=w ((n,c)::h) (λx d=>q x^TM _ d) (λx o d=>by
    rw[jE]at d;cases t:x==n with
    |true=>
     rw[t]at d;have u:P3 c=P3 o:=d;injection u with u;subst u
     have:x=n:=by simpa using t
     rw[this]; exact y
    |false=>rw[t]at d; exact m x o d)
   refine#[i,?_,a,λx d=>b x ?_]
   .rw[kU]
    simp only[beq_self_eq_true,if_true,j,pure_bind];exact e
   .by_cases l:x=n
    .subst l
     exact .inr #[c,by simp[jE]]
    .rcases d with d|⟨o,d⟩
     .rcases TW.mp d with d|d
      .cases d; exact absurd rfl l
      .exact .inl d
     .refine .inr #[o,?_]
      have:(x==n)=q_:=by simpa using l
      simp only[jE,this];exact d
  .have v:(k==gv)=q_:=by simpa using s
   let#[i,e,a,b]:=w h (λx d=>q x^TM _ d) m;refine#[i,?_,a,λx d=>b x ?_]
   .rw[kU]
    simp only[v,ig,if_false,pure_bind];exact e
   .rcases d with d|d
    .rcases TW.mp d with d|d
     .cases d; exact absurd rfl s
     .exact .inl d
    .exact .inr d
theorem Jn(h:∀x,(x,gv)∈scope.names->∃c,env.cells.lookup x=P3 c):
  ∃d,closureFor scope env=pure d/\(∀x c,d.lookup x=P3 c->env.cells.lookup x=P3 c)/\(∀x,(x,gv)∈scope.names->∃c,d.lookup x=P3 c):=by
 let#[d,e,a,b]:=O2 _ [] h (λx c f=>by simp at f);refine#[d,?_,a,λx f=>b x^.inl f];simp[closureFor]
 simp_all

theorem ME(I:Nat->Go->Prop)
  (B:∀n s,I n s->wpAny (model prog w) A (pyNext F) (λr d=>match r with
   |none=>R (.ok .next) d
   | some v=>wpAny (model prog w) A (letOwnedTupleGo a F v) (λ_ e=>wpAny (model prog w) A (assign a b v) (λ_ i=>
     wpAny (model prog w) A (forIn y p_ λc r=>if r=p_ then do let ok ←isTrue c b^eval c b; pure^i_ ok else pure^i_ r) (λok f=>
      if ok=p_ then wpAny (model prog w) A (eval t b) (λx j=>
       wpAny (model prog w) A (call (.builtin "list.append") [z,x]) (λ_ k=>∃m,m<n/\I m k) (λ_ _=>False) j) (λ_ _=>False) f
      else ∃m,m<n/\I m f) (λ_ _=>False) i) (λ_ _=>False) e) (λ_ _=>False) d) (λ_ _=>False) s)
  (n:Nat) (h:I n s):
  codeAny (model prog w) A (.compLoop (.ListComp t [#[a,u,y,0]] p pos) 0 F z b) R s:=by
 refine codeAny_loop rfl I (λn s G=>?_) n h;refine wpAny_noted ?_;refine Cn^kM^Cn^gQ (B n s G) (λr d l=>?_) λ_ _ g=>g.elim;cases r with
 |none=>exact Sc l
 | some v=>
  refine Cn^gQ l (λ_ e q=>?_) λ_ _ g=>g.elim;refine Cn^gQ q (λ_ i C=>Cn^gQ C (λok f o=>?_) λ_ _ g=>g.elim) λ_ _ g=>g.elim;cases ok with
  |false=>exact Sc #[rfl,o]
  |true=>
   exact Cn^Cn^gQ o (λx j D=>Cn^gQ D (λ_ k E=>Sc^Sc #[rfl,E]) λ_ _ g=>g.elim) λ_ _ g=>g.elim
end
def Ap(X:Cx)(a:i6)(b:r_ Str)(c:r_ (Str×Ch))(C:Ch)(s:Go)(H:Hp)(ex:r_ Ch):Cx where
 prog:=X.prog
 w:=X.w
 K:=X.K
 mg:=X.mg
 base:=X.base
 A:=X.A
 N:=b
 s₀:=s
 H₀:=H
 env:=compEnvC a c C X.env
 outer:=X.stack
 stack:=X.stack
 ex:=ex
 fn:=λ_=>q_
 calm:=p_
 pn:=[]
 xe:=λ_ _=>False
def Cp(a:r_^s_ Nat)(b:St):St:=a.map λo=>match o with
 |some i=>(b[i]?).getD o_
 |none=>o_
def Vk(o:s_ jC):Bool:=match o with
 |some .cell=>p_
 |some .free=>p_
 |_=>q_
theorem Pu(h:Vk o=p_):o=P3 .cell\/o=P3 .free:=by
 unfold Vk at h
 split at h
 .grind
 .grind
 .cases h
def isFree(o:s_ jC):Bool:=match o with
 |some .free=>p_
 |_=>q_
theorem RE(h:isFree o=p_):o=P3 .free:=by
 unfold isFree at h
 split at h
 .rfl
 .cases h
def Tr(o:s_ jC):Bool:=match o with
 |some .local=>p_
 |_=>q_
theorem Tq(h:Tr o=p_):o=P3 .local:=by
 unfold Tr at h
 split at h
 .rfl
 .cases h
def Tu(k:ScopeKind):Bool:=match k with
 |.function=>p_
 |_=>q_
theorem Tt(h:Tu k=p_):k=.function:=by
 unfold Tu at h
 split at h
 .rfl
 .cases h
def dY(b a:i6)(p:Str×jC):Bool:=match p.2 with
 |.cell=>q_
 |.free=>Vk^a.names.lookup p.1
 |.local=>Tr^b.names.lookup p.1
 |_=>p_
def eG(x:s_ Str)(y:Str):Bool:=match x with
 |some z=>z==y
 |none=>q_
theorem Yz(h:eG x y=p_):x=P3 y:=by
 unfold eG at h
 split at h
 .grind
 .cases h
def Jp(b a:i6)(N:r_ Str):r_ Str->r_^s_ Nat->Bool
 |[],[]=>p_
 |x::c,P3 j::d=>isFree^b.names.lookup x&&eG (N[j]?) x&&Vk^a.names.lookup x&&Jp b a N c d
 |_::c,o_::d=>Jp b a N c d
 |_,_=>q_
def Ge(b a:i6)(N c:r_ Str)(d:r_^s_ Nat):Bool:=Tu b.kind&&b.names.all^dY b a&&Jp b a N c d
theorem E4:∀{c:r_ Str}{a:r_^s_ Nat},Jp d b N c a=p_->a.length=c.length
 |[],[],_=>rfl
 |x::e,P3 j::a,h=>by
  unfold Jp at h;rw[ZB]at h;simp only[eq,eq,E4 h.2]
 |x::e,o_::a,h=>by
  unfold Jp at h;simp only[eq,eq,E4 h]
 |[],P3 _::_,h=>by cases h
 |[],o_::_,h=>by cases h
 |_::_,[],h=>by cases h
theorem MF:∀{f:r_ Str}{d:r_^s_ Nat},Jp e a N f d=p_->∀{k:Nat}{x:Str}{j:Nat},f[k]?=P3 x->d[k]?=P3^P3 j->
  e.names.lookup x=P3 .free/\N[j]?=P3 x/\(a.names.lookup x=P3 .cell\/a.names.lookup x=P3 .free)
 |[],_,_,k,x,j,b,_=>by simp at b
 |_::_,[],h,_,_,_,_,_=>by delta Jp at h; cases h
 | y::g,P3 i::d,h,k,x,j,b,c=>by
  unfold Jp at h;simp only[ZB,ZB,ZB]at h;cases k with
  |zero=>
   simp at b c;subst b c;exact#[RE h.1.1.1,Yz h.1.1.2,Pu h.1.2]
  |succ k=>exact MF h.2 (k:=k) (by simpa using b)^by simpa using c
 |y::g,o_::d,h,k,x,j,b,c=>by
  unfold Jp at h;cases k with
  |zero=>simp at c
  |succ k=>exact MF h (k:=k) (by simpa using b)^by simpa using c
theorem Q5{k:Nat}(h:(Cp a b)[k]?=P3^P3 v):∃j,a[k]?=P3^P3 j/\b[j]?=P3^P3 v:=by
 unfold Cp at h;rw[fo]at h;cases e:a[k]? with
 |none=>simp_all
 | some o=>
  rw[e]at h;cases o with
  |none=>cases h
  |some j=>
   cases q:b[j]? with
   |none=>simp_all
   |some w=>simp_all
theorem DL{a:Env}:∀{b:r_ (Str×jC)}{x:Str},b.lookup x=P3 .free->
  (b.map fun(n,k)=>if(k==gv&&a.scope.kind==.function&&a.kindOf n==P3 .cell)then(n,k9)else(n,k)).lookup x=P3 .cell \/
  (b.map fun(n,k)=>if(k==gv&&a.scope.kind==.function&&a.kindOf n==P3 .cell)then(n,k9)else(n,k)).lookup x=P3 .free
 |[],_,h=>by simp at h
 | (n,k)::r,x,h=>by
  have d:=@DL a r x;show jF x ((if(k==gv&&a.scope.kind==.function&&a.kindOf n==P3 .cell)=p_ then(n,k9)else(n,k))::_)=_\/jF x ((if(k==gv&&a.scope.kind==.function&&a.kindOf n==P3 .cell)=p_ then(n,k9)else(n,k))::_)=_
  by_cases e:(k==gv&&a.scope.kind==.function&&a.kindOf n==P3 .cell)=p_
  .rw[if_pos e]
   cases c:x==n with
   |true=>exact .inl^by simp only[jE,c]
   |false=>
    simp only[jE,c]at h ⊢;exact d h
  .rw[if_neg e]
   cases c:x==n with
   |true=>
    simp_all
   |false=>
    simp only[jE,c]at h ⊢;exact d h
theorem OG(c:∀y∈a.names,y.2≠.cell)(h:(relabel a env).names.lookup x=P3 .cell\/(relabel a env).names.lookup x=P3 .free):(x,gv)∈a.names:=by
 have e:(x,k9)∈(relabel a _).names\/(x,gv)∈(relabel a _).names:=h.elim (λz=>.inl^PySem.mem_of_lookup z) λz=>.inr^PySem.mem_of_lookup z
 have d:∀k,(k=.cell\/k=.free)->(x,k)∈(relabel a env).names->(x,gv)∈a.names:=by
  intro k f b;unfold relabel at b
  grind
 exact e.elim (d _ (.inl rfl))^d _ (.inr rfl)
section

structure zq (X:Cx) (sc:i6) (N':List Str) (js:List^Option Nat):Prop where
 kind:sc.kind=.function
 cell:∀y∈sc.names,y.2≠.cell
 free:∀x,(x,gv)∈sc.names->X.env.scope.names.lookup x=P3 .cell\/X.env.scope.names.lookup x=P3 .free
 names:∀y∈sc.names,y.2=.local->sc.names.lookup y.1=P3 .local
 cap:Jp sc X.env.scope X.N N' js=p_
theorem zq.of(h:Ge c X.env.scope X.N d f=p_):zq X c d f:=by
 unfold Ge at h;rw[ZB,ZB,gI]at h;let#[#[g,a],i]:=h;refine#[Tt g,λy b e=>?_,λx j=>?_,λy b e=>?_,i]
 .have q:=a y b
  unfold dY at q
  simp_all
 .have q:=a _ j
  exact Pu q
 .have q:=a y b
  unfold dY at q;rw[e]at q;exact Tq q
theorem NQ(I:Inv X zG σ H s)(W:X.calm=p_)(O:zq X D E js)
  (d:∀x c,B.lookup x=P3 c->X.env.cells.lookup x=P3 c) (k:∀x,(x,gv)∈D.names->∃c,B.lookup x=P3 c)
  (G:∀b∈F,FO X zG H b) (Y:∀b∈F,∃o,s.heap.get? b=P3 o)
  (L:f.Ns (s.heap.objs.size+1) λ_=>o_) (J:∀b o,s.heap.get? b=P3 o->f.get? b=P3 o) (Z:∃n,f.get? s.heap.objs.size=P3 {cls:=.type "list",data:=.seq #[] n}):
  Inv (Ap X D E B (s.heap.objs.size+1) s H F) [] (Cp js σ) (Al H s.heap.objs.size^.lst []) {s with heap:=f,toks:=tk}:=by
 have fr:∀a,s.heap.objs.size<=a->H a=o_:=λa ha=>I.hok.fresh ha
 have h:∀x c,B.lookup x=P3 c->c<s.heap.objs.size:=λx c e=>by
  let#[v,q]:=I.cell x c^d x c e;exact q.lt
 have ok:(Ap X D E B (s.heap.objs.size+1) s H F).Ok:=by
  refine#[I.ok.mod,O.kind,I.ok.glob,I.ok.blt,gq _,λx y c C M=>I.ok.inj x y c (d x c C)^d y c M,λx N=>?_,λx c N=>?_,λ_=>I.ok.hd W,I.ok.frames,.inl rfl,λb t=>#[?_,λx c e=>?_],I.bs,f_ I.ok.bsz I.sz,λb o e t=>?_,λb t P=>?_,I.stack,I.vP]
  .exact k x^OG (env:=X.env) O.cell N
  .exact absurd (show q_=p_ from N) f6
  .let#[o,e]:=Y b t
   exact f9^iV^Tk e
  .exact(G b t).2.2.2.2.1 x c^d x c e
  .rcases(G b t).2.2.2.1 with z|z
   .exact I.ok.noex b o e z
   .have C:b<X.base.objs.size:=Tk e
    exact absurd (gD C^f_ I.ok.bsz z)^gS _
  .rcases TW.mp^I.vw b P with z|z
   .exact(G b t).2.1 z
   .exact(G b t).2.2.1 z
 exists ok,rfl,I.bare,?_,#[_,L,λi x v C M h3=>?_],λx c e=>?_,?_,λx c e=>?_,λp hp=>absurd (show p∈([]:r_ (Ch×Obj))from hp)^by simp,?_
 .exact Un.laid J (On _)^fr _^On _
 .let#[j,e1,e2]:=Q5 M
  let#[T,c2,A]:=MF O.cap C e1;let#[m,_,hl]:=I.loc;let#[u,r,l]:=hl j x v c2 e2^.inr A;refine#[u,r,.inr #[DL T,?_]]
  rcases l with⟨l1,_⟩|⟨_,c,l2,l3⟩
  .have Q:X.env.scope.names.lookup x=P3 .local:=l1
   rcases A with A|A <;>(rw[Q]at A; cases A)
  .let#[R,U]:=k x^PySem.mem_of_lookup T
   have:R=c:=fu^(d x R U).symm.trans l2
   subst this;let#[S,w,g]:=id l3;exact#[R,U,S,J _ _ w,g]
 .let#[v,S,w,g]:=I.cell x c^d x c e
  exact#[v,S,J _ _ w,g]
 .show Al H s.heap.objs.size (.lst []) (s.heap.objs.size+1)=o_
  rw[AL^Nat.succ_ne_self _];exact fr _^gq _
 .show Al H s.heap.objs.size (.lst []) c=o_
  rw[AL^f9^h x c e];exact I.qA x c^d x c e
 .refine I.hok.laid J (On _) ?_
  let#[n,e]:=Z;exact#[T0 _,[],n,.nil,e]
 .unfold Cp
  show(js.map _).length=E.length;rw[No];exact E4 O.cap
theorem Un.but(u:Un fs ex H d h a)(k:h.get? C=o_)(g:∀b,b≠C->f.get? b=a.get? b):Un fs ex H d h f:=by
 have i:∀{b:Ch}{o:Obj},h.get? b=P3 o->b≠C:=λ{b o} e z=>by simp_all
 refine#[λb o e n a c=>(g b^i e).trans^u.keep b o e n a c,λb o e n a c=>?_,u.free,λb o e a=>?_,u.qI,u.vY,u.vV]
 .let#[j,q]:=u.slot b o e n a c
  exact#[j,(g b^i e).trans q]
 .let#[l,q]:=u.there b o e a
  simp_all
theorem Jb(I:Inv X zG σ H s)(n:∀b∈g,FO X zG H b)(p:s.heap.objs.size<=C)
  (J:Inv (Ap X j k l C s H g) c m d f) (h:∀b,b≠C->h'.get? b=f.heap.get? b):Inv X zG σ d {f with heap:=h'}:=by
 have r:d C=o_:=J.free
 refine I.call' J.os (Un.but J.base (by
  cases e:s.heap.get? C with
  |none=>rfl
  |some o=>exact absurd (Tk e)^kg.mpr p) h) (λa o e=>(J.hok a o e).vX (λb u i q=>(h b (λz=>by
   simp_all)).trans q) (λ_ q=>q) λ_ _ q=>q) J.bare λb i=>?_
 .let#[y,t,A,v,w,x]:=n b i
  exact#[v,t,w,x]
end
def cQ(X:Cx)(a:r_ gA)(t:TT):Prop:=
 ∀(d:r_ (Ch×Obj)) (s:Go) (b:St) (H:Hp) (Q:Bool->Hp->Prop),Inv X d b H s->t b H Q->
  wpAny (model X.prog X.w) X.A (forIn a p_ λc r=>if r=p_ then do let ok ←isTrue c X.env^eval c X.env; pure^i_ ok else pure^i_ r) (TP X d b Q) X.xe s
def dD:TT:=λ_ H Q=>Q p_ H
theorem VH:cQ X [] dD:=λa s b H Q I h=>wpAny_tests_nil #[H,I,h]
theorem VG(h:PT X c t):cQ X [c] t:=λb s a H Q I q=>wpAny_tests_one^h _ s a H Q I q
def SU(X:Cx)(e:i6)(f:r_ Str)(A:r_^s_ Nat)(B h:gA)(j:r_ gA)(D:TI):TE:=λq H Q=>D q H λJ r=>∀l,r l=o_->X.K.lookup l=o_->∀k C s n o,∃(g:TG) (t:TT) (u:TE) (W:Nat->Nat->St->Hp->Prop),
 PG (Ap X e f k C s n o) B g/\cQ (Ap X e f k C s n o) j t/\PE (Ap X e f k C s n o) h u/\(∃m,W 0 m (Cp A q)^Al r l^.lst [])/\∀i m v a,W i m v a->
 (J.stop i a/\Q (.ref l) a)\/(J.go i a/\∀x H2,J.yld i a x H2->g x v H2 λd E=>t d E λb w=>if b=p_ then u d w λy z=>∃p,z l=P3^.lst p/\p.length<sizeLine/\∃c,c<m/\W (i+1) c d^Al z l^.lst (p++[y]) else ∃c,c<m/\W (i+1) c d w)
section

theorem K9{Q:VK}{W:Nat->Nat->St->Hp->Prop}
  (I:Inv X zG σ H s) (hf:∀b∈a,FO X zG H b) (a3:∀b∈a,b<s.heap.objs.size) (hC:s.heap.objs.size<=C)
  (T:Turn X.prog X.w X.K tg J a it U)
  (hg:PG (Ap X sc N' h C s H a) tg g) (ht:cQ (Ap X sc N' h C s H a) ifs tt) (he:PE (Ap X sc N' h C s H a) elt te)
  (hW:∀i m k c,W i m k c->
   (J.stop i c/\Q (.ref l) c)\/(J.go i c/\∀x H2,J.yld i c x H2->g x k H2 λY H3=>tt Y H3 λb z=>if b=p_ then te Y z λy H5=>∃E,H5 l=P3^.lst E/\E.length<sizeLine/\∃f,f<m/\W (i+1) f Y^Al H5 l^.lst (E++[y]) else ∃f,f<m/\W (i+1) f Y z))
  (hR:∀k c G,Inv (Ap X sc N' h C s H a) [] k c G->Q (.ref l) c->R (.ok .next) G)
  (I3:Inv (Ap X sc N' h C s H a) [] zH H0 s3) (t3:U 0 s3.heap) (f3:∀b∈a,H0 b=o_) (w0:W 0 m0 zH H0):
  codeAny (model X.prog X.w) X.A (.compLoop (.ListComp elt [#[tg,iter,ifs,0]] sc pos) 0 (.ref it) (.ref l)^compEnvC sc h C X.env) R s3:=by
 have j:∀{c:Hp},(∀b∈a,c b=o_)->∀b∈a,FO (Ap X sc N' h C s H a) [] c b:=λhn b t=>by
  have q:=I3.ok.exf b t;refine#[hn b t,q.1,I3.ok.exfs b t,.inl t,q.2,λp hp=>absurd (show p∈([]:r_ (Ch×Obj))from hp)^by simp]
 refine ME (λn G=>∃i k c,Inv (Ap X sc N' h C s H a) [] k c G/\U i G.heap/\(∀b∈a,c b=o_)/\W i n k c) ?_ m0 #[0,zH,H0,I3,t3,f3,w0];rintro n s4 ⟨i,L,z,I4,M,N,w4⟩
 rcases hW i n L z w4 with⟨O,qn⟩|⟨go,step⟩
 .refine thn (T.done (Ap X sc N' h C s H a) rfl rfl rfl rfl i [] s4 L z (λ_ _=>False) I4 (j N) M O) λr s5 zz=>?_;let#[hr,I5]:=zz
  subst hr;exact hR L z s5 I5 qn
 .refine thn (T.item (Ap X sc N' h C s H a) rfl rfl rfl rfl i [] s4 L z (λ_ _=>False) I4 (j N) M go) λr s5 zz=>?_;let#[u,hr,h5]:=zz
  subst hr;refine thn h5 λ_ s6 zz=>?_;let#[x,H6,I6,r6,y6,B,a0]:=zz;have a1:=I6.pinned (j a0)^T.obj _ _ B;refine thn (hg _ s6 L H6 x u _ a1 r6^step x H6 y6) λ_ s7 zz=>?_;let#[Z,H7,I7,q7]:=zz
  have again:∀{zI:St}{D:Hp}{F:Go}{f:Nat},Inv (Ap X sc N' h C s H a) ([]++JF a s6.heap) zI D F->f<n->W (i+1) f zI D->∃m,m<n/\∃i k c,Inv (Ap X sc N' h C s H a) [] k c F/\U i F.heap/\(∀b∈a,c b=o_)/\W i m k c:=λ{zI D F f} P S w9=>by
   refine#[f,S,i+1,zI,D,P.vk,T.keep _ _ _ B λb t o e=>(P.pin (b,o)^f8 _^f8 _^EU t e).1,λb t=>?_,w9];let#[o,e,d]:=T.obj _ _ B b t;exact(P.pin (b,o)^f8 _^f8 _^EU t e).2.1
  refine thn (ht _ s7 Z H7 _ I7 q7) λok s8 zz=>?_;let#[H8,I8,q8]:=zz;cases ok with
  |false=>
   have a2:∃f,f<n/\W (i+1) f Z H8:=q8;let#[f,S,w8]:=a2;show ∃m,m<n/\_;exact again I8 S w8
  |true=>
   refine thn (he _ s8 Z H8 _ I8 q8) λy F zz=>?_;let#[yv,D,P,ry,q9]:=zz;let#[E,hl,hz,f,S,w9]:=q9;refine thn (BP (X:=Ap X sc N' h C s H a) _ F Z D (.ref l) [yv] (.ref l) [y] (λv c=>v=.non/\c=Al D l^.lst (E++[yv])) P rfl (.cons ry .nil) #[l,E,yv,rfl,rfl,hl,hz,rfl,rfl]) λ_ sa zz=>?_;let#[v,Ha,Ia,_,_,eH]:=zz;subst eH;exact again Ia S w9
theorem VO(Z:X.calm=p_)(N':r_ Str)(js:r_^s_ Nat)(hi:PI X tg iter wi)
  (hB:Ge sc X.env.scope X.N N' js=p_)
  (hs:∀x,foldedSetIterable iter X.env x=pure x:=by intro _; rfl):
  PE X (.ListComp elt [#[tg,iter,ifs,0]] sc pos) (SU X sc N' js tg elt ifs wi):=by
 intro U s M H Q I h;have O:zq X sc N' js:=zq.of hB;let#[z,l,P,B]:=Jn (scope:=sc) (env:=X.env) λx hx=>I.ok.has x^O.free x hx;simp only[eval_ListComp];refine wpAny_comprehension_free (use:=o_) rfl hs l O.kind O.names (thn (hi U s M H _ I h) λv s1 h1=>thn h1 λa0 c h2=>?_);let#[V,G,tn,J,H2,e,C,T,p,L,hq]:=h2;subst e
 have r:X.K.lookup c.heap.objs.size=o_:=by
  cases q:X.K.lookup c.heap.objs.size with
  |none=>rfl
  |some o=>exact absurd (Tk^C.kIn _ _ q)^gS _
 let#[g,tt,te,W,hg,ht,he,#[m0,w0],hW]:=hq c.heap.objs.size (C.hok.fresh^On _) r z (c.heap.objs.size+1) c H2 G;refine iA^wpAny_newFunctionEnv O.cell (by intro y hy; simp at hy) (λf d a=>?_) O.kind
 dsimp only at d a ⊢
 generalize t:c.heap.push {cls:=.type "list",dict:=o_,data:=.seq ([]:r_ Db).toArray}=Hh at d a ⊢;have i:Hh.objs.size=c.heap.objs.size+1:=by rw[←t,iT]
 have D:∀b∈G,b<c.heap.objs.size:=λb j=>by
  let#[o,e,_]:=T.obj _ _ p b j;exact Tk e
 have E:∀b o,c.heap.get? b=P3 o->f.get? b=P3 o:=λb o e=>a.extBut b o (by simp only[i]; exact f9^iV^Tk e)^Ev _ (t▸Ev _ e);have hD:∃n,f.get? c.heap.objs.size=P3 {cls:=.type "list",data:=.seq #[] n}:=#[_,a.extBut _ _ (by simp only[i]; exact f9^mh _)^Ev _ (t▸UF _ rfl)]
 have I3:∀u,Inv (Ap X sc N' z (c.heap.objs.size+1) c H2 G) [] (Cp js M) (Al H2 c.heap.objs.size^.lst []) {c with heap:=f,toks:=u}:=λu=>
  NQ C Z O P B L (λb j=>let #[o,e,_]:=T.obj _ _ p b j; #[o,e]) (by rw[←i]; exact d) E hD
 have F:tn 0 f:=T.keep _ _ _ p λb j o e=>E b o e
 have R:∀b∈G,Al H2 c.heap.objs.size (.lst []) b=o_:=λb j=>by
  rw[AL^f9^D b j];exact(L b j).1
 have k:∀u,codeAny (model X.prog X.w) X.A (.compLoop (.ListComp elt [#[tg,iter,ifs,0]] sc pos) 0 (.ref V) (.ref c.heap.objs.size)^compEnvC sc z (c.heap.objs.size+1) X.env)
   (compPost (model X.prog X.w) X.A X.xe o_ (EP X U M Q) (.ref c.heap.objs.size) (c.heap.objs.size+1)) {c with heap:=f,toks:=u}:=λu=>by
  refine K9 (W:=W) (m0:=m0) (Q:=Q) C L D (gq _) T hg ht he hW (λzZ H' s' Y q'=>?_) (I3 u) F R w0;let#[m,hn,_]:=Y.loc;exact#[m,hn,λh' S=>#[.ref _,H',Jb C L (gq _) Y λb j=>S.2 b j,rfl,q']]
 rw[show(newEnv sc Hh.objs.size X.env.globals z X.env.qual o_ .none (P3 X.env) builtinsNs).locals=c.heap.objs.size+1 from i];show codeAny (model X.prog X.w) X.A (.compStart (.ListComp elt [#[tg,iter,ifs,0]] sc pos) 0 (.ref V) (.ref c.heap.objs.size)^compEnvC sc z (c.heap.objs.size+1) X.env) _ _;exact codeAny_compStart_list (k _)^T.self _ 0 _ _ _ F^k _
end
structure Fly (B:fz) (l:List Env) (a C:Ch) (dx:Option Ch) (h:fz):Prop where
 stays:B.StaysIn h
 new:B.get? a=o_
 frames:h.FunFrames B l
 obj:∃vs sl tb,h.get? a=P3 #[.ref C,dx,.fields vs,sl]/\vs[2]?=P3 .none/\vs[1]?=P3 tb/\(tb=.none\/∃T oT ts,tb=.ref T/\B.get? T=o_/\T≠a/\h.get? T=P3 oT/\oT.data=.fields ts/\3<ts.size)
section
variable {s:Shared}
theorem size_of{b:Array Db}(h:b[i]?=P3 x):i<b.size:=(kO.mp h).1
theorem K0(t:A.frames=P3 (env::outer))(R:env.frame=P3 L)(m:s.heap.FunFrames B (env::outer))(S:B.StaysIn s.heap)(y:B.get? a=o_)
  (u:s.heap.get? a=P3 #[.ref C,dx,.fields d,r]) (T:d[1]?=P3 O) (D:d[2]?=P3 .none)
  (h:∀v,Fly B (env::outer) a C dx v->s.heap.UpToSlots v->Q () {s with heap:=v}):
  wpAny M A (do let f ←frameOf env; let n ←entryPlaceOf L P; let b ←nS g f .none (rawInt L) .none n; setField (.ref a) 1 b) Q E s:=by
 have F:=size_of T;have Y:=size_of D
 have U:a∉(env::outer).filterMap (·.frame):=λq=>by
  let#[_,o,G,c]:=m.mem q;rw[u]at G;injection G with G;subst G;exact c d rfl
 refine Cn^wpAny_frameOf_fun t m R λk p=>?_;refine Cn^wpAny_entryPlaceOf λn w=>?_;delta nS newFields;refine Cn^iA ?_^w.sizeOk5 _ _ _ _ _;have H:k.get? a=P3 #[.ref C,dx,.fields d,r]:=(p.2.1 a U).trans u;have I:B.StaysIn k:=λb o q=>(p.2.1 b λz=>by rw[(m.mem z).1]at q; cases q).trans^S b o q;generalize i:({cls:=.type "traceback",dict:=o_,data:=.fields ([g,.ref L,.none,rawInt L,.none]++(if n.isEmpty then fq 6 gO else n)).toArray}:Obj)=ob;have J:(k.push ob).get? a=P3 #[.ref C,dx,.fields d,r]:=Ev _ H;refine kh J rfl F ?_;have K:k.objs.size≠a:=i7^Tk H;have V:=g7 (jS (·.setIfInBounds 1^fj k.objs.size)) J rfl
 have W:((k.push ob).update a (jS (·.setIfInBounds 1^fj k.objs.size))).get? k.objs.size=P3 ob:=by
  rw[fm _ _^gf K];exact UF k^by subst i; rfl
 have x:∀b o,b≠a->k.get? b=P3 o->((k.push ob).update a (jS (·.setIfInBounds 1^fj k.objs.size))).get? b=P3 o:=λb o X q=>by
  rw[fm _ _^gf X];exact Ev _ q
 have N:∀b o,s.heap.get? b=P3 o->(∀d,o.data≠.fields d)->b≠a:=λb o q c z=>by
  rw[z,u]at q;injection q with q;subst q;exact c d rfl
 refine h _ #[λb o q=>x b o (λz=>by rw[z,y]at q; cases q)^I b o q,y,m.of_keeps λb o q c=>?_,_,_,_,V,?_,?_,.inr #[k.objs.size,ob,_,rfl,I.fresh,K,W,by subst i; rfl,?_]] λb o q c=>?_
 .let#[j,e]:=p.2.2 b o q
  exact#[_,x b _ (N b o q c) e,rfl]
 .rw[Array.getElem?_setIfInBounds_ne^by cbv]; exact D
 .simp[F]
 .simp only[fk,fh,eq,hZ]; lk
 .let#[j,e]:=p.2.2 b o q
  exact#[j,x b _ (N b o q c) e]
theorem Fly.mark(F:Fly B l a C dx s.heap)(m:s.heap.get? a=P3 #[.ref C,dx,.fields d,f])(n:d[1]?=P3^.ref T)(p:d[2]?=P3 .none)(r:B.get? T=o_)(i:T≠a)(t:s.heap.get? T=P3 g)
  (hd:g.data=.fields h) (v:3<h.size):Fly B l a C dx (s.heap.update T (jS (·.setIfInBounds 3 x)))/\s.heap.UpToSlots (s.heap.update T (jS (·.setIfInBounds 3 x)))/\(s.heap.update T (jS (·.setIfInBounds 3 x))).get? a=P3 #[.ref C,dx,.fields d,f]:=by
 have e:∀b,b≠T->(s.heap.update T (jS (·.setIfInBounds 3 x))).get? b=s.heap.get? b:=λb u=>fm _ _^gf u
 have j:∀b o,s.heap.get? b=P3 o->(∀d,o.data≠.fields d)->b≠T:=λb o q c z=>by
  simp_all
 have k:=(e a^gf i).trans m;refine#[#[λb o q=>(e b λz=>by simp_all).trans^F.stays b o q,F.new,F.frames.of_keeps λb o q c=>#[o,(e b^j b o q c).trans q,rfl],d,f,_,k,p,n,.inr #[T,_,_,rfl,r,i,g7 _ t^Obj.isFreed_of_fields^kY hd _,kY hd _,by simp_all]],λb o q c=>#[o.slots,(e b^j b o q c).trans q],k]
theorem Ft(F:Fly B l a C dx s.heap)(h:∀c,Fly B l a C dx c->s.heap.UpToSlots c->Q () {s with heap:=c}):wpAny M A (setFlight (.ref a) o_) Q E s:=by
 let#[q,r,t,d,j,e,k]:=F.obj;refine Cn (gp d rfl e ?_)
 rcases k with rfl|⟨T,u,v,rfl,m,n,f,g,i⟩
 .exact Sc^h _ F^nU _
 .let#[o,p,_]:=F.mark d e j m n f g i
  exact kh f g i^h _ o p
theorem NS(c:A.frames=P3 (env::outer))(g:env.frame=P3 L)(F:Fly B (env::outer) a C dx s.heap)
  (h:∀d,Fly B (env::outer) a C dx d->s.heap.UpToSlots d->Q () {s with heap:=d}):wpAny M A (noteFrame (.ref a) env) Q E s:=by
 let#[D,G,H,i,j,f,p]:=F.obj;unfold noteFrame;simp only[g];refine Cn (gp i rfl f ?_)
 rcases p with rfl|⟨T,I,q,rfl,r,t,k,m,n⟩
 .rw[if_neg^by cbv]
  exact K0 c g F.frames F.stays F.new i f j h
 .rw[if_pos (show(fj T !=gO)=p_ by rfl)]
  obtain⟨x,u⟩:∃x,q[3]?=P3 x:=#[_,ja n];refine Cn^gp k m u ?_
  by_cases e:(x==rawInt L)=p_
  .rw[if_pos e]
   exact Sc^h _ F^nU _
  .rw[if_neg e]
   let#[o,v,w]:=F.mark (x:=gO) i f j r t k m n;refine Cn^kh k m n ?_;exact K0 c g o.frames o.stays o.new w f j λd y z=>h d y^v.trans z
theorem RK(d:A.frames=P3 (env::outer))(e:env.frame=P3 L)(F:Fly B (env::outer) a C dx s.heap)
  (h:∀c,Fly B (env::outer) a C dx c->s.heap.UpToSlots c->Q () {s with heap:=c}):wpAny M A (leaving env^.ref a) Q E s:=Cn^NS d e F λc f g=>Ft f λi j k=>h i j^g.trans k
theorem Fly.tail(F:Fly B (env::outer) a C dx s.heap):Fly B outer a C dx s.heap:=#[F.stays,F.new,F.frames.2.2,F.obj]
end
section
variable {os:OsState}

def Bx(C t:Ch):Obj:={cls:=.ref C,data:=.fields #[ .ref t,.none,.none,.none,.bool q_,.none]}
def cV(x:Ch)(R:Result->Go->Prop)(r:Result)(a:Go):Prop:=match r with
 |.ok (.ret v)=>v=.none/\R (.ok^.ret^.ref x) a
 |.ok _=>False
 |.error e=>R (.error e) a
theorem OH(hbase:bm.contains^.type "BaseException"=p_)(hh:A.handled=o_)
  (hx:wpAny M A x (λv s₁=>∃e dx vs sl,v=.ref e/\s₁.heap.get? C=P3^excClassObj nm q C N bs bm hdct sn sub ab col dd k0 k1 k2 k3 k5 newId /\
   s₁.heap.get? e=P3 #[.ref C,dx,.fields vs,sl]/\vs[1]?=P3 .none/\E (.ref e) s₁) E s):
  wpAny M A (raiseStmt env (P3 x) o_) Q E s:=by
 have hcB:(fj C::bm).contains^.type "BaseException"=p_:=by simp_all
 unfold raiseStmt;refine Cn^gQ hx (λv s₁ h₁=>?_) λ_ _ x=>x;let#[e,dx,vs,sl,rfl,hC,he,h1,hE]:=h₁
 repeat (first|omega|omega|(with_reducible refine h9 hC ?_; rw[hcB])|wp_step)
 rw[h1];refine Sc ?_;exact Sc^wpAny_raiseNew_none hh hE
theorem RQ
  (hC:h.get? C=P3^excClassObj nm q C N bs bm hdct sn sub ab col dd k0 k1 k2 k3 k5 newId) (hD:h.get? D=P3^excClassObj nm' q' D N' bs' bmD hdct' sn' sub' ab' col' dd' l0 l1 l2 l3 l5 newId') (hbase:bmD.contains^.type "BaseException"=p_)
  (he:h.get? e=P3 oe) (hcls:oe.cls=.ref C) (hq:Q ((fj C::bm).contains^.ref D) #[h,g,d,t,os]):wpAny M A (excMatches (.ref e)^.ref D) Q E #[h,g,d,t,os]:=by
 have hcB:(fj D::bmD).contains^.type "BaseException"=p_:=by simp_all
 have f:=tc_notTuple;generalize hb:(fj C::bm).contains^.ref D=b at hq;unfold excMatches
 repeat (first|(with_reducible refine gw he ?_; rw[hcls])|omega|(with_reducible refine h9 hD ?_; rw[hcB])|wp_step)
 refine h9 hC ?_;rw[hb];cases b <;>(wp_walk; exact hq)
end
def Cy:r_ Db:=[.type "ValueError",.type "Exception",.type "BaseException",.type "object"]
structure XC (K:Frag) (nm:Str) (C U:Ch):Prop where
 obj:∃q N bs sn sub ab col dd k0 k1 k2 k3 k5,K.lookup C=P3 (excClassObj nm q C N bs (.ref U::Cy) p_ sn sub ab col dd k0 k1 k2 k3 k5 "ValueError.__new__")
 up:∃q N bs sn sub ab col dd k0 k1 k2 k3 k5 hd,K.lookup U=P3 (excClassObj "ThinError" q U N bs Cy hd sn sub ab col dd k0 k1 k2 k3 k5 "ValueError.__new__")
 kp:keepIn K^.ref C=p_
 ga:PySem.W.findIn K (.ref C) "__getattribute__"=P3 (P3^.builtin "BaseException.__getattribute__")
 gt:PySem.W.findIn K (.ref C) "__getattr__"=P3 o_
 sa:PySem.W.findIn K (.ref C) "__setattr__"=P3 (P3^.builtin "object.__setattr__")
 at_:nsIn K mainGlobals nm=P3 (P3^.ref C)
 atU:nsIn K mainGlobals "ThinError"=P3 (P3^.ref U)
 ca:PySem.W.findIn K (.ref C) "__class__"=P3 (P3^.builtin "object.__class__")
 nw:PySem.W.findIn K (.ref C) "word"=P3 o_
 nn:PySem.W.findIn K (.ref C) "number"=P3 o_
 nr:PySem.W.findIn K (.ref C) "row"=P3 o_
section
variable {K:Frag}
theorem XC.cls(c:XC K nm C U):∃a,PySem.W.clsIn K C=P3 a/\a.mro=.ref C::.ref U::Cy/\a.hasDict=p_/\a.name=nm:=by
 let#[q,N,f,g,b,h,d,i,j,k,l,m,n,e]:=c.obj;refine#[_,by unfold PySem.W.clsIn; rw[e],rfl,rfl,rfl]
theorem Pk(X:K.In s.heap)(c:XC K nm C U)(I:PySem.W.InstAt s.heap x n C o)(p:PySem.W.findIn K (.ref C) name=P3 o_)
  (h:∀b,wpAny (model prog w) A.in1 (Builtin.ObjectAttr.storeInOwnDict (.ref x) (.ref C) (.str name d) name v b)
   (λi g=>match i with|.done f=>R (.ok f) g|.again c'=>c'.quiet=p_/\codeAny (model prog w) A c' R g) (λe g=>R (.error e) g) s):
  codeAny (model prog w) A (.call (.builtin "object.__setattr__") #[[.ref x,.str name d,v],[]]) R s:=by
 have a:=PySem.F.store_ValueError;let#[q,l,m,_]:=c.cls;have j:PySem.W.Looks (model prog w) s.heap (isInstance (.ref x)^.type "object") p_:=I.type.andThen (PySem.W.looks_mroIn X^by unfold PySem.W.mroIn; rw[l,Option.bind_some,m]; rfl);refine jb a.slot.plain a.entry^@PySem.W.check_slot (model prog w) _ _ s "object.__setattr__" "object" "__setattr__" (.ref x) [.str name d,v] [] _ a.kind a.split j (a.args (.ref x) (.str name d) v) ?_;have k:PySem.W.Looks (model prog w) s.heap (mroOf^.ref C) q.mro:=(PySem.W.looks_clsIn X l).andThen .now;rw[PySem.W.osa_eq,refuse_eq];refine Cn^Cn^I.type.here^Cn^k.here ?_;rw[m,refuseLoop_ref,refuseLoop_ref,show refuseLoop (.ref x) "__setattr__" Cy=pure ()from a.passes _];exact Sc^Cn^I.type.here^Cn^(PySem.W.looks_findIn X p).here^Cn^Sc^h _
theorem Se(X:K.In s.heap)(c:XC K nm C U)(hx:s.heap.get? x=P3 #[.ref C,o_,.fields f,g])(r:PySem.W.findIn K (.ref C) name=P3 o_)
  (h:∀d t,d.get? x=P3 #[.ref C,P3 s.heap.objs.size,.fields f,g]->d.Ns1 s.heap.objs.size (λy=>if y=name then P3 v else o_)->(∀b o,b≠x->s.heap.get? b=P3 o->d.get? b=P3 o)->Q () {s with heap:=d,toks:=t}):
  wpAny (model prog w) A (setAttr (.ref x) name v) Q E s:=by
 let#[M,u,N,z,_]:=c.cls;have J:PySem.W.InstAt s.heap x #[.ref C,o_,.fields f,g] C o_:=#[hx,rfl,rfl,trivial];refine PySem.W.set_plain X J c.sa^Pk (s:={s with toks:=s.toks+1}) X c J r λb=>?_;refine Cn^Sc^Cn^Cn^wpAny_loadPart hx^Cn^PySem.W.Looks.here (s:={s with toks:=s.toks+1}) (PySem.W.looks_clsIn X u) ?_;rw[z];have i:(s.heap.push {cls:=.type "dict",data:=.dict #[]}).get? x=P3 #[.ref C,o_,.fields f,g]:=Ev _ hx;have n:x≠s.heap.objs.size:=f9^Tk hx;show wpAny _ _ (alloc _ >>=_) _ _ _;refine Cn^wpAny_alloc^Cn^wpAny_update i^Sc ?_;generalize a:((s.heap.push {cls:=.type "dict",data:=.dict #[]}).update x λo=>{cls:=o.cls,dict:=P3 s.heap.objs.size,data:=o.data,slots:=o.slots})=hh
 have B:hh.get? s.heap.objs.size=P3 {cls:=.type "dict",data:=.dict #[]}:=by
  rw[←a,Heap.get?_update_ne _ _ _ _ n.symm];exact UF _ rfl
 have D:hh.get? x=P3 #[.ref C,P3 s.heap.objs.size,.fields f,g]:=by
  rw[←a];exact g7 _ i rfl
 have F:∀b o,b≠x->s.heap.get? b=P3 o->hh.get? b=P3 o:=λb o j e=>by
  rw[←a,Heap.get?_update_ne _ _ _ _ j];exact Ev _ e
 have G:hh.Ns s.heap.objs.size (λ_=>o_):=#[_,#[],_,B,rfl,λe H=>absurd H^by simp,λ_=>rfl];show wpAny _ _ (lL s.heap.objs.size _ name v) _ _ _;delta lL Builtin.ObjectAttr.newKeyGuard;refine Cn^Sc^Cn^wpAny_nsSet1 (Heap.Ns1.of_empty G) λd p q=>?_;let#[O,I,L,k,l,m]:=p.count^PySem.Within.cons name v PySem.Within.nil;refine Cn^wpAny_lookBehind k (by rw[l]; exact pastItsLine_dict^f_ m^by simp only[eq,hZ,gn]; lk) ?_;refine Sc^h d _ ((q.2 x n).trans D) p λb o j e=>(q.2 b^f9^Tk e).trans^F b o j e
theorem Sd(X:K.In s.heap)(c:XC K nm C U)(hx:s.heap.get? x=P3 #[.ref C,P3 d,.fields k,l])(n:s.heap.Ns1 d f)(q:PySem.Within f m)(r:m.length<=sizeLine)(t:PySem.W.findIn K (.ref C) name=P3 o_)
  (h:∀e u,e.Ns1 d (λy=>if y=name then P3 v else f y)->ji d s.heap e->Q () {s with heap:=e,toks:=u}):
  wpAny (model prog w) A (setAttr (.ref x) name v) Q E s:=by
 let#[I,z,L,B,_]:=c.cls;let#[o,_,_,D,_]:=id n;have J:PySem.W.InstAt s.heap x #[.ref C,P3 d,.fields k,l] C^P3 o:=#[hx,rfl,rfl,D];refine PySem.W.set_plain X J c.sa^Pk (s:={s with toks:=s.toks+1}) X c J t λb=>?_;refine Cn^Sc^Cn^Cn^wpAny_loadPart hx^Cn^PySem.W.Looks.here (s:={s with toks:=s.toks+1}) (PySem.W.looks_clsIn X z) ?_;rw[B];refine Sc (a:=P3 d)^Cn^Sc^Cn ?_;refine wpAny_nsSet1 (s:={s with toks:=s.toks+1}) n λe p F=>?_;let#[M,G,H,g,i,j]:=p.count^PySem.Within.cons name v q;refine Cn^wpAny_lookBehind g (by rw[i]; exact pastItsLine_dict^f_ j^by simp only[eq]; lk) ?_;exact Sc^h _ _ p F
end
section
variable {os:OsState}
variable {K:Frag}
theorem QB(hC:h.get? C=P3^excClassObj nm q C N bs (.ref U::Cy) p_ sn sub ab col dd k0 k1 k2 k3 k5 "ValueError.__new__")
  (hq:Q () #[h,g,d,t,os]):wpAny M A (checkBuiltinCall "ValueError.__new__" #[.ref C::rest,[]]) Q E #[h,g,d,t,os]:=by
 have F:=PySem.F.excBase_ValueError;have hcont:(fj C::.ref U::Cy).contains^.type "ValueError"=p_:=by grind[Cy]
 have hstar:=F.noStar;simp only[checkBuiltinCall,F.newKind,F.newSplit,F.newRow]
 repeat (first|refine gw hC ?_|(refine h9 hC ?_; rw[hcont])|refine wpAny_staticBase_exc hC ?_|refine mi hC ?_|grind only[bne_self_eq_false,ig,if_false]|wp_step)
 exact hq
theorem P1(hC:h.get? C=P3^excClassObj nm q C N bs (.ref U::Cy) p_ sn sub ab col dd k0 k1 k2 k3 k5 "ValueError.__new__")
  (hq:R (.ok^.ret^.ref (h.objs.size+1)) #[(h.push {cls:=.type "tuple",data:=.seq rest.toArray}).push^Bx C h.objs.size,g,d,t,os]) (hrest:rest.length<=sizeLine):
  codeAny (model prog w) A (.builtin "ValueError.__new__" #[.ref C::rest,[]]) R #[h,g,d,t,os]:=by
 have F:=PySem.F.excBase_ValueError;have hends:=F.ends;have hcB:(fj C::.ref U::Cy).contains^.type "ValueError"=p_:=by simp[Cy]
 have hcA:(fj C::.ref U::Cy).contains^.type "AttributeError"=q_:=by simp[Cy]
 have hcN:(fj C::.ref U::Cy).contains^.type "NameError"=q_:=by simp[Cy]
 refine codeAny_builtinAt F.entry ?_;unfold iU.«BaseException.__new__»;refine PySem.wpAt_bind ?_;show PySem.wpAt _ _ _ (stack >>=_) _ _ _;refine PySem.wpAt_bind^PySem.wpAt_stack λp below=>wpAt_of_wpAny ?_
 wp_walk
 refine wpAt_of_wpAny ?_;rw[F.owner]
 repeat (first|with_reducible refine wpAny_madeHere_exc F.canon hC ?_|with_reducible refine gw hC ?_|(with_reducible refine h9 hC ?_; first|rw[hcB]|rw[hcA]|rw[hcN])|wp_step)
 show R _ _;rw[iT];exact hq
theorem US(hC:h.get? C=P3^excClassObj nm q C N bs (.ref U::Cy) p_ sn sub ab col dd k0 k1 k2 k3 k5 "ValueError.__new__")(he:h.get? e=P3 oe)(hcls:oe.cls=.ref C)(hq:Q () #[h,g,d,t,os]):
  wpAny M A (checkBuiltinCall "ValueError.__init__" #[.ref e::rest,[]]) Q E #[h,g,d,t,os]:=by
 have F:=PySem.F.excBase_ValueError;have hcB:(fj C::.ref U::Cy).contains^.type "ValueError"=p_:=by grind[Cy]
 have hshort:=F.noStar;simp only[checkBuiltinCall,F.initKind,F.initSplit,F.initRow]
 repeat (first|(with_reducible refine gw he ?_; rw[hcls])|with_reducible refine gw hC ?_|(with_reducible refine h9 hC ?_; rw[hcB])|wp_step)
 refine k_ ?_
 rw[show ∀(a b:String) (n:Nat),Bind.check #[.positional,"*","ValueError",.self,[#["args",.varPos,q_]]] a b n^List.map (λx=>x.fst) ({pos:=fj e::rest}:Args).kw=pure ()from
  λa b n=>check_star_args _ _ _ _ _ _]
 exact Sc hq
theorem T9(X:K.In h)(c:XC K nm C U)(hi:PySem.W.findIn K (.ref C) "__init__"=P3^P3^.ref f)(hf:PySem.W.typeIn K^.ref f=P3^.type "function")(hrest:rest.length<=sizeLine)
  (hq:codeAny (model prog w) (A.under^.builtin "type.__call__" #[.ref C::rest,[]]) (.call (.ref f) #[.ref (h.objs.size+1)::rest,[]]) (cV (h.objs.size+1) R) #[(h.push {cls:=.type "tuple",data:=.seq rest.toArray}).push^Bx C h.objs.size,g,d,t,os]):
  codeAny (model prog w) A (.call (.ref C) #[rest,[]]) R #[h,g,d,t,os]:=by
 have F:=PySem.F.excBase_ValueError;let#[q,N,bs,sn,sub,ab,col,dd,k0,k1,k2,k3,k5,eC]:=c.obj;have hC:=X _ _ eC;have f1:=tc_lookup;have f2:=tc_bind^.ref C;have hT:(#[h,g,d,t,os]:Go).TypeIs (.ref C) "type":=#[_,hC,rfl];refine lM ?_;show wpAny _ _ (callAny (.ref C) _) _ _ _
 repeat (any_goals (first|assumption|with_reducible refine gw hC ?_|wp_step))
 refine#[rfl,?_];refine codeAny_call_builtin_at (ju _^by decide +kernel) entry_typeCall^wpAny_check_type_call_sub hC ?_
 repeat (first|with_reducible refine gw hC ?_|with_reducible refine mi hC ?_|wp_step)
 refine codeAny_call_builtin_code (ju _ F.quiet)^QB hC ?_;refine P1 hC ?_ hrest;show wpAny _ _ _ _ _ _;have kk:∀b o,h.get? b=P3 o->((h.push {cls:=.type "tuple",data:=.seq rest.toArray}).push^Bx C h.objs.size).get? b=P3 o:=λb o e=>Ev _^Ev _ e;have hC₁:=kk _ _ hC;have hget:((h.push {cls:=.type "tuple",data:=.seq rest.toArray}).push^Bx C h.objs.size).get? (h.objs.size+1)=P3^Bx C h.objs.size:=by unfold Bx; heap_get
 have hcC:(fj C::fj U::Cy).contains^.ref C=p_:=by simp
 unfold isInstance;unfold Bx at *
 repeat (first|with_reducible refine gw hget ?_|(with_reducible refine h9 hC₁ ?_; rw[hcC])|wp_step)
 show wpAny _ _ (isSubtype (.ref C)^.ref C) _ _ _;refine h9 hC₁ ?_;rw[hcC,if_neg^by cbv];refine Cn^gU ?_;delta callSpecial? specialOf
 repeat (first|with_reducible refine gw hget ?_|wp_step)
 show wpAny _ _ (typeLookup (.ref C) _) _ _ _;refine(PySem.W.looks_findIn (X.keeps kk) hi).here ?_;refine gU^Cn^(PySem.W.bind_fn (X.keeps kk) _ hf).here ?_;refine Cn^i8^jj hq λr s' z=>?_
 rcases r with e|(v|_|_|_) <;>first|exact z|exact z.elim|skip
 let#[rfl,z]:=z;exact Sc^Sc z
theorem RR(X:K.In h)(c:XC K nm C U)(hi:PySem.W.findIn K (.ref C) "__init__"=P3^P3^.builtin "ValueError.__init__")(hrest:rest.length<=sizeLine)
  (hq:∀h',(∀b o,h.get? b=P3 o->h'.get? b=P3 o)->h'.get? (h.objs.size+1)=P3^Bx C (h.objs.size+2)->R (.ok^.ret^.ref (h.objs.size+1)) #[h',g,d,t,os]):
  codeAny (model prog w) A (.call (.ref C) #[rest,[]]) R #[h,g,d,t,os]:=by
 have F:=PySem.F.excBase_ValueError;let#[q,N,bs,sn,sub,ab,col,dd,k0,k1,k2,k3,k5,eC]:=c.obj;have hC:=X _ _ eC;have f1:=tc_lookup;have f2:=tc_bind^.ref C;have hT:(#[h,g,d,t,os]:Go).TypeIs (.ref C) "type":=#[_,hC,rfl];refine lM ?_;show wpAny _ _ (callAny (.ref C) _) _ _ _
 repeat (any_goals (first|assumption|with_reducible refine gw hC ?_|wp_step))
 refine#[rfl,?_];refine codeAny_call_builtin_at (ju _^by decide +kernel) entry_typeCall^wpAny_check_type_call_sub hC ?_
 repeat (first|with_reducible refine gw hC ?_|with_reducible refine mi hC ?_|wp_step)
 refine codeAny_call_builtin_code (ju _ F.quiet)^QB hC ?_;refine P1 hC ?_ hrest;show wpAny _ _ _ _ _ _;have kk:∀b o,h.get? b=P3 o->((h.push {cls:=.type "tuple",data:=.seq rest.toArray}).push^Bx C h.objs.size).get? b=P3 o:=λb o e=>Ev _^Ev _ e;have hC₁:=kk _ _ hC;have hget:((h.push {cls:=.type "tuple",data:=.seq rest.toArray}).push^Bx C h.objs.size).get? (h.objs.size+1)=P3^Bx C h.objs.size:=by unfold Bx; heap_get
 have hcC:(fj C::fj U::Cy).contains^.ref C=p_:=by simp
 unfold isInstance;unfold Bx at *
 repeat (first|with_reducible refine gw hget ?_|(with_reducible refine h9 hC₁ ?_; rw[hcC])|wp_step)
 show wpAny _ _ (isSubtype (.ref C)^.ref C) _ _ _;refine h9 hC₁ ?_;rw[hcC,if_neg^by cbv];refine Cn^gU ?_;delta callSpecial? specialOf
 repeat (first|with_reducible refine gw hget ?_|wp_step)
 show wpAny _ _ (typeLookup (.ref C) _) _ _ _;refine(PySem.W.looks_findIn (X.keeps kk) hi).here ?_;refine gU^Cn^li (F.init.bind _) ?_;refine Cn^i8^jb F.init.plain F.initEntry (US hC₁ hget rfl ?_)
 wp_walk
 refine hq _ (λb o e=>?_) ?_
 .rw[fm _ _^i7^iV^Tk e]
  exact Ev _^kk b o e
 .refine(g7 (jS (·.setIfInBounds 0^fj _)) (Ev _ hget) rfl).trans ?_
  simp only[iT];rfl
end
structure CXD (P:f7) (w:gB) (outer:List Env) (H:Hp) (s:Go) (a C:Ch) (dx:Option Ch) (B:fz) (H':Hp) (s':Go):Prop where
 os:s'.os=s.os
 bare:j8 s'.gens
 un:Un (Kz outer) [] H H' s.heap s'.heap
 hok:HOk P w H' B
 all:∀b o o',s.heap.get? b=P3 o->b∉Kz outer->s'.heap.get? b=P3 o'->B.get? b=P3 o'
 fly:Fly B outer a C dx s'.heap
 new:s.heap.objs.size<=a
 free:H' a=o_
def Rq(P:f7)(w:gB):Rp:=λb H s E e f=>∃a C c B d,e=.ref a/\CXD P w b H s a C c B d f/\E (.ref C) c d
section

theorem CXD.step(x:CXD P w outer H s a C dx B H' s')(F:Fly B outer a C dx h')(u:s'.heap.UpToSlots h'):CXD P w outer H s a C dx B H' {s' with heap:=h'}:=by
 have fr:∀b∈Kz outer,∃o,s'.heap.get? b=P3 o/\∀k,o.data≠.fields k:=λb c=>(x.fly.frames.mem c).2;refine#[x.os,x.bare,#[λb o e n c d=>F.stays _ _^x.all b o o e c^x.un.keep b o e n c d,λb o e n c d=>?_,x.un.free,λb o e d=>?_,x.un.qI,x.un.vY,x.un.vV],x.hok,λb o j e c q=>?_,F,x.new,x.free]
 .let#[p,q]:=x.un.slot b o e n c d
  let#[j,f,h]:=fr b c;rw[q]at f;injection f with f;subst f;let#[i,l]:=u b _ q h
  grind
 .let#[g,q]:=x.un.there b o e d
  by_cases c:b∈Kz outer
  .let#[j,f,h]:=fr b c
   let#[i,l]:=u b _ f h
   grind
  .exact#[g,F.stays _ _^x.all b o g e c q]
 .let#[g,m]:=x.un.there b o e^by simp
  have z:=x.all b o g e c m;simp only[F.stays _ _ z]at q
  simp_all
end
section

theorem CXD.inv(x:CXD X.prog X.w X.stack H s a C dx B H' s')(I:Inv X zG σ H s):Inv X zG σ H' s':=
 I.call' x.os x.un (x.hok.kept x.fly.stays) x.bare λb z=>absurd z^by simp
theorem CXD.leave(x:CXD X.prog X.w X.stack H s a C dx B H' s')(I:Inv X zG σ H s)(c:X.stack=X.env::X.outer)(f:X.ex=[]):CXD X.prog X.w X.outer X.H₀ X.s₀ a C dx B H' s':=by
 have J:=x.inv I;have d:=x.fly;rw[c]at d;refine#[J.os,J.bare,by have z:=J.base; simp_all,x.hok,λb o g e h q=>?_,d.tail,f_ I.sz x.new,x.free];let#[i,j]:=I.base.there b o e (by simp_all);refine x.all b i g j (λz=>?_) q
 rcases TW.mp^I.vw b z with z|z
 .exact absurd (Tk e)^by rw[z]; exact kg.mpr I.ok.above
 .exact h z
theorem JG{K:Frag}:
  HG (Rq P w) (Dh (Rq P w) P w K j d N g b f k A c h i E) E:=by
 intro zG σ H s e s' I #[a,C,dx,B,H',l,x,q];subst l;exact RK I.ok.frames rfl x.fly λn m u=>#[a,C,dx,B,H',rfl,(x.step m u).leave I rfl rfl,q]
theorem VQ{K:Frag}:
  lE (model P w) (Dh (Rq P w) P w K i d N e b f j A c g h E).A (Dh (Rq P w) P w K i d N e b f j A c g h E).env (Dh (Rq P w) P w K i d N e b f j A c g h E).xe:=by
 passes_own
end
def XO(a C:Ch)(c:s_ Ch)(h:fz):Prop:=∃b d,h.get? a=P3 #[.ref C,c,.fields b,d]/\b[2]?=P3 .none/\b[1]?=P3 .none
def XF(d:Ch)(fs:r_ (Str×V))(h:fz):Prop:=∃a,h.Ns1 d a/\(∀f,zM (fs.lookup f)^a f)/\PySem.Within a (fs.map (·.1))/\fs.length<=1000
theorem XO.ok(x:XO a C b h):qv P w H h a^.ext^XO a C b:=by
 refine#[x,?_,λf g #[c,d,e,r] k=>#[c,d,k _ e,r]];let#[c,d,e,_]:=x
 simp_all
theorem XF.ok(x:XF d a h):qv P w H h d^.ext^XF d a:=by
 refine#[x,?_,λc f #[b,e,r] k=>#[b,e.at k,r]];let#[b,#[o,_,_,e,_],_]:=x
 simp_all
section

theorem Sb(I:Inv X zG σ H s)(e:H a=P3^.ext^XO a C o_)(c:XC X.K nm C U)(n:F2 X.K C f)(M:RelV y u)
  (h:∀d B,H d=o_->d≠a->Inv X zG σ (Al (Al H d^.ext^XF d [(f,y)]) a^.ext^XO a C^P3 d) B->Q () B):wpAny (model X.prog X.w) A (setAttr (.ref a) f u) Q E s:=by
 let#[#[N,O,D,P,R],_]:=(show qv X.prog X.w H s.heap a _ from I.hok a _ e);refine Se I.kIn c D n λh' t' F S l=>?_;have G:H s.heap.objs.size=o_:=I.hok.fresh^On _;have T:s.heap.objs.size≠a:=i7^Tk D;have lt:∀{b:Ch}{o:Obj},s.heap.get? b=P3 o->b≠s.heap.objs.size:=λ{b o} q=>f9^Tk q;have p:∀{b:Ch},H b=o_->b≠a:=λ{b} q z=>by rw[z,e]at q; cases q
 have of:∀{b:Ch}{u:HO},H b=P3 u->(∀j,u≠.ext j)->Al (Al H s.heap.objs.size^.ext^XF s.heap.objs.size [(f,y)]) a (.ext^XO a C^P3 s.heap.objs.size) b=P3 u:=λ{b u} q W=>by
  rw[AL (λz=>by rw[z,e]at q; exact W _ (fu q).symm),AL λz=>by simp only[z,G]at q; cases q]; exact q
 refine h s.heap.objs.size _ G T^I.un (h':=h') (t':=t') #[λb o q n _ _=>l b o (p n) q,λb o q n _ _=>#[o.slots,l b o (p n) q],λb o q n _=>?_,λb o q _=>?_,λb J q=>of q (by intro j z; cases z),λb o J q=>of q (by intro j z; cases z),λb ps q=>#[#[],by rw[of q^by intro j z; cases z]; rfl]] ?_
 .rw[AL^p n,AL^lt q]; exact n
 .by_cases z:b=a
  .rw[z]; exact#[_,F]
  .exact#[o,l b o z q]
 .intro b o q
  by_cases z:b=a
  .subst z
   rw[AQ]at q;injection q with q;subst q;exact XO.ok #[N,O,F,P,R]
  .rw [AL z]at q
   by_cases L:b=s.heap.objs.size
   .subst L
    rw[AQ]at q;injection q with q;subst q;refine XF.ok #[_,S,λg=>?_,λg Y=>?_,by simp]
    .by_cases i:g=f
     .rw[if_pos i]
      have t:(g==f)=p_:=beq_iff_eq.mpr i;simp only[jF,t];exact M
     .rw[if_neg i]
      have t:(g==f)=q_:=beq_eq_false_iff_ne.mpr i;simp only[jF,t];trivial
    .by_cases i:g=f
     .simp[i]
     .exact absurd (if_neg i) Y
   .rw[AL L]at q
    refine(I.hok b o q).vX (λx v m r=>l x v ?_ r) (λx r=>of r^by intro j z; cases z) λx J r=>of r^by intro j z; cases z
    rcases m with rfl|m
    .exact z
    .intro Z; simp only[Z,e]at m; cases m
theorem Sa(I:Inv X zG σ H s)(e:H a=P3^.ext^XO a C^P3 d)(k:H d=P3^.ext^XF d i)(c:XC X.K nm C U)(n:F2 X.K C f)(v:RelV y u)(O:i.length<1000)
  (h:∀l,Inv X zG σ (Al H d^.ext^XF d^Eh f y i) l->Q () l):wpAny (model X.prog X.w) A (setAttr (.ref a) f u) Q E s:=by
 let#[#[P,R,B,S,T],_]:=(show qv X.prog X.w H s.heap a _ from I.hok a _ e);let#[#[m,D,r,p,_],_]:=(show qv X.prog X.w H s.heap d _ from I.hok d _ k);refine Sd I.kIn c B D p (by simp only[No,gn]; lk) n λF W t G=>h _ ?_;have J:∃o,F.get? d=P3 o:=let #[o,_,_,L,_]:=t; #[o,L]
 refine I.write (x:=d) (e:=d) (by simp only[k]; exact iQ) (.inl rfl) (λb q M z=>(G.2 b M).trans z) J^XF.ok #[_,t,λg=>?_,λg N=>?_,?_]
 .show zM ((Eh f y i).lookup g) (if g=f then P3 u else m g)
  rw[HR]
  by_cases q:g=f
  .rw[if_pos q,if_pos q]; exact v
  .rw[if_neg q,if_neg q]; exact r g
 .by_cases q:g=f
  .rw[q]; exact(G8 f y i).1
  .refine(G8 f y i).2 g^p g λz=>N ?_
   show(if g=f then P3 u else m g)=o_;rw[if_neg q]; exact z
 .have:=HS f y i; lk
end
def fV(C:Ch)(c e:TE)(f:Str):TS:=λD b H=>e b H λy g=>c b g λx H2=>∃a,x=.ref a/\H2 a=P3^.ext^XO a C o_/\∀d,H2 d=o_->d≠a->D.nx b^Al (Al H2 d^.ext^XF d [(f,y)]) a^.ext^XO a C^P3 d
def fT(C:Ch)(e g:TE)(f:Str):TS:=λD b H=>g b H λy h=>e b h λx H2=>∃a d c,x=.ref a/\H2 a=P3^.ext^XO a C^P3 d/\H2 d=P3^.ext^XF d c/\c.length<1000/\D.nx b^Al H2 d^.ext^XF d^Eh f y c
section

theorem ay(c:XC X.K nm C U)(n:F2 X.K C f)(g:PE X o ta)(i:PE X value tv)(j:swapsWith value (P3^.Attribute o f pos') pos.line X.env=pure q_):PS X (.Assign [.Attribute o f pos'] value pos)^fV C ta tv f:=by
 intro E s b H D I h;refine lG (thn (i _ s b H _ I h) λu k zz=>?_) j;let#[y,l,m,p,q]:=zz;refine thn (g _ k b l _ m q) λr F zz=>?_;let#[x,H2,t,v,a,ex,w,z]:=zz;subst ex;obtain rfl:r=fj a:=v;exact Sb t w c n p λd G A e B=>#[b,_,B,z d A e]
theorem aw(c:XC X.K nm C U)(n:F2 X.K C f)(e:PE X o ta)(g:PE X value tv)(i:swapsWith value (P3^.Attribute o f pos') pos.line X.env=pure q_):PS X (.Assign [.Attribute o f pos'] value pos)^fT C ta tv f:=by
 intro E s b H D I h;refine lG (thn (g _ s b H _ I h) λu j zz=>?_) i;let#[y,k,m,p,q]:=zz;refine thn (e _ j b k _ m q) λr F zz=>?_;let#[x,H2,t,v,a,d,G,ex,w,z,l,A]:=zz;subst ex;obtain rfl:r=fj a:=v;exact Sa t w z c n p l λJ B=>#[b,_,B,A]
end
def del(H:Hp)(a:Ch):Hp:=λb=>if b=a then o_ else H b
theorem Jl(h:b≠a):del H a b=H b:=if_neg h
theorem E3:del H a a=o_:=if_pos rfl
section

theorem bX(I:Inv X zG σ H s)(A:s1.os=s.os)(f:j8 s1.gens)(u:Un (Kz X.stack) [] H H1 s.heap s1.heap)(h:HOk X.prog X.w H1 s1.heap)(k:H1 a=P3^.ext^XO a C dx)(i:s.heap.objs.size<=a):
  CXD X.prog X.w X.stack H s a C dx (PySem.W.hideAll s1.heap (a::Kz X.stack)) (del H1 a) s1:=by
 have J:Inv X zG σ H1 s1:=I.call' A u h f λb z=>absurd z (by simp);have E:∀{b:Ch}{u:HO},H1 b=P3 u->(∀g,u≠.ext g)->b≠a:=λ{b u} q p z=>by rw[z,k]at q; exact p _ (fu q).symm
 have of:∀{b:Ch}{u:HO},H1 b=P3 u->(∀g,u≠.ext g)->del H1 a b=P3 u:=λq p=>(Jl^E q p).trans q;have B:∀{b:Ch}{u:HO},H1 b=P3 u->b∉Kz X.stack:=λ{b u} q z=>by rw[J.vP b z]at q; cases q
 let#[#[F,G,t,K,L],_]:=(show qv X.prog X.w H1 s1.heap a _ from h a _ k);refine#[A,f,#[u.keep,u.slot,λb o q n t=>?_,u.there,λb j q=>of (u.qI b j q) (by intro g z; cases z),λb o j q=>of (u.vY b o j q) (by intro g z; cases z),λb M q=>?_],λb o q=>?_,λb o P q x N=>?_,#[λb o q=>PySem.W.of_hideAll _ q,PySem.W.hideAll_none _^by simp,PySem.W.funFrames_hide J.stack λy O b x=>?_,F,G,.none,t,K,L,.inl rfl],i,E3]
 .by_cases z:b=a
  .rw[z]; exact E3
  .rw[Jl z]; exact u.free b o q n t
 .let#[m,e]:=u.vV b M q
  exact#[m,of e^by intro g z; cases z]
 .have D:b≠a:=λz=>by rw[z,E3]at q; cases q
  rw[Jl D]at q;refine(h b o q).vX (λc v d r=>PySem.W.hideAll_get _ r λz=>?_) (λc r=>of r^by intro g z; cases z) λc j r=>of r^by intro g z; cases z
  rcases TW.mp z with z|z
  .rcases d with d|d
   .exact D^d.symm.trans z
   .rw[z,k]at d; cases d
  .rcases d with d|d
   .exact B q (d▸z)
   .exact B d z
 .refine PySem.W.hideAll_get _ N λz=>?_
  rcases TW.mp z with z|z
  .exact absurd (Tk q)^by rw[z]; exact kg.mpr i
  .exact x z
 .exact TM _^ln.mpr #[y,O,x]
end
def XS(X:Cx)(a:r_ (Ch×Obj))(b:St)(R:XK)(e:Db)(c:Go):Prop:=∃H s,Inv X a b H s/\Rq X.prog X.w X.stack H s R e c
def Made(X:Cx)(e:r_ (Ch×Obj))(f:St)(C:Ch)(R:XK)(v:Db)(b:Go):Prop:=∃a d H s c,v=.ref a/\Inv X e f H s/\b.os=s.os/\j8 b.gens/\Un (Kz X.stack) [] H c s.heap b.heap/\HOk X.prog X.w c b.heap/\c a=P3^.ext^XO a C d/\s.heap.objs.size<=a/\R (.ref C) d^del c a
section

theorem Kh(c:XC X.K nm C U)(D:X.A.handled=o_)(h:wpAny (model X.prog X.w) X.A (eval e X.env) (Made X zG σ C R) i s)(E:∀e t,XS X zG σ R e t->i e t):
  wpAny (model X.prog X.w) X.A (exec (.Raise (P3 e) o_ pos) X.env) Q i s:=by
 let#[q,N,F,G,m,H,n,L,M,O,P,S,T,V]:=c.obj
 have W:wpAny (model X.prog X.w) X.A (eval e X.env) (λv d=>∃e k l o,v=.ref e/\d.heap.get? C=P3^excClassObj nm q C N F (.ref U::Cy) p_ G m H n L M O P S T "ValueError.__new__" /\
   d.heap.get? e=P3 #[.ref C,k,.fields l,o]/\l[1]?=P3 .none/\i (.ref e) d) i s:=by
  refine thn h λv s1 zz=>?_;let#[a,k,Y,Z,H1,ev,I,y,f,u,g,B,p,r]:=zz;let#[#[l,o,hx,h2,h1],_]:=(g a _ B);have J:=I.call' y u g f λb z=>absurd z (by simp);exact#[a,k,l,o,ev,J.kIn _ _ V,hx,h1,E _ _ #[Y,Z,I,a,C,k,_,_,rfl,bX I y f u g B p,r]]
 first
  |exact Cn^kM (OH rfl D (Cn^gQ W (λv d j=>Cn^kM^Sc j) λ_ _ x=>x))
  |omega
end
def Iw(C:Ch)(c f:Str):Sp:=λg H Q _=>∃a b e,g=[.ref a,b,e]/\H a=P3^.ext^XO a C o_ /\
 ∀d,H d=o_->d≠a->Q .non^Al (Al (Al H d^.ext^XF d [(c,b)]) a^.ext^XO a C^P3 d) d^.ext^XF d [(c,b),(f,e)]
section

theorem Vd(c:XC X.K nm C U)(M:PySem.W.findIn X.K (.ref C) "__init__"=P3^P3^.ref f)(N:PySem.W.typeIn X.K^.ref f=P3^.type "function")(F:qV X.prog X.w X.K X.mg X.base Ef k f fd [p0,p1,p2]^Iw C k1 k2)(O:Binds X.K fd [p0,p1,p2] [])
  (P:qj (k+1) X.A) (I:Inv X zG σ H s) (r:qQ [v1,v2] us) (h:∀d,H d=o_->R (.ref C) (P3 d)^Al H d^.ext^XF d [(k1,v1),(k2,v2)]):wpAny (model X.prog X.w) X.A (call (.ref C) us) (Made X zG σ C R) E s:=by
 let#[a,g,Q,t,S]:=s;have y:us.length=2:=r.length.symm;have T:((a.push {cls:=.type "tuple",data:=.seq us.toArray}).push^Bx C a.objs.size).get? (a.objs.size+1)=P3^Bx C a.objs.size:=by unfold Bx; heap_get
 have B:∀b o,a.get? b=P3 o->((a.push {cls:=.type "tuple",data:=.seq us.toArray}).push^Bx C a.objs.size).get? b=P3 o:=λb o e=>Ev _^Ev _ e;have D:H (a.objs.size+1)=o_:=I.hok.fresh^gq _;have G:Inv X zG σ (Al H (a.objs.size+1)^.ext^XO (a.objs.size+1) C o_) #[(a.push {cls:=.type "tuple",data:=.seq us.toArray}).push^Bx C a.objs.size,g,Q,t,S]:=I.laid (t':=t) B (gq _)^XO.ok #[_,_,T,rfl,rfl]
 have p:Iw C k1 k2 [.ref (a.objs.size+1),v1,v2] (Al H (a.objs.size+1)^.ext^XO (a.objs.size+1) C o_) (λv J=>v=.non/\∃d,H d=o_/\d≠a.objs.size+1 /\
   J=Al (Al (Al (Al H (a.objs.size+1)^.ext^XO (a.objs.size+1) C o_) d^.ext^XF d [(k1,v1)]) (a.objs.size+1)^.ext^XO (a.objs.size+1) C^P3 d) d^.ext^XF d [(k1,v1),(k2,v2)]) E0:=
  #[_,v1,v2,rfl,AQ,λd l i=>#[rfl,d,by rw[AL i]at l; exact l,i,rfl]]
 have Y:qQ [V.ref (a.objs.size+1),v1,v2] (fj (a.objs.size+1)::(us++[])):=by simp only[gM]; exact .cons rfl r
 refine i8^T9 (K:=X.K) (U:=U) (nm:=nm) I.kIn c M N (by rw[y]; decide)^jj (F.run _ X.stack _ _ #[fj (a.objs.size+1)::us,[]] _ _ _ E0 (P.make C us []) (G.env0.make C us []) (O _ (fj (a.objs.size+1)::us) G.kIn^by simp[y]) Y p) λZ s' L=>?_
 rcases Z with e|(u|_|_|_) <;>first|exact gh L|skip
 let#[v,J,q,j,un,x,rv,ev,d,l,i,eH]:=L;subst ev;subst eH;exists rv,a.objs.size+1,P3 d,H,_,_,rfl,I,q,j,(Un.laid B (gq _) D).trans un,x,by rw[AL i.symm,AQ],gq _
 have e:del (Al (Al (Al (Al H (a.objs.size+1)^.ext^XO (a.objs.size+1) C o_) d^.ext^XF d [(k1,v1)]) (a.objs.size+1)^.ext^XO (a.objs.size+1) C^P3 d) d^.ext^XF d [(k1,v1),(k2,v2)]) (a.objs.size+1)=Al H d^.ext^XF d [(k1,v1),(k2,v2)]:=by
  funext b
  by_cases z:b=a.objs.size+1
  .rw[z,E3,AL i.symm,D]
  .rw[Jl z]
   by_cases m:b=d
   .rw[m,AQ,AQ]
   .rw[AL m,AL z,AL m,AL z,AL m]
 simp only[e];exact h d l
theorem Ve(c:XC X.K nm C U)(j:PySem.W.findIn X.K (.ref C) "__init__"=P3^P3^.builtin "ValueError.__init__")(I:Inv X zG σ H s)(k:us.length<=sizeLine)(h:R (.ref C) o_ H):wpAny (model X.prog X.w) X.A (call (.ref C) us) (Made X zG σ C R) E s:=by
 let#[a,g,n,t,o]:=s;have d:=I.hok.fresh^gq _;refine i8^RR (K:=X.K) (U:=U) (nm:=nm) I.kIn c j k λp i l=>?_;have m:Inv X zG σ (Al H (a.objs.size+1) _) _:=I.laid (t':=t) i (gq _)^XO.ok #[_,_,l,rfl,rfl];exists a.objs.size+1,o_,H,_,_,rfl,I,rfl,I.bare,Un.laid i (gq _) d,m.hok,AQ,gq _
 have e:del (Al H (a.objs.size+1)^.ext^XO (a.objs.size+1) C o_) (a.objs.size+1)=H:=by
  funext b
  by_cases z:b=a.objs.size+1
  .rw[z,E3,d]
  .rw[Jl z,AL z]
 simp_all
end
abbrev WV:=Ends->XK->St->Hp->Prop
abbrev Ze:=XK->St->Hp->VK->Prop
def XE(X:Cx)(b:r_ (Ch×Obj))(c:St)(R:XK)(e:Db)(a:Go):Prop:=X.xe e a\/XS X b c R e a
def Zy(X:Cx)(c:gz)(t:WV):Prop:=
 ∀(a:r_ (Ch×Obj)) (s:Go) (b:St) (H:Hp) (D:Ends) (R:XK),Inv X a b H s->t D R b H->wpAny (model X.prog X.w) X.A (exec c X.env) (SP X a D) (XE X a b R) s
def Zg(X:Cx)(c:r_ gz)(t:WV):Prop:=
 ∀(a:r_ (Ch×Obj)) (s:Go) (b:St) (H:Hp) (D:Ends) (R:XK),Inv X a b H s->t D R b H->wpAny (model X.prog X.w) X.A (execs c X.env) (SP X a D) (XE X a b R) s
def eW(X:Cx)(e:gA)(t:Ze):Prop:=
 ∀(b:r_ (Ch×Obj)) (s:Go) (a:St) (H:Hp) (Q:VK) (R:XK),Inv X b a H s->t R a H Q->wpAny (model X.prog X.w) X.A (eval e X.env) (EP X b a Q) (XE X b a R) s
section
variable {st:Stmt}
theorem dC{t:Sem a}(h:wpAny (model X.prog X.w) X.A t Q X.xe s):wpAny (model X.prog X.w) X.A t Q (XE X b c R) s:=gQ h (λ_ _ z=>z) λ_ _ z=>.inl z
theorem Qf(hx:HG (Rq X.prog X.w) X R)(h:Zy X st t):PS X st (λD=>t D R):=λd s a H D I q=>
 gQ (h _ s a H D R I q) (λ_ _ z=>z) λe b z=>z.elim id fun#[H,s,J,c]=>hx _ a H s e b J c
theorem Sz(a:Zy X st t):Zg X [st] t:=by
 intro d s b H D R I h;refine mZ^gQ (a _ s b H D R I h) (λf e q=>?_) λ_ _ z=>z;cases f with
 |next=>
  let#[g,c,J,q]:=q;exact jr #[_,c,J,q]
 |brk=>exact q
 |cont=>exact q
 |ret v=>exact q
def U2(C:Ch)(k1 k2:Str)(ta:TA):WV:=λ_ R e H=>ta e H λg a=>∃b c,g=[b,c]/\∀d,a d=o_->R (.ref C) (P3 d)^Al a d^.ext^XF d [(k1,b),(k2,c)]
def U3(C:Ch)(ta:TA):WV:=λ_ R a H=>ta a H λb c=>b.length<=sizeLine/\R (.ref C) o_ c
theorem OJ(c:XC X.K nm C U)(i:PySem.W.findIn X.K (.ref C) "__init__"=P3^P3^.ref f)(j:PySem.W.typeIn X.K^.ref f=P3^.type "function")(F:qV X.prog X.w X.K X.mg X.base Ef k f fd [p0,p1,p2]^Iw C k1 k2)(l:Binds X.K fd [p0,p1,p2] [])
  (d:qj (k+1) X.A) (m:Gl X x) (n:X.mg x=P3^.ref C) (o:PA X (e::es) ta) (a:(x==("__debug__":Str))=q_:=by decide) (u:starEach (e::es) X.env=(q_,eval e X.env)::starEach es X.env:=by rfl) (b:(backTo cpos^starEach es X.env).any (·.1)=q_:=by rfl):
  Zy X (.Raise (P3^.Call (.Name x p) (e::es) [] cpos) o_ pos) (U2 C k1 k2 ta):=by
 intro B s v H D R I h;refine Kh c d.hd ?_ λ_ _ z=>.inr z;refine hU^Dy I m n ?_ a;refine PySem.W.callWith_K I.ok.mod.kin c.kp (thn (dC^o _ _ s v H _ I h) λE G zz=>?_) u b;let#[J,L,g,r,M,N,y,q]:=zz;refine #[g.kIn,?_];subst y;exact Vd c i j F l d g r q
theorem OK(c:XC X.K nm C U)(g:PySem.W.findIn X.K (.ref C) "__init__"=P3^P3^.builtin "ValueError.__init__")(i:X.A.handled=o_)(j:Gl X x)(k:X.mg x=P3^.ref C)(l:PA X (e::es) ta)(a:(x==("__debug__":Str))=q_:=by decide)(m:starEach (e::es) X.env=(q_,eval e X.env)::starEach es X.env:=by rfl)(b:(backTo cpos^starEach es X.env).any (·.1)=q_:=by rfl):
  Zy X (.Raise (P3^.Call (.Name x p) (e::es) [] cpos) o_ pos) (U3 C ta):=by
 intro u s n H D R I h;exact Kh c i (hU^Dy I j k (PySem.W.callWith_K I.ok.mod.kin c.kp (thn (dC^l _ _ s n H _ I h) λv w #[y,B,d,r,o,q]=>#[d.kIn,Ve c g d (by simp only[fw,←r.length]; exact o) q]) m b) a) λ_ _ z=>.inr z
def X_(sp:Sp)(ta:TA):Ze:=λR a H Q=>ta a H λb c=>sp b c Q R
theorem S8(F:qV X.prog X.w X.K X.mg X.base (Rq X.prog X.w) k f fd ps sp)(m:qj k X.A)(n:Gl X x)(o:X.mg x=P3^.ref f)(v:keepIn X.K^.ref f=p_)(y:Binds X.K fd ps [])
  (z:PA X (e::es) ta) (d:(x==("__debug__":Str))=q_:=by decide) (B:starEach (e::es) X.env=(q_,eval e X.env)::starEach es X.env:=by rfl) (g:(backTo pos^starEach es X.env).any (·.1)=q_:=by rfl):
  eW X (.Call (.Name x p) (e::es) [] pos) (X_ sp ta):=by
 intro D s E H Q R I h;refine hU^Dy I n o ?_ d;refine PySem.W.callWith_K (h₀:=X.base) I.ok.mod.kin v (thn (dC^z pos D s E H _ I h) λa i zz=>?_) B g;let#[j,l,b,r,q]:=zz;refine #[b.kIn,?_];have G:(a++[]).length=ps.length:=by simp only[gM,←r.length]; exact F.len _ _ _ _ q
 have J:qQ j (a++[]):=by simp_all
 refine i8^jj (F.run X.A X.stack i l #[a,[]] (a++[]) j Q R m b.env0 (y i a b.kIn G) J q) λr M c=>?_;cases r with
 |error e=>exact .inr #[l,i,b,c]
 |ok L=>
  cases L with
  |ret u=>exact b.after c
  |next=>exact gh c
  |brk=>exact gh c
  |cont=>exact gh c
def aG(i:Nat)(te:Ze):WV:=λD R a H=>te R a H λv b=>D.nx (a.set i^P3 v) b
theorem VC(b:X.N.Nodup)(c:X.N[i]?=P3 y)(d:Loc X.env.scope y)(g:eW X e te)(j:swapsWith e (P3^.Name y a) pos.line X.env=pure q_:=by rfl)(k:X.fn y=p_\/X.env.scope.names.lookup y=P3 .local:=by first|exact .inl rfl|exact .inr rfl|assumption):
  Zy X (.Assign [.Name y a] e pos) (aG i te):=λu s l H D R I h=>wpAny_Assign_Name (thn (g _ s l H _ R I h) λv w #[y,m,n,o,q]=>DV n b c d o (λz r=>#[_,m,r,q]) k) j
end
def Cx.vQ(X:Cx)(A:gE):Cx:={X with A:=A,calm:=q_,xe:=λ_ _=>False}
section

theorem Inv.vQ(I:Inv X zG σ H s)(a:A.frames=P3 X.stack):Inv (X.vQ A) zG σ H s:=
 #[#[I.ok.mod,I.ok.kind,I.ok.glob,I.ok.blt,I.ok.above,I.ok.inj,I.ok.has,I.ok.cab,λz=>absurd (z) f6,a,I.ok.stk,I.ok.exf,I.ok.bs,I.ok.bsz,I.ok.noex,I.ok.exfs,I.ok.vZ,I.ok.frf],I.os,I.bare,I.base,I.loc,I.cell,I.free,I.qA,I.pin,I.hok,I.len]
theorem Inv.unhush(I:Inv (X.vQ A) zG σ H s)(ok:X.Ok):Inv X zG σ H s:=#[ok,I.os,I.bare,I.base,I.loc,I.cell,I.free,I.qA,I.pin,I.hok,I.len]
theorem Inv.track(I:Inv X zG σ H s)(n:H a=o_)(d:X.s₀.heap.objs.size<=a)(f:a≠X.env.locals)(g:∀x c,X.env.cells.lookup x=P3 c->c≠a)(h:∀p∈X.pn++zG,p.1≠a)(new:qv X.prog X.w (Al H a o) s.heap a o):
  Inv X zG σ (Al H a o) s:=by
 have of:∀{b:Ch}{u:HO},H b=P3 u->Al H a o b=P3 u:=λ{b u} q=>by rw[AL λz=>by simp_all]; exact q
 refine I.step (g':=s.gens) (d':=s.drawn) (t':=s.toks) (h':=s.heap) (ch:=[a]) (λb l=>?_) (λb o _ _ _ e _=>e) (λb o _ _ _ e _=>#[o.slots,e]) (λb o i _ m=>?_) (λb o _ e=>#[o,e]) (λb j e=>of e) (λb o j e=>of e) (λb r e=>#[#[],by simp_all]) (λm k=>k) (λb u e=>?_) I.bare
 .have e:b=a:=by simp_all
  subst e;exact#[.inr d,f,g,h]
 .rw[AL λz=>i^by simp[z]]; exact m
 .by_cases z:b=a
  .subst z
   rw[AQ]at e
   simp_all
  .rw[AL z]at e
   exact(I.hok b u e).vX (λ_ _ _ q=>q) (λ_ q=>of q) λ_ _ q=>of q
theorem Inv.gone(I:Inv X zG σ H s)(E:X.N.Nodup)(F:X.N[i]?=P3 x)
  (G:∀(i:Nat) (x:Str) (v:V),X.N[i]?=P3 x->σ[i]?=P3^P3 v->QK X.env.scope x->∃u,RelV v u/\Look X.env s.heap m x u)
  (J:t.Ns X.env.locals λy=>if y=x then v else m y) (a:ji X.env.locals s.heap t):Inv X zG (σ.set i o_) H {s with heap:=t,toks:=D}:=by
 have f:∀{b:Ch}{o:Obj},X.s₀.heap.get? b=P3 o->b≠X.env.locals:=λ{b o} e=>f9^gD (Tk e) I.ok.above;refine#[I.ok,I.os,I.bare,#[λb o e n w l=>(a.2 b^f e).trans^I.base.keep b o e n w l,λb o e n w l=>?_,I.base.free,λb o e l=>?_,I.base.qI,I.base.vY,I.base.vV],#[_,J,λj y K g h L=>?_],λy c e=>?_,I.free,I.qA,λp M=>?_,λb o e=>?_,by simpa using I.len]
 .let#[O,g]:=I.base.slot b o e n w l
  exact#[O,(a.2 b^f e).trans g]
 .let#[P,g]:=I.base.there b o e l
  exact#[P,(a.2 b^f e).trans g]
 .by_cases B:j=i
  .subst B
   rw[mP]at h
   split at h
   .split at h <;>cases h
   .rename_i z; exact absurd rfl z
  .rw[lI^gf B]at h
   let#[Q,R,q]:=G j y K g h L;exists Q,R
   rcases q with⟨k,e⟩|⟨k,c,e,z⟩
   .refine .inl #[k,?_]
    have:y≠x:=λe=>B^JP E g (e▸F)
    simp[this,e]
   .exact .inr #[k,c,e,z.sameBut a^I.cne y c e]
 .let#[C,z]:=I.cell y c e
  exact#[C,z.sameBut a^I.cne y c e]
 .let#[e,n,f,S,d]:=I.pin p M
  exact#[(a.2 p.1 f).trans e,n,f,S,d]
 .refine(I.hok b o e).vX (λc C r q=>(a.2 c ?_).trans q) (λ_ q=>q) λ_ _ q=>q
  rintro rfl
  rcases r with rfl|r
  .rw[I.free]at e; cases e
  .rw[I.free]at r; cases r
end
def XT(C:Ch)(c:s_ Ch)(a:Ch)(u:HO):Prop:=∃b d,u=.frz #[.ref C,c,.fields b,d]^.own a/\b[2]?=P3 .none
abbrev TH:=Ends->Ch->s_ Ch->St->Hp->Prop
def PH(X:Cx)(g:r_ kP)(t:TH):Prop:=
 ∀(b:r_ (Ch×Obj)) (c:St) (D:Ends) (a C:Ch) (d:s_ Ch) (B:fz) (e:Hp) (f:Go) (H:Hp) (s:Go),Inv X b c e f->CXD X.prog X.w X.stack e f a C d B H s->t D C d c H->
  wpAny (model X.prog X.w) X.A (handleBy (.ref a) X.env g) (SP X b D) X.xe s
section

def aK(K:Frag)(Dc:Ch)(i:Nat)(ts:Ch->TS)(th:TH):TH:=λD C d e H=>∃nm U,XC K nm C U/\((C=Dc\/U=Dc)/\(∀a u,H a=o_->XT C d a u->ts a {nx:=λb c=>D.nx (b.set i o_) c,rt:=D.rt,bk:=λb c=>D.bk (b.set i o_) c,ct:=λb c=>D.ct (b.set i o_) c} (e.set i^P3^.ref a)^Al H a u)\/C≠Dc/\U≠Dc/\th D C d e H)
def Z1(K:Frag)(D:Ch):Prop:=∃nm q N d c e f a g b h j k l m o,K.lookup D=P3^excClassObj nm q D N d c e f a g b h j k l m o "ValueError.__new__"/\c.contains^.type "BaseException"=p_
theorem XC.isX{K:Frag}(c:XC K nm C U):Z1 K C:=by
 let#[q,N,a,b,d,f,g,h,j,k,l,m,o,e]:=c.obj;exact#[nm,q,N,a,_,_,b,_,f,_,h,j,k,l,m,o,e,by simp[Cy]]
theorem XC.isU{K:Frag}(c:XC K nm C U):Z1 K U:=by
 let#[q,N,a,b,d,f,g,h,j,k,l,m,o,p,e]:=c.up;exact#[_,q,N,a,_,_,b,_,f,_,h,j,k,l,m,o,e,by simp[Cy]]
theorem Hf:(fj C::fj U::Cy).contains^.ref D=(decide (C=D)||decide (U=D)):=by
 simp only[List.contains_cons,Cy,List.contains_nil]
 have d:∀(a b:Ch),(fj a==fj b)=decide (b=a):=λa b=>by
  grind
 have c:∀T,(fj D==gR T)=q_:=λT=>rfl;simp only[d,d,c,c,c,c];simp
theorem VL(hN:X.N.Nodup)(hi:X.N[i]?=P3 n)(R:X.env.scope.names.lookup n=P3 .local)(hg:Gl X x)(hm:X.mg x=P3^.ref Dc)(hD:Z1 X.K Dc)(a3:X.stack=X.env::X.outer)(a4:X.env.frame=P3 X.env.locals)
  (hs:∀a,PSs (X.vQ^X.A.mark^P3^.ref a) (b₀::suite)^ts a) (o:PH X rest th) (hd:(x==("__debug__":Str))=q_:=by decide):
  PH X (.ExceptHandler (P3^.Name x np) (P3 n) (b₀::suite) pos::rest) (aK X.K Dc i ts th):=by
 intro t σ D a C dx B H0 s0 H s I c h;let#[nm,U,xc,h]:=h;have J:=c.inv I;have E:(X.A.mark^P3^.ref a).frames=P3 X.stack:=I.ok.frames;have J':=J.vQ E;refine wpAny_handleBy_cons (codeAny_handlers_test ?_) (by intro q; cases q);refine Dy (X:=X.vQ^X.A.mark^P3^.ref a) J' hg hm ?_ hd;let#[a5,q',N',a6,a7,a8,a9,a1,b0,a2,b1,l0,l1,l2,l3,l5,eD,hB]:=hD;let#[q,N,bs,sn,b2,ab,b3,dd,k0,k1,k2,k3,k5,eC]:=xc.obj;let#[vs,sl,tb,hx,h2,h1,hT]:=c.fly.obj;let#[hh,g,dr,tk,os]:=s;refine RQ (J.kIn _ _ eC) (J.kIn _ _ eD) hB hx rfl ?_;rw[Hf]
 rcases h with⟨S,h⟩|⟨n1,n2,h⟩
 .have e:(decide (C=Dc)||decide (U=Dc))=p_:=by rcases S with z|z <;>simp[z]
  rw[e];refine codeAny_handlers_suite_as ?_;refine Ft (s:=#[hh,g,dr,tk,os]) c.fly λh' f' u'=>?_;have c2:=c.step f' u';have J2:=c2.inv I;let#[F,G,b4,L,T,_]:=f'.obj
  have J3:Inv X t σ (Al H a^.frz #[.ref C,dx,.fields F,G]^.own a) #[h',g,dr,tk,os]:=by
   refine J2.track c.free (f_ I.sz c.new) (i7^gD I.lt c.new) (λy c' e z=>?_) (λp hp z=>?_) #[L,_,L]
   .let#[v,q]:=I.cell y c' e
    exact absurd (gD q.lt c.new)^by rw[z]; exact gS _
   .exact absurd (gD (Tk (I.pin p hp).1) c.new)^by rw[z]; exact gS _
  refine DV J3 hN hi (.inl R) (v:=.ref a) (u:=.ref a) rfl (λs4 J4=>?_) (.inr R);have V:=hs a t s4 _ _ _ (J4.vQ E)^h a _ c.free #[F,G,rfl,T];refine gQ V (λf W O=>?_) λe W z=>z.elim
  have j:∀{k:St}{b:Hp}{P:St->Hp->Prop}{Q:Go->Prop},Inv (X.vQ^X.A.mark^P3^.ref a) t k b W->P (k.set i o_) b->(∀l,Inv X t (k.set i o_) b l->Q l)->
    wpAny (model X.prog X.w) X.A (do bindName X.env n .none; unbindBehindTheSuite X.env n pos) (λ_ l=>Q l) X.xe W:=λ{k b P Q} d _ kq=>by
   let#[m,hn,Y]:=d.loc;refine wpAny_nameGoes_keeps (M:=model X.prog X.w) R hn (by show(X.env.scope.kind==.class||(X.env.scope.kind==.module&&X.env.locals !=X.env.globals))=q_; rw[I.ok.kind]; rfl) λh6 v Z a0=>?_;exact kq _^(d.unhush I.ok).gone hN hi Y Z a0
  cases f with
  |next=>
   let#[k,b,d,q]:=O;exact j (P:=D.nx) d q λl r=>#[_,b,r,q]
  |brk=>
   let#[k,b,d,q]:=O;exact j (P:=D.bk) d q λl r=>#[_,b,r,q]
  |cont=>
   let#[k,b,d,q]:=O;exact j (P:=D.ct) d q λl r=>#[_,b,r,q]
  |ret u=>
   let#[v,k,b,d,rv,q]:=O;exact j (P:=λ_ b=>D.rt v b) d q λl r=>#[v,_,b,r,rv,q]
 .have e:(decide (C=Dc)||decide (U=Dc))=q_:=by simp[n1,n2]
  rw[e];exact o t σ D a C dx B H0 s0 H _ I c h
def X6:TH:=λ_ _ _ _ _=>False
theorem YS:PH X [] X6:=λ_ _ _ _ _ _ _ _ _ _ _ _ _ h=>h.elim
def dG(tb:WV)(th:TH):TS:=λD a H=>tb D (λC c d=>∃b,C=.ref b/\th D b c a d) a H
theorem YN(d:X.stack=X.env::X.outer)(g:X.env.frame=P3 X.env.locals)(hx:∀e s,X.xe e s->False)(p:Zg X body tb)(r:PH X (b::rest) th):PS X (.Try body (b::rest) [] [] pos)^dG tb th:=by
 intro k s l H D I h;refine wpAny_Try_except^gQ (p k s l H D _ I h) (λf m q=>?_) λe m q=>?_
 .cases f with
  |next=>exact jr q
  |_=>exact q
 .rcases q with q|⟨t,u,v,a,C,w,B,y,rfl,c,M,z,j⟩
  .grind
  .cases z
   have o:=c.fly;rw[d]at o;have fr:=I.ok.frames;rw[d]at fr;refine NS fr g o λA E F=>?_;have G:=c.step (by simp_all) F;refine Ft (s:={m with heap:=A}) E λN J K=>?_;have L:=G.step (by rw[d]; exact J) K;exact r k l D a C w B t u y _ v L j
end
end L2
namespace Dp
open L2
inductive D where
 |non|bl (b:Bool)|int (i:Int)|str (x:Str)|tup (xs:List D)|lst (xs:List D)|dic (ks:List Key) (xs:List D)|fdi (ks:List Key) (xs:List D)|dit (ks:List^List Key) (xs:List D)
 deriving Inhabited
def NdT(M:Ch->Prop)(H:Hp)(a:Ch)(b:r_ V):Prop:=H a=P3^.tup b
def NdL(M:Ch->Prop)(H:Hp)(a:Ch)(b:r_ V):Prop:=¬M a/\H a=P3^.lst b
def NdD(M:Ch->Prop)(H:Hp)(a:Ch)(b:r_ Key)(c:r_ V):Prop:=¬M a/\H a=P3^.dK^b.zip c
def NdF(M:Ch->Prop)(H:Hp)(a:Ch)(b:r_ Key)(c:r_ V):Prop:=∃o,¬M a/\H a=P3^.frz o^.dK^b.zip c
def NdU(M:Ch->Prop)(H:Hp)(a:Ch)(b:r_^r_ Key)(c:r_ V):Prop:=¬M a/\H a=P3^.dT^b.zip c
mutual
def At(K:Frag)(M:Ch->Prop)(H:Hp):D->V->Prop
 |.non,v=>v=.non
 |.bl b,v=>v=.bl b
 |.int i,v=>v=.int i
 |.str x,v=>v=.str x/\x.length<=sizeLine
 |.tup ds,v=>∃a vs,v=.ref a/\NdT M H a vs/\Ats K M H ds vs
 |.lst ds,v=>∃a vs,v=.ref a/\NdL M H a vs/\Ats K M H ds vs
 |.dic ks ds,v=>∃a vs,v=.ref a/\NdD M H a ks vs/\ks.length=ds.length/\Ats K M H ds vs
 |.fdi ks ds,v=>∃a vs,v=.ref a/\NdF M H a ks vs/\ks.length=ds.length/\Ats K M H ds vs
 |.dit ks ds,v=>∃a vs,v=.ref a/\NdU M H a ks vs/\ks.length=ds.length/\Ats K M H ds vs
def Ats(K:Frag)(M:Ch->Prop)(H:Hp):r_ D->r_ V->Prop
 |[],vs=>vs=[]
 |d::ds,vs=>∃v r,vs=v::r/\At K M H d v/\Ats K M H ds r
end
section
variable {K:Frag}
theorem NdT.sq(h:NdT M H a vs):SqT K H a vs:=.inl^.inl h
theorem NdL.sq(h:NdL M H a vs):SqL K H a vs:=.inl^.inl h.2
def qZ(M:Ch->Prop)(H:Hp)(M':Ch->Prop)(H':Hp):Prop:=(∀b o,H b=P3 o->¬M b->H' b=P3 o)/\(∀b,M' b->M b\/H b=o_)/\∀b vs,H b=P3^.tup vs->H' b=P3^.tup vs
theorem qZ.nd(p:qZ M H M' H')(n:¬M a)(h:H a=P3 u):¬M' a/\H' a=P3 u:=by
 refine#[λz=>?_,p.1 _ _ h n]
 rcases p.2.1 a z with z|z
 .exact n z
 simp_all
theorem NdT.qq(p:qZ M H M' H')(h:NdT M H a vs):NdT M' H' a vs:=p.2.2 _ _ h
theorem NdL.qq(p:qZ M H M' H')(h:NdL M H a vs):NdL M' H' a vs:=p.nd h.1 h.2
theorem NdD.qq(p:qZ M H M' H')(h:NdD M H a ks vs):NdD M' H' a ks vs:=p.nd h.1 h.2
theorem NdU.qq{ks:r_^r_ Key}(p:qZ M H M' H')(h:NdU M H a ks vs):NdU M' H' a ks vs:=p.nd h.1 h.2
theorem NdF.qq(p:qZ M H M' H')(h:NdF M H a ks vs):NdF M' H' a ks vs:=let #[o,b,c]:=h; #[o,p.nd b c]
mutual
theorem At.qq(p:qZ M H M' H'):∀{d:D}{v:V},At K M H d v->At K M' H' d v
 |.non,v,h=>h
 |.bl b,v,h=>h
 |.int i,v,h=>h
 |.str x,v,h=>h
 |.tup ds,v,h=>by
  let#[a,vs,e,hn,hs]:=h;exact#[a,vs,e,hn.qq p,Ats.qq p hs]
 |.lst ds,v,h=>by
  let#[a,vs,e,hn,hs]:=h;exact#[a,vs,e,hn.qq p,Ats.qq p hs]
 |.dic ks ds,v,h=>by
  let#[a,vs,e,hn,hl,hs]:=h;exact#[a,vs,e,hn.qq p,hl,Ats.qq p hs]
 |.fdi ks ds,v,h=>by
  let#[a,vs,e,hn,hl,hs]:=h;exact#[a,vs,e,hn.qq p,hl,Ats.qq p hs]
 |.dit ks ds,v,h=>by
  let#[a,vs,e,hn,hl,hs]:=h;exact#[a,vs,e,hn.qq p,hl,Ats.qq p hs]
theorem Ats.qq(p:qZ M H M' H'):∀{ds:r_ D}{vs:r_ V},Ats K M H ds vs->Ats K M' H' ds vs
 |[],vs,h=>h
 |d::ds,vs,h=>by
  let#[v,r,e,h1,h2]:=h;exact#[v,r,e,At.qq p h1,Ats.qq p h2]
end
theorem qZ.trans{M1 M2 d:Ch->Prop}(p:qZ M1 c M2 H2)(q:qZ M2 H2 d f):qZ M1 c d f:=by
 refine#[λb o e n=>?_,λb z=>?_,λb vs e=>q.2.2 b vs^p.2.2 b vs e]
 .refine q.1 b o (p.1 b o e n) λz=>?_
  rcases p.2.1 b z with z|z
  .exact n z
  simp_all
 .rcases q.2.1 b z with z|z
  .exact p.2.1 b z
  .cases e:c b with
   |none=>simp_all
   |some o=>
    by_cases n:M1 b
    .exact .inl n
    .rw[p.1 b o e n]at z; cases z
theorem qZ.refl(M:Ch->Prop)(H:Hp):qZ M H M H:=#[λ_ _ e _=>e,λ_ z=>.inl z,λ_ _ e=>e]
theorem qZ.less(h:∀b,M' b->M b):qZ M H M' H:=#[λ_ _ e _=>e,λb z=>.inl^h b z,λ_ _ e=>e]
theorem Ats.length:∀{b:r_ D}{vs:r_ V},Ats K M H b vs->vs.length=b.length
 |[],vs,h=>by subst h; rfl
 |d::b,vs,h=>by
  let#[v,r,e,f,c]:=h;subst e;simp only[eq,eq,Ats.length c]
theorem Ats.get:∀{b:r_ D}{vs:r_ V}{i:Nat}{d:D},Ats K M H b vs->b[i]?=P3 d->∃v,vs[i]?=P3 v/\At K M H d v
 |[],vs,i,d,h,e=>by simp at e
 |f::b,vs,0,d,h,e=>by
  let#[v,r,g,j,c]:=h
  simp_all
 |f::b,vs,i+1,d,h,e=>by
  let#[v,r,g,j,c]:=h;let#[u,k,l]:=Ats.get c^by simpa using e
  simp_all
theorem Ats.append:∀{f b:r_ D}{vs c:r_ V},Ats K M H f vs->Ats K M H b c->Ats K M H (f++b) (vs++c)
 |[],b,vs,c,h,g=>by subst h; exact g
 |d::f,b,vs,c,h,g=>by
  let#[v,r,e,i,j]:=h;subst e;exact#[v,_,rfl,i,Ats.append j g]
theorem Ats.drop:∀{b:r_ D}{vs:r_ V} (n:Nat),Ats K M H b vs->Ats K M H (b.drop n)^vs.drop n
 |b,vs,0,h=>h
 |[],vs,n+1,h=>by subst h; exact rfl
 |d::b,vs,n+1,h=>by
  let#[v,r,e,f,c]:=h;subst e;exact Ats.drop n c
theorem Ats.take:∀{b:r_ D}{vs:r_ V} (n:Nat),Ats K M H b vs->Ats K M H (b.take n)^vs.take n
 |b,vs,0,h=>rfl
 |[],vs,n+1,h=>by subst h; exact rfl
 |d::b,vs,n+1,h=>by
  let#[v,r,e,c,f]:=h;subst e;exact#[v,_,rfl,c,Ats.take n f]
theorem Ats.one(h:At K M H d v):Ats K M H [d] [v]:=#[v,[],rfl,h,rfl]
theorem Ats.eraseIdx:∀{b:r_ D}{vs:r_ V} (i:Nat),Ats K M H b vs->Ats K M H (b.eraseIdx i)^vs.eraseIdx i
 |[],vs,i,h=>by subst h; exact rfl
 |f::b,vs,0,h=>by
  let#[u,r,c,d,e]:=h
  simp_all
 |f::b,vs,i+1,h=>by
  let#[u,r,c,d,e]:=h;subst c;exact#[u,_,rfl,d,Ats.eraseIdx i e]
theorem Ats.reverse:∀{b:r_ D}{vs:r_ V},Ats K M H b vs->Ats K M H b.reverse vs.reverse
 |[],vs,h=>by subst h; exact rfl
 |d::b,vs,h=>by
  let#[v,r,e,c,f]:=h;subst e;simp only[j1,j1];exact Ats.append (Ats.reverse f)^Ats.one c
end
inductive Kd where
 |sh|tp|fr
def zk(K:Frag)(M:Ch->Prop)(H:Hp)(a:Ch):D->Prop
 |.lst c=>∃b,H a=P3^.lst b/\Ats K M H c b
 |.dic d c=>∃b,H a=P3^.dK^d.zip b/\d.length=c.length/\Ats K M H c b
 |.dit d c=>∃b,H a=P3^.dT^d.zip b/\d.length=c.length/\Ats K M H c b
 |_=>False
theorem zk.notT{K:Frag}(h:zk K M H a d):H a≠P3^.tup f:=λq=>by
 cases d with
 |lst b=>let#[c,e,_]:=h; simp_all
 |dic g b=>let#[c,e,_]:=h; simp_all
 |dit g b=>let#[c,e,_]:=h; simp_all
 |_=>exact h.elim
theorem zk.qq{K:Frag}(h:zk K M H a d)(p:qZ M H j g)(e:∀o,H a=P3 o->g a=P3 o):zk K j g a d:=by
 cases d with
 |lst k=>let#[b,c,f]:=h; exact#[b,e _ c,f.qq p]
 |dic l k=>let#[b,c,f,i]:=h; exact#[b,e _ c,f,i.qq p]
 |dit l k=>let#[b,c,f,i]:=h; exact#[b,e _ c,f,i.qq p]
 |_=>assumption
theorem zk.at{K:Frag}(h:zk K M H a d)(n:¬M a):At K M H d^.ref a:=by
 cases d with
 |lst g=>let#[b,c,e]:=h; exact#[a,b,rfl,#[n,c],e]
 |dic i g=>let#[b,c,e,f]:=h; exact#[a,b,rfl,#[n,c],e,f]
 |dit i g=>let#[b,c,e,f]:=h; exact#[a,b,rfl,#[n,c],e,f]
 |_=>exact(h).elim
def AtT(K:Frag)(U:Ch->Prop)(M:Ch->Prop)(H:Hp):D->V->Prop
 |.lst c,v=>∃a b,v=.ref a/\¬U a/\Rd H a^.lst b/\Ats K M H c b
 |.dic e c,v=>∃a b,v=.ref a/\¬U a/\H a=P3^.dK^e.zip b/\e.length=c.length/\Ats K M H c b
 |.dit e c,v=>∃a b,v=.ref a/\¬U a/\H a=P3^.dT^e.zip b/\e.length=c.length/\Ats K M H c b
 |d,v=>At K M H d v
theorem zk.att{K:Frag}(h:zk K M H a d)(n:¬U a):AtT K U M H d^.ref a:=by
 cases d with
 |lst g=>let#[b,c,e]:=h; exact#[a,b,rfl,n,.inl c,e]
 |dic i g=>let#[b,c,e,f]:=h; exact#[a,b,rfl,n,c,e,f]
 |dit i g=>let#[b,c,e,f]:=h; exact#[a,b,rfl,n,c,e,f]
 |_=>exact(h).elim
def VR(K:Frag)(U:Ch->Prop)(M:Ch->Prop)(H c:Hp):Kd->V->D->Prop
 |.sh,v,d=>At K M c d v
 |.tp,v,d=>AtT K U M c d v
 |.fr,v,d=>∃a,v=.ref a/\H a=o_/\zk K (λb=>M b\/b=a) c a d
def vR(K:Frag)(M:Ch->Prop)(H:Hp)(f:Ch×Ch)(n:Nat):Prop:=
 ∃(at_ b:Int) (a:r_ Int),H f.1=P3^.lst [.ref f.2,.int at_,.int b]/\f.2≠f.1/\NdL M H f.2^a.map V.int/\a.length<=63/\0<=at_/\at_+n<=2 ^ 60
def qk(K:Frag)(F:s_ (Ch×Ch))(M:Ch->Prop)(H:Hp)(n:Nat):Prop:=∀f,F=P3 f->vR K M H f n
def Ext(U:Ch->Prop)(H c:Hp):Prop:=∀b o,H b=P3 o->∃a,c b=P3 a/\(¬U b->a=o)/\∀d,o=.tup d->a=o
theorem Ext.keep(p:Ext U H a)(e:H b=P3 o)(n:¬U b):a b=P3 o:=by
 let#[c,q,r,_]:=p b o e;rw[q,r n]
theorem Ext.tup{U:Ch->Prop}{H a:Hp}(p:Ext U H a){b:Ch}{c:r_ V}(e:H b=P3^.tup c):a b=P3^.tup c:=by
 let#[d,q,_,r]:=p b _ e
 simp_all
theorem Ext.free(p:Ext U H a)(e:a b=o_):H b=o_:=by
 cases q:H b with
 |none=>rfl
 |some o=>
  let#[c,z,_]:=p b o q
  simp_all
theorem Ext.refl(U:Ch->Prop)(H:Hp):Ext U H H:=λ_ o e=>#[o,e,λ_=>rfl,λ_ _=>rfl]
theorem Ext.trans(p:Ext U c H2)(q:Ext U H2 d):Ext U c d:=λb o e=>by
 let#[g,h,i,f]:=p b o e;let#[j,k,l,m]:=q b g h;exact#[j,k,λn=>(l n).trans^i n,λa z=>(m a^(f a z).trans z).trans^f a z]
def qW(H a:Hp):Prop:=a=H\/∃p o,H p=o_/\a=Al H p o
theorem qW.all(g:qW H a):∀b o,H b=P3 o->a b=P3 o:=by
 intro b o e
 rcases g with rfl|⟨p,u,n,rfl⟩
 .exact e
 .rw[AL^Ak e n]; exact e
theorem qW.refl:qW H H:=.inl rfl
theorem qW.ext(g:qW H a):Ext U H a:=λb o e=>#[o,g.all b o e,λ_=>rfl,λ_ _=>rfl]
theorem qW.qq(g:qW H a):qZ M H M a:=#[λb o e _=>g.all b o e,λ_ z=>.inl z,λb c e=>g.all b _ e]
theorem vR.qq{K:Frag}(h:vR K M H f n)(p:qZ M H c b)(e:∀o,H f.1=P3 o->b f.1=P3 o):vR K c b f n:=by
 let#[a,r,d,g,i,j,k]:=h;exact#[a,r,d,e _ g,i,j.qq p,k]
theorem qk.qq{K:Frag}(h:qk K F M H n)(p:qZ M H b a)(e:∀f o,F=P3 f->H f.1=P3 o->a f.1=P3 o):qk K F b a n:=λf c=>(h f c).qq p λo q=>e f o c q
theorem qk.grow{K:Frag}(h:qk K F M H n)(g:qW H a):qk K F M a n:=h.qq g.qq λf o _ e=>g.all _ o e
theorem qk.more{K:Frag}(h:qk K F M H n)(a:Ch)(e:∀f,F=P3 f->f.2≠a):qk K F (λb=>M b\/b=a) H n:=λf c=>by
 let#[x,r,g,i,j,d,k]:=h f c;exact#[x,r,g,i,j,#[λz=>z.elim d.1^e f c,d.2],k]
def AtX(K:Frag)(M:Ch->Prop)(H:Hp)(a:Ch)(g:Str)(b:r_ Str)(f:r_ D):Prop:=∃C U c u e,XC K g C U/\(¬M a/\H a=P3 u)/\XT C c a u/\(c=o_/\b=[]/\e=[]\/∃d,c=P3 d/\¬M d/\H d=P3^.ext^XF d^b.zip e)/\b.length=f.length/\Ats K M H f e
theorem AtX.qq{K:Frag}(h:AtX K M H a f g i)(p:qZ M H b e):AtX K b e a f g i:=by
 let#[C,U,j,u,k,c,#[n,l],x,m,o,q]:=h;refine#[C,U,j,u,k,c,p.nd n l,x,?_,o,q.qq p]
 rcases m with z|⟨d,r,s,t⟩
 .exact .inl z
 .exact .inr #[d,r,p.nd s t]
inductive Slot where
 |no|sh (d:D)|br (d:D)|fd|ow (d:D)|lt (a:Ch) (d:D)|ex (a:Ch) (nm:Str) (ks:List Str) (ds:List D)
def Slot.vW:Slot->Bool
 |.ow _=>p_
 |.lt _ _=>p_
 |_=>q_
def qO(K:Frag)(F:s_ (Ch×Ch))(U:Ch->Prop)(M:Ch->Prop)(H:Hp):Slot->s_ V->Prop
 |.no,_=>True
 |.sh d,o=>∃v,o=P3 v/\At K M H d v
 |.br d,o=>∃v,o=P3 v/\AtT K U M H d v
 |.fd,o=>∃f,o=P3^.ref f.1/\F=P3 f
 |.ow d,o=>∃a,o=P3^.ref a/\M a/\¬U a/\zk K M H a d
 |.lt a d,o=>o=P3^.ref a/\M a/\¬U a/\zk K M H a d
 |.ex a b c e,o=>o=P3^.ref a/\AtX K M H a b c e
structure Fm where
 M0:Ch->Prop
 F:Option (Ch×Ch)
 U:Ch->Prop
 V:Ch->Prop
 H0:Hp
 zG:List ((Ch->Prop)×Hp)
 kp:List (Ch×HO)
def Apart(b:r_ Slot)(c:L2.St):Prop:=∀(i j:Nat) (s t:Slot) (a:Ch),b[i]?=P3 s->s.vW=p_->b[j]?=P3 t->t.vW=p_->(c[i]?).getD o_=P3^.ref a->(c[j]?).getD o_=P3^.ref a->i=j
structure Rel (K:Frag) (C:Fm) (M:Ch->Prop) (H:Hp) (n:Nat) (ρ:List Slot) (σ:L2.St):Prop where
 len:ρ.length=σ.length
 sub:∀a,C.M0 a->M a
 dom:∀a,M a->∃o,H a=P3 o
 ext:Ext C.U C.H0 H
 fU:∀f,C.F=P3 f->C.U f.1
 uV:∀a,C.U a->C.V a
 vM:∀a,C.V a->M a
 feed:qk K C.F M H n
 sl:∀(i:Nat) (s:Slot),ρ[i]?=P3 s->qO K C.F C.V M H s ((σ[i]?).getD o_)
 pin:∀p∈C.zG,qZ p.1 p.2 M H
 br0:∀(i:Nat) (d:D) (a:Ch),ρ[i]?=P3^.br d->(σ[i]?).getD o_=P3^.ref a->∃o,C.H0 a=P3 o
 new:∀(i:Nat) (s:Slot) (a:Ch),ρ[i]?=P3 s->s.vW=p_->(σ[i]?).getD o_=P3^.ref a->¬C.M0 a/\C.H0 a=o_
 two:Apart ρ σ
 kept:∀p∈C.kp,H p.1=P3 p.2/\M p.1/\¬C.V p.1/\∀(i:Nat) (d:D),ρ[i]?=P3^.ow d->(σ[i]?).getD o_≠P3^.ref p.1
section
variable {K:Frag}
theorem Rel.qq(R:Rel K C M H n ρ σ)(e:Ext C.U H H'):qZ M H M H':=#[λb o q a=>e.keep q λz=>a^R.vM b^R.uV b z,λ_ z=>.inl z,λb c q=>e.tup q]
theorem AtT.qq(h:AtT K q M H d v)(p:qZ M H s H')(e:Ext U H H')(l:∀a,U a->q a):AtT K q s H' d v:=by
 cases d with
 |lst m=>
  let#[a,g,j,c,f,k]:=h;refine#[a,g,j,c,?_,k.qq p]
  rcases f with f|⟨o,f⟩
  .exact .inl^e.keep f λz=>c^l a z
  .exact .inr #[o,e.keep f λz=>c^l a z]
 |dic t m=>
  let#[a,g,j,c,f,r,k]:=h;exact#[a,g,j,c,e.keep f λz=>c^l a z,r,k.qq p]
 |dit t m=>
  let#[a,g,j,c,f,r,k]:=h;exact#[a,g,j,c,e.keep f λz=>c^l a z,r,k.qq p]
 |non=>assumption
 |bl b=>assumption
 |int i=>assumption
 |str x=>assumption
 |tup m=>exact At.qq p h
 |fdi t m=>exact At.qq p h
theorem AtT.same(h:AtT K U M H d v)(p:qZ M H s H')(e:∀a o,v=.ref a->H a=P3 o->H' a=P3 o)(m:∀a,v=.ref a->¬U a->¬r a):AtT K r s H' d v:=by
 cases d with
 |lst l=>
  let#[a,g,c,j,f,k]:=h;refine#[a,g,c,m a c j,?_,k.qq p]
  rcases f with f|⟨o,f⟩
  .exact .inl^e a _ c f
  .exact .inr #[o,e a _ c f]
 |dic t l=>
  let#[a,g,c,j,f,q,k]:=h;exact#[a,g,c,m a c j,e a _ c f,q,k.qq p]
 |dit t l=>
  let#[a,g,c,j,f,q,k]:=h;exact#[a,g,c,m a c j,e a _ c f,q,k.qq p]
 |non=>assumption
 |bl b=>assumption
 |int i=>assumption
 |str x=>assumption
 |tup l=>exact At.qq p h
 |fdi t l=>exact At.qq p h
theorem AtT.lies(h:AtT K U M H d^.ref a):∃o,H a=P3 o:=by
 cases d with
 |lst f=>
  let#[b,g,e,_,c,_]:=h;injection e with e;subst e
  rcases c with c|⟨o,c⟩
  .exact#[_,c]
  simp_all
 |dic j f=>
  let#[b,g,e,_,c,_]:=h
  simp_all
 |dit j f=>
  let#[b,g,e,_,c,_]:=h
  simp_all
 |non=>cases(h)
 |bl b=>cases(h)
 |int i=>cases(h)
 |str x=>cases(h).1
 |tup f=>
  let#[b,g,e,c,_]:=h;injection e with e;subst e;exact#[_,c]
 |fdi j f=>
  let#[b,g,e,#[o,_,c],_]:=h
  simp_all
theorem qO.qq(h:qO K F g M H s o)(p:qZ M H i H')(m:∀a,M a->i a)(e:Ext U H H')(j:∀a,U a->g a):qO K F g i H' s o:=by
 cases s with
 |no=>trivial
 |sh d=>let#[v,b,c]:=h; exact#[v,b,c.qq p]
 |ex a l r t=>let#[b,c]:=h; exact#[b,c.qq p]
 |br d=>let#[v,b,c]:=h; exact#[v,b,c.qq p e j]
 |fd=>exact h
 |ow d=>let#[a,b,c,f,k]:=h; exact#[a,b,m a c,f,k.qq p λo q=>e.keep q λz=>f^j a z]
 |lt a d=>let#[b,c,f,k]:=h; exact#[b,m a c,f,k.qq p λo q=>e.keep q λz=>f^j a z]
theorem Rel.step(R:Rel K C M H n ρ σ)(e:Ext C.U H H')(f:qk K C.F M H' n'):Rel K C M H' n' ρ σ:=by
 have p:=R.qq e;refine#[R.len,R.sub,λa z=>?_,R.ext.trans e,R.fU,R.uV,R.vM,f,λi s q=>(R.sl i s q).qq p (λ_ z=>z) e R.uV,λq b=>(R.pin q b).trans p,R.br0,R.new,R.two,λq b=>?_]
 .let#[o,c]:=R.dom a z
  let#[k,g,_]:=e a o c
  simp_all
 .let#[c,g,h,j]:=R.kept q b
  exact#[e.keep c λz=>h^R.uV _ z,g,h,j]
theorem Rel.udom(R:Rel K C M H n ρ σ):∀a,C.U a->∃o,H a=P3 o:=λa z=>R.dom a^R.vM a^R.uV a z
theorem At.tp(k:∀a,U a->M a)(h:At K M H d v):AtT K U M H d v:=by
 cases d with
 |lst j=>
  let#[a,f,e,c,g]:=h;exact#[a,f,e,λz=>c.1^k a z,.inl c.2,g]
 |dic m j=>
  let#[a,f,e,c,l,g]:=h;exact#[a,f,e,λz=>c.1^k a z,c.2,l,g]
 |dit m j=>
  let#[a,f,e,c,l,g]:=h;exact#[a,f,e,λz=>c.1^k a z,c.2,l,g]
 |non=>exact h
 |bl b=>exact h
 |int i=>exact h
 |str x=>exact h
 |tup j=>exact h
 |fdi m j=>exact h
theorem VR.back(e:Ext U H c)(h:VR K b M c H' κ v d):VR K b M H H' κ v d:=by
 cases κ with
 |sh=>exact h
 |tp=>exact h
 |fr=>
  let#[a,f,g,i]:=h;exact#[a,f,e.free g,i]
theorem VR.zj(b:∀a,M a->∃o,H a=P3 o)(h:VR K U M H H' κ v d)(e:κ≠.tp):At K M H' d v:=by
 cases κ with
 |sh=>exact h
 |tp=>simp_all
 |fr=>
  let#[a,rfl,f,c]:=h;refine(c.qq (qZ.less λ_ z=>.inl z) λ_ z=>z).at λz=>?_
  grind
theorem VR.qw(b:∀a,M a->∃o,H a=P3 o)(c:∀a,U a->M a)(h:VR K U M H H' κ v d):AtT K U M H' d v:=by
 cases κ with
 |sh=>exact At.tp c h
 |tp=>exact h
 |fr=>exact At.tp c^VR.zj b h^by simp_all
theorem EQ{a:Type}{l:r_ a}{x y:a}(h:(l.set i x)[j]?=P3 y):(j=i/\i<l.length/\y=x)\/(j≠i/\l[j]?=P3 y):=by
 rw[mP]at h
 by_cases e:i=j
 .simp_all
 .rw[if_neg e]at h
  exact .inr #[λz=>e z.symm,h]
theorem Fd{l:L2.St}(h:j≠i):((l.set i x)[j]?).getD o_=(l[j]?).getD o_:=by
 rw[mP,if_neg λz=>h z.symm]
theorem OD{l:L2.St}(h:i<l.length):((l.set i x)[i]?).getD o_=x:=by
 simp_all
theorem Rel.set(R:Rel K C M H n ρ σ)(h:At K M H d v):Rel K C M H n (ρ.set i^.sh d)^σ.set i^P3 v:=by
 have b:∀(j:Nat) (s:Slot),(ρ.set i^.sh d)[j]?=P3 s->s.vW=p_->ρ[j]?=P3 s/\((σ.set i^P3 v)[j]?).getD o_=(σ[j]?).getD o_:=λj s q o=>by
  rcases EQ q with⟨_,_,rfl⟩|⟨f,q⟩
  .cases o
  .exact#[q,Fd f]
 refine#[by simp only[jA,jA]; exact R.len,R.sub,R.dom,R.ext,R.fU,R.uV,R.vM,R.feed,λj s q=>?_,R.pin,λj e a q c=>?_,λj s a q o c=>?_,λj k s t a g m c r u w=>?_,λp x=>?_]
 .rcases EQ q with⟨rfl,y,rfl⟩|⟨f,q⟩
  .rw[OD^by simp only[←R.len]; exact y]
   exact#[v,rfl,h]
  .rw[Fd f]
   exact R.sl j s q
 .rcases EQ q with⟨_,_,e⟩|⟨f,q⟩
  .cases e
  .rw[Fd f]at c
   exact R.br0 j e a q c
 .let#[g,e]:=b j s q o
  rw[e]at c;exact R.new j s a g o c
 .let#[z,A]:=b j s g m
  let#[B,l]:=b k t c r;rw[A]at u;rw[l]at w;exact R.two j k s t a z m B r u w
 .let#[D,E,F,G]:=R.kept p x
  refine#[D,E,F,λj e q=>?_];let#[g,l]:=b j _ q rfl;rw[l];exact G j e g
theorem Rel.owner(R:Rel K C M H n ρ σ){i:Nat}(h:ρ[i]?=P3 s)(o:s.vW=p_):∃a e,(σ[i]?).getD o_=P3^.ref a/\M a/\¬C.V a/\zk K M H a e/\¬C.M0 a/\C.H0 a=o_:=by
 have q:=R.sl i s h;cases s with
 |ow d=>let#[a,b,c,f,g]:=q; exact#[a,d,b,c,f,g,R.new i _ a h o b]
 |lt a d=>let#[b,c,f,g]:=q; exact#[a,d,b,c,f,g,R.new i _ a h o b]
 |_=>cases o
theorem Rel.setOw(R:Rel K C M H n ρ σ)(e:Ext C.U H H')(f:qk K C.F M H' n')(G:H a=o_)(h:zk K (λb=>M b\/b=a) H' a d):
  Rel K C (λb=>M b\/b=a) H' n' (ρ.set i^.ow d) (σ.set i^P3^.ref a):=by
 have J:=R.step e f
 have I:∀b,M b->b≠a:=λb z q=>by
  let#[o,w]:=R.dom b z;simp only[q,G]at w; cases w
 have X:¬C.M0 a/\C.H0 a=o_:=#[λz=>I a (R.sub a z) rfl,R.ext.free G];have P:qZ M H (λb=>M b\/b=a) H':=#[λb o q Y=>e.keep q λz=>Y^R.vM b^R.uV b z,λb z=>z.elim .inl λz=>.inr (by rw[z]; exact G),λb L q=>e.tup q]
 have r:∀(j:Nat) (s:Slot),(ρ.set i^.ow d)[j]?=P3 s->(j=i/\s=.ow d/\((σ.set i^P3^.ref a)[j]?).getD o_=P3^.ref a)\/(j≠i/\ρ[j]?=P3 s/\((σ.set i^P3^.ref a)[j]?).getD o_=(σ[j]?).getD o_):=λj s q=>by
  rcases EQ q with⟨rfl,Z,rfl⟩|⟨A,q⟩
  .exact .inl #[rfl,rfl,OD^by simp only[←R.len]; exact Z]
  .exact .inr #[A,q,Fd A]
 have D:∀(j:Nat) (s:Slot) (b:Ch),ρ[j]?=P3 s->s.vW=p_->(σ[j]?).getD o_=P3^.ref b->b≠a:=λj s b q o z=>by
  let#[c,_,l,m,_]:=R.owner q o;rw[l]at z;cases z;exact I _ m
 have hd:∃o,H' a=P3 o:=by
  cases d with
  |lst Q=>let#[L,q,_]:=h; exact#[_,q]
  |dic ks Q=>let#[L,q,_]:=h; exact#[_,q]
  |dit ks Q=>let#[L,q,_]:=h; exact#[_,q]
  |_=>exact(show False from h).elim
 refine#[by simp only[jA,jA]; exact R.len,λb z=>.inl^R.sub b z,λb z=>?_,J.ext,R.fU,R.uV,λb z=>.inl^R.vM b z,f.more a λg hg q=>?_,λj s q=>?_,λq hq=>(R.pin q hq).trans P,λj x b q u=>?_,λj s b q o u=>?_,λj k s t b y S u T E B=>?_,λp hp=>?_]
 .rcases z with z|z
  .exact J.dom b z
  .rw[z]; exact hd
 .let#[_,_,_,_,_,N,_]:=R.feed g hg
  have:=N.2
  simp only[q,G]at this; cases this
 .rcases r j s q with⟨rfl,rfl,l⟩|⟨A,y,l⟩
  .rw[l]
   exact#[a,rfl,.inr rfl,λz=>I a (R.vM a z) rfl,h]
  .rw[l]
   exact(R.sl j s y).qq P (λ_ z=>.inl z) e R.uV
 .rcases r j _ q with⟨_,l,_⟩|⟨A,y,l⟩
  .cases l
  .rw[l]at u
   exact R.br0 j x b y u
 .rcases r j s q with⟨_,_,l⟩|⟨A,y,l⟩
  .rw[l]at u
   cases u;exact X
  .rw[l]at u
   exact R.new j s b y o u
 .rcases r j s y with⟨rfl,_,l⟩|⟨A,V,l⟩
  .rw[l]at E
   cases E
   rcases r k t u with⟨rfl,_,_⟩|⟨hk,O,x⟩
   .rfl
   .rw[x]at B
    exact absurd rfl (D k t a O T B)
  .rw[l]at E
   rcases r k t u with⟨rfl,_,x⟩|⟨hk,O,x⟩
   .rw[x]at B
    cases B;exact absurd rfl (D j s a V S E)
   .rw[x]at B
    exact R.two j k s t b V S O T E B
 .let#[h1,W,N,h4]:=J.kept p hp
  refine#[h1,.inl W,N,λj x q=>?_]
  rcases r j _ q with⟨_,_,l⟩|⟨A,y,l⟩
  .rw[l]
   intro z;cases z;exact I _ W rfl
  .rw[l]
   exact h4 j x y
theorem Rel.mut(R:Rel K C M H n ρ σ)(E:ρ[i]?=P3^.ow d)(N:(σ[i]?).getD o_=P3^.ref a)(h:zk K M (Al H a o) a e):
  Rel K C M (Al H a o) n (ρ.set i^.ow e) σ:=by
 let#[b,_,c,m,U,t,n0,V]:=R.owner E rfl;rw[N]at c;cases c;have F:qZ M H M^Al H a o:=#[λb A q Y=>by rw[AL λz=>Y^by rw[z]; exact m]; exact q,λ_ z=>.inl z,λb vs q=>by rw[AL λz=>t.notT^by rw[←z]; exact q]; exact q]
 have l:∀(j:Nat) (s:Slot),(ρ.set i^.ow e)[j]?=P3 s->(j=i/\s=.ow e)\/(j≠i/\ρ[j]?=P3 s):=λj s q=>by
  rcases EQ q with⟨rfl,hl,rfl⟩|⟨y,q⟩
  .exact .inl #[rfl,rfl]
  .exact .inr #[y,q]
 have I:∀(j:Nat) (s:Slot) (b:Ch),j≠i->ρ[j]?=P3 s->s.vW=p_->(σ[j]?).getD o_=P3^.ref b->b≠a:=λj s b y q o z w=>by
  subst w;exact y (R.two j i s _ b q o E rfl z N)
 refine#[by rw[jA]; exact R.len,R.sub,λb z=>?_,λb A q=>?_,R.fU,R.uV,R.vM,R.feed.qq F λf A Z q=>?_,λj s q=>?_,λq hq=>(R.pin q hq).trans F,λj O b q g=>?_,λj s b q G g=>?_,λj k s t b u W g G P Q=>?_,λp hp=>?_]
 .by_cases B:b=a
  .exact#[o,by rw[B,AQ]]
  .let#[A,q]:=R.dom b z
   exact#[A,by rw[AL B]; exact q]
 .let#[G,g,r]:=R.ext b A q
  have B:b≠a:=λz=>by rw[z,V]at q; cases q
  exact#[G,by rw[AL B]; exact g,r]
 .have B:f.1≠a:=λz=>U^by rw[←z]; exact R.uV _^R.fU f Z
  rw[AL B]; exact q
 .rcases l j s q with⟨rfl,rfl⟩|⟨y,u⟩
  .rw[N]
   exact#[a,rfl,m,U,h]
  .have g:=R.sl j s u
   cases s with
   |no=>trivial
   |sh d=>let#[v,c,x]:=g; exact#[v,c,x.qq F]
   |ex a nm ks ds=>let#[c,x]:=g; exact#[c,x.qq F]
   |br d=>
    let#[v,c,x]:=g;refine#[v,c,x.same F (λb A z q=>?_) λ_ _ z=>z];subst z;let#[o3,w]:=R.br0 j d b u c;rw[AL λz=>by rw[z,V]at w; cases w];exact q
   |fd=>exact g
   |ow d=>
    let#[b,c,x,J,L]:=g;exact#[b,c,x,J,L.qq F λA w=>by rw[AL (I j _ b y u rfl c)]; exact w]
   |lt b d=>
    let#[c,x,J,L]:=g;exact#[c,x,J,L.qq F λA w=>by rw[AL (I j _ b y u rfl c)]; exact w]
 .rcases l j _ q with⟨_,c⟩|⟨y,u⟩
  .cases c
  .exact R.br0 j O b u g
 .rcases l j s q with⟨rfl,_⟩|⟨y,u⟩
  .exact R.new j _ b E rfl g
  .exact R.new j s b u G g
 .rcases l j s u with⟨rfl,rfl⟩|⟨y,X⟩
  .rcases l k t g with⟨rfl,_⟩|⟨hk,S⟩
   .rfl
   .exact R.two j k _ t b E rfl S G P Q
  .rcases l k t g with⟨rfl,rfl⟩|⟨hk,S⟩
   .exact R.two j k s _ b X W E rfl P Q
   .exact R.two j k s t b X W S G P Q
 .let#[x,J,L,T]:=R.kept p hp
  have B:p.1≠a:=λz=>T i d E (by rw[N,z]);refine#[by rw[AL B]; exact x,J,L,λj O q=>?_]
  rcases l j _ q with⟨rfl,_⟩|⟨y,u⟩
  .exact T j d E
  .exact T j O u
theorem Rel.freeze(R:Rel K C M H n ρ σ)(E:ρ[i]?=P3^.ow d)(x:(σ[i]?).getD o_=P3^.ref a):Rel K C (λb=>M b/\b≠a) H n (ρ.set i^.sh d) σ:=by
 let#[b,_,c,m,J,_,L,V]:=R.owner E rfl;rw[x]at c;cases c;have y:∀b,M b/\b≠a->M b:=λ_ z=>z.1;have r:qZ M H (λb=>M b/\b≠a) H:=qZ.less y
 have e:∀(j:Nat) (s:Slot),(ρ.set i^.sh d)[j]?=P3 s->(j=i/\s=.sh d)\/(j≠i/\ρ[j]?=P3 s):=λj s q=>by
  rcases EQ q with⟨rfl,W,rfl⟩|⟨l,q⟩
  .exact .inl #[rfl,rfl]
  .exact .inr #[l,q]
 have A:∀(j:Nat) (s:Slot) (b:Ch),j≠i->ρ[j]?=P3 s->s.vW=p_->(σ[j]?).getD o_=P3^.ref b->b≠a:=λj s b l q o z w=>by
  subst w;exact l (R.two j i s _ b q o E rfl z x)
 have t:zk K M H a d:=by
  let#[b,c,_,_,u]:=R.sl i _ E;rw[x]at c;cases c;exact u
 refine#[by rw[jA]; exact R.len,λb z=>#[R.sub b z,λw=>L^by rw[←w]; exact z],λb z=>R.dom b z.1,R.ext,R.fU,R.uV,λb z=>#[R.vM b z,λw=>J^by rw[←w]; exact z],R.feed.qq r λ_ _ _ q=>q,λj s q=>?_,λq N=>(R.pin q N).trans r,λj F b q f=>?_,λj s b q B f=>?_,λj k s t b g G f B O P=>?_,λp Q=>?_]
 .rcases e j s q with⟨rfl,rfl⟩|⟨l,g⟩
  .rw[x]
   exact#[_,rfl,(t.qq r λ_ z=>z).at λz=>z.2 rfl]
  .have f:=R.sl j s g
   cases s with
   |no=>trivial
   |sh d=>let#[v,c,h]:=f; exact#[v,c,h.qq r]
   |ex a X Y Z=>let#[c,h]:=f; exact#[c,h.qq r]
   |br d=>let#[v,c,h]:=f; exact#[v,c,h.same r (λ_ _ _ z=>z) λ_ _ z=>z]
   |fd=>exact f
   |ow d=>
    let#[b,c,h,D,u]:=f;exact#[b,c,#[h,A j _ b l g rfl c],D,u.qq r λ_ z=>z]
   |lt b d=>
    let#[c,h,D,u]:=f;exact#[c,#[h,A j _ b l g rfl c],D,u.qq r λ_ z=>z]
 .rcases e j _ q with⟨_,c⟩|⟨l,g⟩
  .cases c
  .exact R.br0 j F b g f
 .rcases e j s q with⟨_,rfl⟩|⟨l,g⟩
  .cases B
  .exact R.new j s b g B f
 .rcases e j s g with⟨_,rfl⟩|⟨l,S⟩
  .cases G
  .rcases e k t f with⟨_,rfl⟩|⟨hk,T⟩
   .cases B
   .exact R.two j k s t b S G T B O P
 .let#[h,D,u,I]:=R.kept p Q
  have U:p.1≠a:=λz=>I i d E (by rw[x,z]);refine#[h,#[D,U],u,λj F q=>?_]
  rcases e j _ q with⟨_,c⟩|⟨l,g⟩
  .cases c
  .exact I j F g
end
abbrev DW:=Nat->r_ Slot->(D->Nat->Prop)->Prop
abbrev F3:=Nat->r_ Slot->(Bool->Nat->Prop)->Prop
abbrev Dq:=Nat->r_ Slot->(r_ D->Nat->Prop)->Prop
abbrev Ro:=Nat->r_ Slot->(r_ Slot->Nat->Prop)->Prop
section
variable (X:Cx)
def DE(e:gA)(g:Kd)(w:DW):Prop:=∃t,PE X e t/\∀(C:Fm) (M:Ch->Prop) (H:Hp) (n:Nat) (b:r_ Slot) (c:L2.St) (P:D->Nat->Prop) (Q:VK),Rel X.K C M H n b c->w n b P->
 (∀v a d f,Ext C.U H a->qk X.K C.F M a f->VR X.K C.V M H a g v d->P d f->Q v a)->t c H Q
def DT(e:gA)(w:F3):Prop:=∃t,PT X e t/\∀(C:Fm) (M:Ch->Prop) (H:Hp) (n:Nat) (c:r_ Slot) (d:L2.St) (P:Bool->Nat->Prop) (Q:Bool->Hp->Prop),Rel X.K C M H n c d->w n c P->
 (∀b a f,Ext C.U H a->qk X.K C.F M a f->P b f->Q b a)->t d H Q
def DTW(e:gA)(w:F3):Prop:=∃t,PW X e t/\∀(C:Fm) (M:Ch->Prop) (H:Hp) (n:Nat) (c:r_ Slot) (d:L2.St) (P:Bool->Nat->Prop) (Q:Bool->Hp->Prop),Rel X.K C M H n c d->w n c P->
 (∀b a f,Ext C.U H a->qk X.K C.F M a f->P b f->Q b a)->t d H Q
def Ur(h:r_ gA)(w:Dq):Prop:=∃t,PA X h t/\∀(C:Fm) (M:Ch->Prop) (H:Hp) (n:Nat) (b:r_ Slot) (c:L2.St) (P:r_ D->Nat->Prop) (Q:r_ V->Hp->Prop),Rel X.K C M H n b c->w n b P->
 (∀e a f g,Ext C.U H a->qk X.K C.F M a g->Paired (λv d=>AtT X.K C.V M a d v) e f->P f g->Q e a)->t c H Q
def WW(g:r_ gA)(w:Dq):Prop:=∃t,PA X g t/\∀(C:Fm) (M:Ch->Prop) (H:Hp) (n:Nat) (b:r_ Slot) (c:L2.St) (P:r_ D->Nat->Prop) (Q:r_ V->Hp->Prop),Rel X.K C M H n b c->w n b P->
 (∀d a e f,Ext C.U H a->qk X.K C.F M a f->Ats X.K M a e d->P e f->Q d a)->t c H Q
def LM(K:Frag)(F:s_ (Ch×Ch))(a M:Ch->Prop)(H:Hp)(v:V)(s:Slot):Prop:=qO K F a M H s^P3 v/\s.vW=q_
def cf(e:gA)(w:Nat->r_ Slot->(Slot->Nat->Prop)->Prop):Prop:=∃t,PE X e t/\∀(C:Fm) (M:Ch->Prop) (H:Hp) (n:Nat) (b:r_ Slot) (c:L2.St) (P:Slot->Nat->Prop) (Q:VK),Rel X.K C M H n b c->w n b P->
 (∀v a s d,Ext C.U H a->qk X.K C.F M a d->LM X.K C.F C.V M a v s->P s d->Q v a)->t c H Q
def Rz(g:r_ gA)(w:Ro):Prop:=∃t,PA X g t/\∀(C:Fm) (M:Ch->Prop) (H:Hp) (n:Nat) (b:r_ Slot) (c:L2.St) (P:r_ Slot->Nat->Prop) (Q:r_ V->Hp->Prop),Rel X.K C M H n b c->w n b P->
 (∀d a e f,Ext C.U H a->qk X.K C.F M a f->Paired (LM X.K C.F C.V M a) d e->P e f->Q d a)->t c H Q
end
def AH(i:Nat):DW:=λn a P=>match a[i]? with
 |some (.sh d)=>P d n
 |_=>False
def Bc(i:Nat):DW:=λn a P=>match a[i]? with
 |some (.sh d)=>P d n
 |some (.br d)=>P d n
 |some (.ow d)=>P d n
 |some (.lt _ d)=>P d n
 |_=>False
def wC(d:D):DW:=λn _ P=>P d n
section
variable {X:Cx}
theorem getD_some{c:L2.St}{i:Nat}(h:(c[i]?).getD o_=P3 v):c[i]?=P3^P3 v:=by
 cases q:c[i]? with
 |none=>simp_all
 |some o=>simp_all
set_option tactic.hygienic true in
theorem WB(h:PE X e^CH i):DE X e .sh^AH i:=by
 refine#[_,h,λC M H n j k P Q R w q=>?_];unfold AH at w
 split at w
 .rename_i d c
  let#[v,f,g]:=R.sl i _ c;exact#[v,getD_some f,q v H d n (Ext.refl _ _) R.feed g w]
 simp_all
set_option tactic.hygienic true in
theorem UK(h:PE X e^CH i):DE X e .tp^Bc i:=by
 refine#[_,h,λC M H n l m P Q R w q=>?_];unfold Bc at w
 split at w
 .rename_i d c
  let#[v,f,g]:=R.sl i _ c;exact#[v,getD_some f,q v H d n (Ext.refl _ _) R.feed (At.tp R.vM g) w]
 .rename_i d c
  let#[v,f,g]:=R.sl i _ c;exact#[v,getD_some f,q v H d n (Ext.refl _ _) R.feed g w]
 .rename_i d c
  let#[a,f,_,j,k]:=R.sl i _ c;exact#[.ref a,getD_some f,q _ H d n (Ext.refl _ _) R.feed (k.att j) w]
 .rename_i a d c
  let#[f,_,j,k]:=R.sl i _ c;exact#[.ref a,getD_some f,q _ H d n (Ext.refl _ _) R.feed (k.att j) w]
 .exact w.elim
theorem dv(i:Nat)(d:X.N[i]?=P3 x:=by rfl)(e:QK X.env.scope x:=by first|exact gi rfl|exact iE (gi rfl)|exact iE (iE rfl))(hd:(x==("__debug__":Str))=q_:=by decide)
  (c:(x==("__classdict__":Str))=q_:=by decide):DE X (.Name x pos) .sh^AH i:=WB^ES d e hd c
theorem Ey(i:Nat)(d:X.N[i]?=P3 x:=by rfl)(e:QK X.env.scope x:=by first|exact gi rfl|exact iE (gi rfl)|exact iE (iE rfl))(hd:(x==("__debug__":Str))=q_:=by decide)
  (c:(x==("__classdict__":Str))=q_:=by decide):DE X (.Name x pos) .tp^Bc i:=UK^ES d e hd c
theorem Gb(h:PE X e^tC v)(hd:∀M H,At X.K M H d v):DE X e .sh^wC d:=
 #[_,h,λC M H n c f P Q R w q=>q v H d n (Ext.refl _ _) R.feed (hd M H) w]
theorem AB{j pos}:DE X (.Constant (.int i) j pos) .sh^wC^.int i:=Gb Av λ_ _=>rfl
theorem BU{b:Bool}{j pos}:DE X (.Constant (.bool b) j pos) .sh^wC^.bl b:=Gb a_ λ_ _=>rfl
theorem A2{j pos}:DE X (.Constant .none j pos) .sh^wC .non:=Gb YX λ_ _=>rfl
theorem AY{j pos}(hx:decide (x.length<=1000)=p_:=by rfl):DE X (.Constant (.str x) j pos) .sh^wC^.str x:=
 Gb YU λ_ _=>#[rfl,f_ (of_decide_eq_true hx)^by cbv]
theorem DE.sh(h:DE X e κ wa)(c:κ≠.tp:=by intro z; cases z):DE X e .sh wa:=by
 let#[t,g,i]:=h;exact#[t,g,λC M H n j k P Q R w q=>i C M H n j k P Q R w λv l d m e f r p=>q v l d m e f (r.zj R.dom c) p]
def D_(K:Frag)(κ:Kd)(r:R2)(f:D->D->(D->Prop)->Prop):Prop:=∀(U:Ch->Prop) (M:Ch->Prop) (H:Hp) (d e:D) (x y:V) (P:D->Prop) (Q:VK),(∀a,M a->∃o,H a=P3 o)->(∀a,U a->M a)->
 AtT K U M H d x->AtT K U M H e y->f d e P->(∀v c z,qW H c->VR K U M H c κ v z->P z->Q v c)->r x y H Q
def Am(f:D->D->(D->Prop)->Prop)(wa wb:DW):DW:=λn c P=>wa n c λx d=>wb d c λy e=>f x y λz=>P z e
theorem E5(A:D_ X.K κ r f)(B:∀(C:Fm) (M:Ch->Prop) (H:Hp) (n:Nat) (h:r_ Slot) (i:L2.St) (P:D->Nat->Prop) (Q:VK),Rel X.K C M H n h i->wa n h P->
   (∀v c d j,Ext C.U H c->qk X.K C.F M c j->VR X.K C.V M H c zU v d->P d j->Q v c)->s i H Q)
  (E:∀(C:Fm) (M:Ch->Prop) (H:Hp) (n:Nat) (h:r_ Slot) (i:L2.St) (P:D->Nat->Prop) (Q:VK),Rel X.K C M H n h i->wb n h P->
   (∀v c d j,Ext C.U H c->qk X.K C.F M c j->VR X.K C.V M H c zO v d->P d j->Q v c)->t i H Q)
  (C:Fm) (M:Ch->Prop) (H:Hp) (n:Nat) (h:r_ Slot) (i:L2.St) (P:D->Nat->Prop) (Q:VK) (R:Rel X.K C M H n h i) (w:Am f wa wb n h P)
  (q:∀v c d j,Ext C.U H c->qk X.K C.F M c j->VR X.K C.V M H c κ v d->P d j->Q v c):EC r s t i H Q:=by
 refine B C M H n h i _ _ R w λx G d I o J L N=>?_;have k:=R.step o J;refine E C M G I h i _ _ k N λy H2 e O l u S T=>?_;have m:=k.step l u;exact A _ M H2 d e x y _ _ m.dom m.vM ((L.qw R.dom R.vM).qq (k.qq l) l R.uV) (S.qw k.dom k.vM) T λv W z g Y p=>q v W z O ((o.trans l).trans g.ext) (u.grow g) (VR.back (o.trans l) Y) p
theorem AV(i:OpR X (binaryOp h) r)(j:D_ X.K κ r f)(k:DE X a zU wa)(l:DE X b zO wb):DE X (.BinOp a h b pos) κ^Am f wa wb:=by
 let#[p,c,d]:=k;let#[s,e,g]:=l;exact#[_,B3 i c e,λC M H n m o P Q R w q=>E5 j d g C M H n m o P Q R w q]
theorem bp(h:IxR X r)(i:D_ X.K κ r f)(j:DE X a zU wa)(k:DE X b zO wb)(l:MT b:=by intro _ _; rfl):DE X (.Subscript a b pos) κ^Am f wa wb:=by
 let#[p,c,d]:=j;let#[s,e,g]:=k;exact#[_,EZ h c e l,λC M H n m o P Q R w q=>E5 i d g C M H n m o P Q R w q]
theorem BD(i:OpR X (compareOp op) r)(j:D_ X.K .sh r f)(k:DE X a zU wa)(l:DE X b zO wb)(m:behindInMarks op b=q_):DE X (.Compare a [op] [b] pos) .sh^Am f wa wb:=by
 let#[s,d,e]:=k;let#[t,g,h]:=l;exact#[_,VP i d g m,λC M H n o p P Q R w q=>E5 j e h C M H n o p P Q R w q]
def Au(w:DW):F3:=λn c P=>w n c λd e=>match d with
 |.bl b=>P b e
 |_=>False
theorem ID{K:Frag}{b:Bool}(h:VR K U M H H' κ v^.bl b):v=.bl b:=by
 cases κ with
 |sh=>exact h
 |tp=>exact h
 |fr=>let#[a,_,_,t]:=h; exact(t).elim
theorem Y3(k:OpR X (compareOp op) r)(l:D_ X.K .sh r f)(m:DE X a zU wa)(o:DE X b zO wb)(s:behindInMarks op b=q_):DT X (.Compare a [op] [b] pos)^Au^Am f wa wb:=by
 let#[z,g,h]:=m;let#[A,i,j]:=o;refine#[_,GD k g i s,λC M H n t u P Q R w q=>?_];refine E5 l h j C M H n t u _ _ R w λv x d y e f r p=>?_;cases d with
 |bl b=>exact#[b,ID r,q b x y e f p]
 |_=>exact p.elim
theorem Ah(h:DE X e κ wa)(g:∀c,isTrue e X.env c=(do let v ←c; standAt e.pos; holding [v]^truthy v):=by intro _; rfl):DT X e^Au wa:=by
 let#[t,i,j]:=h;refine#[_,YL i g,λC M H n k l P Q R w q=>?_];refine j C M H n k l _ _ R w λv m d o e f r p=>?_;cases d with
 |bl b=>exact#[b,ID r,q b m o e f p]
 |_=>exact p.elim
def N6(f g:D->D->(D->Prop)->Prop)(wa wb wc:DW):DW:=λn c P=>wa n c λx e=>wb e c λy d=>f x y λz=>match z with
 |.bl p_=>wc d c λu h=>g y u λr=>P r h
 |.bl q_=>P (.bl q_) d
 |_=>False
theorem Nj(Z:D_ X.K .sh r f)(hB:D_ X.K .sh L g)(ha:∀(C:Fm) (M:Ch->Prop) (H:Hp) (n:Nat) (i:r_ Slot) (h:L2.St) (P:D->Nat->Prop) (Q:VK),Rel X.K C M H n i h->wa n i P->
   (∀v c d j,Ext C.U H c->qk X.K C.F M c j->VR X.K C.V M H c zU v d->P d j->Q v c)->N h H Q)
  (hb:∀(C:Fm) (M:Ch->Prop) (H:Hp) (n:Nat) (i:r_ Slot) (h:L2.St) (P:D->Nat->Prop) (Q:VK),Rel X.K C M H n i h->wb n i P->
   (∀v c d j,Ext C.U H c->qk X.K C.F M c j->VR X.K C.V M H c zO v d->P d j->Q v c)->O h H Q)
  (hc:∀(C:Fm) (M:Ch->Prop) (H:Hp) (n:Nat) (i:r_ Slot) (h:L2.St) (P:D->Nat->Prop) (Q:VK),Rel X.K C M H n i h->wc n i P->
   (∀v c d j,Ext C.U H c->qk X.K C.F M c j->VR X.K C.V M H c zJ v d->P d j->Q v c)->E h H Q)
  (C:Fm) (M:Ch->Prop) (H:Hp) (n:Nat) (i:r_ Slot) (h:L2.St) (P:D->Nat->Prop) (Q:VK) (R:Rel X.K C M H n i h) (w:N6 f g wa wb wc n i P)
  (q:∀v c d j,Ext C.U H c->qk X.K C.F M c j->VR X.K C.V M H c .sh v d->P d j->Q v c):OA r L N O E h H Q:=by
 refine ha C M H n i h _ _ R w λx H1 d n1 G f1 r1 w1=>?_;have o:=R.step G f1;refine hb C M H1 n1 i h _ _ o w1 λy H2 e S s I r2 w2=>?_;have l:=o.step s I;have ty:AtT X.K C.V M H2 e y:=r2.qw o.dom o.vM;refine Z C.V M H2 d e x y _ _ l.dom l.vM ((r1.qw R.dom R.vM).qq (o.qq s) s R.uV) ty w2 λv A z m vr p=>?_;have t:=l.step m.ext^I.grow m;cases z with
 | bl k=>
  exists k,vr;cases k with
  |false=>exact q _ A (.bl q_) S ((G.trans s).trans m.ext) (I.grow m) (show VR X.K C.V M H A .sh (.bl q_)^.bl q_ from rfl) p
  |true=>
   show E h A _;refine hc C M A S i h _ _ t p λu H4 d4 n4 B T r4 w4=>?_;have W:=t.step B T;refine hB C.V M H4 e d4 y u _ _ W.dom W.vM ((ty.qq m.qq (m.ext (U:=C.U)) R.uV).qq (t.qq B) B R.uV) (r4.qw t.dom t.vM) w4 λv5 H5 z5 Y J p5=>?_;exact q v5 H5 z5 n4 ((((G.trans s).trans m.ext).trans B).trans Y.ext) (T.grow Y) J p5
 |_=>exact p.elim
theorem UL(t:OpR X (compareOp op) r)(u:D_ X.K .sh r f)(h:OpR X (compareOp d) p)(v:D_ X.K .sh p g)(x:DE X a zU wa)(y:DE X b zO wb)(z:DE X c s wc)
  (A:lastMarks [op,d] [b,c]=q_:=by with_unfolding_all rfl):DE X (.Compare a [op,d] [b,c] B) .sh^N6 f g wa wb wc:=by
 let#[G,i,j]:=x;let#[I,k,l]:=y;let#[J,m,o]:=z;exact#[_,TF t h i k m A,λC M H n E F P Q R w q=>Nj u v j l o C M H n E F P Q R w q]
theorem UB(y:OpR X (compareOp i) r)(z:D_ X.K .sh r f)(j:OpR X (compareOp h) u)(A:D_ X.K .sh u g)(B:DE X a zU wa)(E:DE X b zO wb)(F:DE X c x wc)
  (G:lastMarks [i,h] [b,c]=q_:=by with_unfolding_all rfl):DT X (.Compare a [i,h] [b,c] I)^Au^N6 f g wa wb wc:=by
 let#[S,k,l]:=B;let#[T,m,o]:=E;let#[U,s,t]:=F;refine#[_,Sy y j k m s G,λC M H n J L P Q R w q=>?_];refine Nj z A l o t C M H n J L _ _ R w λv N d O e f r p=>?_;cases d with
 |bl b=>exact#[b,r,q b N O e f p]
 |_=>exact p.elim
def Wj(u v:F3):F3:=λn d P=>u n d λc e=>if c=p_ then v e d P else P q_ e
def QQ(u v:F3):F3:=λn d P=>u n d λc e=>if c=p_ then P p_ e else v e d P
def F5(u:F3):F3:=λn d P=>u n d λc e=>P (!c) e

theorem GV(h:DT X a wA):DTW X (.BoolOp .And [a] pos) wA:=by
 let#[t,c,d]:=h;exact#[t,PV c,d]
theorem BX(h:DT X a wA):DTW X (.BoolOp .Or [a] pos) wA:=by
 let#[t,c,d]:=h;exact#[t,YK c,d]
theorem HC(j:DT X a wA)(k:DTW X (.BoolOp .And (b::rest) pos) wB):DTW X (.BoolOp .And (a::b::rest) pos)^Wj wA wB:=by
 let#[t,l,m]:=j;let#[u,o,r]:=k;refine#[_,Su l o,λC M H n e f P Q R w q=>?_];refine m C M H n e f _ _ R w λc g h d i p=>?_;cases c with
 |false=>exact q _ g h d i p
 |true=>exact r C M g h e f P Q (R.step d i) p λb H2 s v x y=>q b H2 s (d.trans v) x y
theorem BR(j:DT X a wA)(k:DTW X (.BoolOp .Or (b::rest) pos) wB):DTW X (.BoolOp .Or (a::b::rest) pos)^QQ wA wB:=by
 let#[t,l,m]:=j;let#[u,o,r]:=k;refine#[_,av l o,λC M H n e f P Q R w q=>?_];refine m C M H n e f _ _ R w λc g h d i p=>?_;cases c with
 |true=>exact q _ g h d i p
 |false=>exact r C M g h e f P Q (R.step d i) p λb H2 s v x y=>q b H2 s (d.trans v) x y
theorem DTW.dt(h:DTW X e wA):DT X e wA:=by
 let#[t,c,d]:=h;exact#[t,c.pt,d]
theorem As(d:DT X a wA):DT X (.UnaryOp .Not a pos)^F5 wA:=by
 let#[t,e,f]:=d;exact#[_,YM e,λC M H n g h P Q R w q=>f C M H n g h _ _ R w λc i j k l p=>q _ i j k l p]
def aC(u v:DW):DW:=λn d P=>u n d λc e=>match c with
 |.bl p_=>v e d P
 |.bl q_=>P (.bl q_) e
 |_=>False
def c9(u:DW):DW:=λn d P=>u n d λc e=>match c with
 |.bl b=>P (.bl (!b)) e
 |_=>False
theorem D9{op}(h:DE X a κ wa):DE X (.BoolOp op [a] pos) κ wa:=by
 assumption
theorem Cv(l:DE X a zU wa)(m:DE X (.BoolOp .And (b::rest) pos) .sh wb):DE X (.BoolOp .And (a::b::rest) pos) .sh^aC wa wb:=by
 let#[t,o,r]:=l;let#[u,s,x]:=m;refine#[_,YY o s,λC M H n g h P Q R w q=>?_];refine r C M H n g h _ _ R w λc e d i f j y p=>?_;cases d with
 | bl k=>
  exists k,ID y;cases k with
  |false=>exact q _ e _ i f j (show VR _ _ M H e _ _^.bl _ from rfl) p
  |true=>
   exact x C M e i g h P Q (R.step f j) p λv H2 d z A B D E=>q v H2 d z (f.trans A) B D E
 |_=>exact p.elim
theorem UJ(f:DE X a zU wa):DE X (.UnaryOp .Not a pos) .sh^c9 wa:=by
 let#[t,g,h]:=f;refine#[_,YW g,λC M H n i j P Q R w q=>?_];refine h C M H n i j _ _ R w λc e d l m o r p=>?_;cases d with
 |bl k=>exact#[k,ID r,q _ e _ l m o (show VR _ _ M H e _ _^.bl _ from rfl) p]
 |_=>exact p.elim
def Zt(t:F3)(u v:DW):DW:=λn d P=>t n d λc e=>if c=p_ then u e d P else v e d P
theorem EM(s:DT X c wA)(x:DE X a κ wa)(y:DE X b κ wb):DE X (.IfExp c a b pos) κ^Zt wA wa wb:=by
 let#[t,z,A]:=s;let#[u,B,D]:=x;let#[G,E,F]:=y;refine#[_,Mu z B E,λC M H n f g P Q R w q=>?_];refine A C M H n f g _ _ R w λc m o e r p=>?_;cases c with
 |true=>exact D C M m o f g P Q (R.step e r) p λv H2 d h i j k l=>q v H2 d h (e.trans i) j (VR.back e k) l
 |false=>exact F C M m o f g P Q (R.step e r) p λv H2 d h i j k l=>q v H2 d h (e.trans i) j (VR.back e k) l
def Ad:Dq:=λn _ P=>P [] n
def AM(w:DW)(e:Dq):Dq:=λn c P=>w n c λd f=>e f c λg h=>P (d::g) h

theorem AW:Ur X [] Ad:=#[_,B4,λC M H n c d P Q R w q=>q [] H [] n (Ext.refl _ _) R.feed .nil w]
theorem AG:WW X [] Ad:=#[_,B4,λC M H n c d P Q R w q=>q [] H [] n (Ext.refl _ _) R.feed rfl w]
theorem AN(j:DE X e κ wa)(k:Ur X es ws)(l:starEach (e::es) X.env=(q_,eval e X.env)::starEach es X.env:=by rfl):Ur X (e::es)^AM wa ws:=by
 let#[t,m,o]:=j;let#[u,r,s]:=k;refine#[_,A4 m r l,λC M H n f g P Q R w q=>?_];refine o C M H n f g _ _ R w λv x d y h z A p=>?_;have i:=R.step h z;exact s C M x y f g _ _ i p λG H2 I B c D E F=>q _ H2 _ B (h.trans c) D (.cons ((A.qw R.dom R.vM).qq (i.qq c) c R.uV) E) F
theorem AA(j:DE X e κ wa)(k:WW X es ws)(l:κ≠.tp:=by intro z; cases z)(m:starEach (e::es) X.env=(q_,eval e X.env)::starEach es X.env:=by rfl):WW X (e::es)^AM wa ws:=by
 let#[t,o,r]:=j;let#[u,s,x]:=k;refine#[_,A4 o s m,λC M H n c f P Q R w q=>?_];refine r C M H n c f _ _ R w λv y d A g B D p=>?_;have h:=R.step g B;exact x C M y A c f _ _ h p λE H2 F G i I J K=>q _ H2 (d::F) G (g.trans i) I #[v,E,rfl,(D.zj R.dom l).qq^h.qq i,J] K
def Bs(ws:Dq):DW:=λn d P=>ws n d λc e=>c.length<=sizeLine/\P (.tup c) e
def QR(ws:Dq):DW:=λn d P=>ws n d λc e=>c.length<=sizeLine/\P (.lst c) e
theorem Fs(h:H p=o_):qZ M H (λb=>M b\/b=p)^Al H p o:=#[λb u e _=>by rw[AL^Ak e h]; exact e,λb z=>z.elim .inl λz=>.inr^by simp_all,λb c e=>by rw[AL^Ak e h]; exact e]
theorem Ab(h:H p=o_):qW H^Al H p o:=.inr #[p,o,h,rfl]
theorem AT{x1}(h:WW X es ws):DE X (.Tuple es x1 pos) .sh^Bs ws:=by
 let#[t,f,i]:=h;refine#[_,OO f,λC M H n j k P Q R w q=>?_];refine i C M H n j k _ _ R w λc d l m o r e p=>?_;refine#[by rw[e.length]; exact p.1,λa s=>?_];have g:qW d^Al d a^.tup c:=Ab s;refine q _ _ (.tup l) m (o.trans g.ext) (r.grow g) #[a,c,rfl,AQ,e.qq g.qq] p.2
theorem BM(h:WW X es ws):DE X (.List es pos) .fr^QR ws:=by
 let#[t,j,k]:=h;refine#[_,OP j,λC M H n l m P Q R w q=>?_];refine k C M H n l m _ _ R w λd e o r f s i p=>?_;refine#[by rw[i.length]; exact p.1,λa c=>?_];have g:qW e^Al e a^.lst d:=Ab c;exact q _ _ (.lst o) r (f.trans g.ext) (s.grow g) (VR.back f #[a,rfl,c,d,AQ,i.qq^Fs c]) p.2
def Dr(K:Frag)(κ:Kd)(r:r_ V->Hp->VK->Prop)(f:r_ D->(D->Prop)->Prop):Prop:=∀(U:Ch->Prop) (M:Ch->Prop) (H:Hp) (e:r_ D) (g:r_ V) (P:D->Prop) (Q:VK),(∀a,M a->∃o,H a=P3 o)->(∀a,U a->M a)->
 Paired (λv d=>AtT K U M H d v) g e->f e P->(∀v c z,qW H c->VR K U M H c κ v z->P z->Q v c)->r g H Q
def Gr(f:r_ D->(D->Prop)->Prop)(ws:Dq):DW:=λn c P=>ws n c λd e=>f d λz=>P z e
theorem Xb(s:Dr X.K κ r f)(u:∀(C:Fm) (M:Ch->Prop) (H:Hp) (n:Nat) (e:r_ Slot) (h:L2.St) (P:r_ D->Nat->Prop) (Q:r_ V->Hp->Prop),Rel X.K C M H n e h->ws n e P->
   (∀j c k i,Ext C.U H c->qk X.K C.F M c i->Paired (λv d=>AtT X.K C.V M c d v) j k->P k i->Q j c)->t h H Q)
  (C:Fm) (M:Ch->Prop) (H:Hp) (n:Nat) (e:r_ Slot) (h:L2.St) (P:D->Nat->Prop) (Q:VK) (R:Rel X.K C M H n e h) (w:Gr f ws n e P)
  (q:∀v c d i,Ext C.U H c->qk X.K C.F M c i->VR X.K C.V M H c κ v d->P d i->Q v c):cj r t h H Q:=by
 refine u C M H n e h _ _ R w λj x k y l m A p=>?_;have o:=R.step l m;exact s _ M x k j _ _ o.dom o.vM A p λv H2 z g B E=>q v H2 z y (l.trans g.ext) (m.grow g) (VR.back l B) E
theorem Ai(h:CL X (.builtin g) r)(i:Dr X.K κ r f)(j:Gl X x)(k:X.mg x=o_)(l:bootBuiltins x=P3^.builtin g)(m:Ur X (e::es) ws)
  (o:x ≠ "__name__":=by decide) (c:(x==("__debug__":Str))=q_:=by decide)
  (he:starEach (e::es) X.env=(q_,eval e X.env)::starEach es X.env:=by rfl) (d:(backTo pos^starEach es X.env).any (·.1)=q_:=by rfl):DE X (.Call (.Name x p) (e::es) [] pos) κ^Gr f ws:=by
 let#[t,s,u]:=m;exact#[_,C4 h j k l s o c he d,λC M H n v y P Q R w q=>Xb i u C M H n v y P Q R w q]
theorem DR(g:CL X (.type T) r)(h:Dr X.K κ r f)(i:Gl X x)(j:X.mg x=o_)(k:bootBuiltins x=P3^.type T)(l:Ur X (e::es) ws)
  (m:x ≠ "__name__":=by decide) (c:(x==("__debug__":Str))=q_:=by decide)
  (he:starEach (e::es) X.env=(q_,eval e X.env)::starEach es X.env:=by rfl) (d:(backTo pos^starEach es X.env).any (·.1)=q_:=by rfl):DE X (.Call (.Name x p) (e::es) [] pos) κ^Gr f ws:=by
 let#[t,o,s]:=l;exact#[_,Ki g i j k o m c he d,λC M H n u v P Q R w q=>Xb h s C M H n u v P Q R w q]
end
end Dp
namespace L2
def ef(z:Str):It:=#[λi _=>i<z.cps.size,λi H x a=>a=H/\∃c,z.cps[i]?=P3 c/\x=.str #[#[ c]],λi _=>z.cps.size<=i]
theorem Mc{K:Frag}(a:Ch)(z:Str)(t:Tok)(ty:String)(j:ty="str_ascii_iterator"\/ty="str_iterator")
  (W:∀N:gE,N.handled=o_->Walks P w N a [a] [a] z.cps.size (SignAt z) λi h=>h.IsStrIter a ty z t i):Turn P w K U (ef z) [a] a (λi h=>h.IsStrIter a ty z t i) where
 mem:=by simp
 obj:=λi h f b g=>by
  have e:b=a:=by simpa using g
  subst e;let#[o,e,c,d]:=f;exact#[o,e,λv z=>by rw[d]at z; cases z]
 keep:=λi h l f k=>let #[o,V,r]:=f; #[o,k a (by simp) o V,r]
 item:=by
  intro X D F G n i O s R H E I p f J;subst D F G;let#[q,x,Y,y,B,C]:=p a (by simp);refine(W X.A^I.ok.hd n).item i s _ _ J f λv l S Z m kk=>?_;let#[c,u,L,rfl]:=Z;have I1:Inv X O R H {s with heap:=l,toks:=S}:=I.turned (λb o g e=>kk b o (by simpa using g) e) q x y B C;let#[o,e,cc,d]:=id m;exact#[_,rfl,NR (s:={s with heap:=l,toks:=S}) e cc d (by rcases j with rfl|rfl <;>decide) #[.str #[#[ c]],H,I1,#[_,rfl],#[rfl,c,L,rfl],m,λb g=>(p b g).1]]
 done:=by
  intro X D F G n i O s R H E I p f J;subst D F G;let#[q,x,Y,y,B,C]:=p a^by simp
  have T:z.cps[i]?=o_:=by
   have:z.cps.size<=i:=J
   simp[this]
  rcases j with rfl|rfl
  .exact wpAny_pyNext_ascii_end (I.ok.hd n) f T λl M=>#[rfl,I.turned (t':=s.toks) (λb o g e=>M b o g e) q x y B C]
  .exact wpAny_pyNext_wide_end (I.ok.hd n) f T λl M=>#[rfl,I.turned (t':=s.toks) (λb o g e=>M b o g e) q x y B C]
 self:=λA i s Q E f h=>by
  rcases j with rfl|rfl
  .exact wpAny_pyIter_striter_ascii f h
  .exact wpAny_pyIter_striter_wide f h
section

def dk(K:Frag)(d:TE):TI:=λe H R=>d e H λx b=>
 (∃a,x=.ref a/\(∃c,SqL K b a c)/\R (eh K a) b)\/(∃a,x=.ref a/\(∃c,SqT K b a c)/\R (Zm K a) b)\/∃z,x=.str z/\R (ef z) b
theorem OM(w:PE X l n):PI X tg l^dk X.K n:=by
 intro r s y H R I h;refine thn (w r s y H _ I h) λv c zz=>?_;let#[x,g,f,j,A]:=zz
 have d:∀b,b∈[c.heap.objs.size]->FO X r g b:=λb B=>by
  have e:b=c.heap.objs.size:=by simpa using B
  subst e;exact f.vT (On _)^f.hok.fresh^On _
 rcases A with⟨a,e,⟨C,k⟩,q⟩|⟨a,e,⟨C,k⟩,q⟩|⟨z,e,q⟩
 .subst e
  cases j;let#[i,D,p,E]:=f.list k;refine iK p.isList ?_;exact#[c.heap.objs.size,[c.heap.objs.size],_,_,g,rfl,f.kept (t':=c.toks) λb o e=>Ev _ e,QS a _,#[_,UF _ rfl,rfl,rfl],d,q]
 .subst e
  cases j;let#[i,D,p,E]:=f.tuple k;refine ic (show c.heap.IsTuple a i.toArray from p) ?_;exact#[c.heap.objs.size,[c.heap.objs.size],_,_,g,rfl,f.kept (t':=c.toks) λb o e=>Ev _ e,Il a _,#[_,UF _ rfl,rfl,rfl],d,q]
 .subst e
  let#[t,rfl]:=j;cases u:z.cps.all (·<128)
  .refine wpAny_pyIter_wide u ?_
   exact#[c.heap.objs.size,[c.heap.objs.size],_,_,g,rfl,f.kept (t':=c.toks) λb o e=>Ev _ e,Mc _ z t "str_iterator" (.inr rfl) λF m=>Walks.strWide m _ z t,#[_,UF _ rfl,rfl,rfl],d,q]
  .refine wpAny_pyIter_ascii u ?_
   exact#[c.heap.objs.size,[c.heap.objs.size],_,_,g,rfl,f.kept (t':=c.toks) λb o e=>Ev _ e,Mc _ z t "str_ascii_iterator" (.inl rfl) λF m=>Walks.strAscii m _ z t,#[_,UF _ rfl,rfl,rfl],d,q]
end
section

theorem J8(bs:r_ Bool):((gG bs.length).all λi=>(bs[i]?).getD p_)=bs.all id:=by
 induction bs with
 |nil=>rfl
 |cons b r a=>
  simp only[eq,kz,ij,j9]
  congr 1
theorem Dl(t:X.calm=p_):CL X (.builtin "all") (λj H Q=>∃(p:Ch) (c:r_ Bool),j=[.ref p]/\SqL X.K H p^c.map V.bl/\Q (.bl^c.all id) H):=by
 intro J s L H j M Q I r h;let#[p,c,rfl,w,q]:=h;let#[u,rfl,y]:=vals1 r;subst y;let#[a,k,z,N]:=I.list w;have d:=k.length;have f:s.heap.IsList p a.toArray:=z.isList;have g:p<s.heap.objs.size:=by let#[_,e,_]:=id f; exact Tk e
 refine call_all_walk^iK f ?_
 refine#[s.heap.objs.size,[s.heap.objs.size,p],[s.heap.objs.size],a.toArray.size,_,_,λi=>(c[i]?).getD p_,rfl,Walks.list (A:=X.A.in1) (I.ok.hd t) _ p (f9 g) a.toArray,
  #[#[_,UF _ rfl,rfl,rfl],f.push _],λi v O P R B l=>?_,λS C D=>?_]
 .have m:a[i]?=P3 v:=by simpa using B
  have E:∃b,c[i]?=P3 b:=by
   have T:i<a.length:=(XV.mp m).1;rw[No]at d;exact#[c[i]'(by lk),FM^by lk]
  let#[b,n]:=E;let#[u,o,F]:=k.get (i:=i) (x:=.bl b) (by simp only[fo,n]; rfl);rw[m]at o;injection o with o;subst o;subst F;simp only[n,Option.getD_some]at l;exact iJ l
 .have e:((gG a.toArray.size).all λi=>(c[i]?).getD p_)=c.all id:=by
   rw[fk,←d,No]; exact J8 c
  rw[e];exact#[.bl _,H,I.kept (t':=C) λb x e=>D b x (λG=>by rw[Re.mp G]at e; exact gS _^Tk e)^Ev _ e,rfl,q]
theorem Nm:CL X (.builtin "isinstance") (λa H Q=>∃x T t b,a=[x,.ty T]/\FN X.K H x t/\PySem.W.kitOne X.K t^.type T=P3 b/\Q (.bl b) H):=by
 intro f s g H a i Q I r h;let#[x,T,t,b,rfl,ty,e,q]:=h;let#[u,j,rfl,c,d]:=vals2 r;subst d;exact RD I c ty e λk=>#[.bl b,H,I.tok _,rfl,q]
theorem Qr:OpR X (compareOp .LtE) (λx y H Q=>∃i j,x=.str i/\y=.str j/\Q (.bl (!(j.cps.toList<i.cps.toList))) H):=by
 intro c s d H x y v u Q I a b h;let#[i,j,rfl,rfl,q]:=h;let#[t,rfl]:=a;let#[e,rfl]:=b;exact PySem.P.le_str #[.bl _,H,I,rfl,q]
theorem Iu:∀{a:r_ Db},qQ (b.map V.str) a->StrsAre a b:=by
 induction b with
 |nil=>intro a r; cases r; exact .nil
 | cons n g c=>
  intro a r;cases r with
  |cons d f=>
   let#[t,e]:=d;subst e;exact .cons n t^c f
theorem Vb:Zk X "str.join" (λx b H Q=>∃(z:Str) (p:Ch) (a:r_ Str),x=.str z/\b=[.ref p]/\SqL X.K H p^a.map V.str/\(a.map (·.length)).sum+a.length*z.length<=16777216/\Q (.str^Txt.join z a) H):=by
 intro m s n H x b v o Q I c d h;let#[z,p,a,rfl,rfl,e,f,q]:=h;let#[t,rfl]:=c;let#[u,rfl,g]:=vals1 d;subst g;let#[i,j,l,_]:=I.list e;exact join_list l.isList (Iu j) f λr k=>#[.str _,H,I.tok _,#[_,rfl],q]
theorem YB:SlR X (λx f g H Q=>∃z,x=.str z/\z.length<=sizeLine/\Q (.str^Txt.slice z f g) H):=by
 intro o s p H x v y A f g B Q I r c w m h;let#[z,rfl,d,q]:=h;let#[t,rfl]:=r;exists "str",_,F.slot_str_getitem.lookup,typeIs_str _ _ _;have b:∀a k,EP X o p Q (.str _ a) {s with toks:=k}:=λa k=>#[.str _,H,I.tok _,#[_,rfl],q];cases w with
 |none=>
  cases m with
  |none=>exact jp (l:=o_) (u:=o_) (st:=o_) c rfl (lN #[f_ (Txt.slice_le z _ _) d,λa k=>b a k])
  |int j e=>exact jp (l:=o_) (u:=P3 (j,e)) (st:=o_) c rfl (lN #[f_ (Txt.slice_le z _ _) d,λa k=>b a k])
 |int i n=>
  cases m with
  |none=>exact jp (l:=P3 (i,n)) (u:=o_) (st:=o_) c rfl (lN #[f_ (Txt.slice_le z _ _) d,λa k=>b a k])
  |int j e=>exact jp (l:=P3 (i,n)) (u:=P3 (j,e)) (st:=o_) c rfl (lN #[f_ (Txt.slice_le z _ _) d,λa k=>b a k])
theorem Qp(d:X.A.units<cLine):OpR X (compareOp .NotEq) (λx y H Q=>∃a b c,x=.ref a/\y=.ref b/\SqL X.K H a c/\SqL X.K H b []/\Q (.bl (!c.isEmpty)) H):=by
 intro w s z H x y v u Q I m n h;let#[a,b,c,rfl,rfl,o,p,q]:=h;subst m;subst n;let#[r,f,g,_]:=I.list o;let#[i,k,l,_]:=I.list p;cases k;cases f with
 |nil=>exact SeqAt.RcNeAt.lists (e:=λ_=>p_) g.isList l.isList rfl d (λj t B=>absurd t^by simp) _ _ _ _ #[.bl _,H,I,rfl,q]
 |cons f k=>exact SeqAt.RcNeAt.lists_lengths g.isList l.isList (by rfl) d _ _ _ _ #[.bl _,H,I,rfl,q]
end
end L2
namespace Dp
open L2
def Zf(K:Frag)(F:s_ (Ch×Ch))(U b M:Ch->Prop)(H:Hp)(n:Nat)(c:r_ Slot)(d:r_ V):Prop:=
 (∀a,M a->∃o,H a=P3 o)/\(∀f,F=P3 f->U f.1)/\(∀a,U a->b a)/\(∀a,b a->M a)/\qk K F M H n/\Paired (LM K F b M H) d c
abbrev W2:=r_ Slot->Nat->(D->Nat->Prop)->Prop
def Qa(K:Frag)(g:Kd)(W:W2)(h:Nat):Sp:=λb H Q _=>b.length=h/\∃(F:s_ (Ch×Ch)) (U c M:Ch->Prop) (n:Nat) (e:r_ Slot) (P:D->Nat->Prop),Zf K F U c M H n e b/\W e n P /\
 ∀v a d f,Ext U H a->qk K F M a f->VR K c M H a g v d->P d f->Q v a
def AU(w:DW):Nat->r_ Slot->(Slot->Nat->Prop)->Prop:=λn a P=>w n a λd b=>P (.sh d) b
def Ii(w:DW):Nat->r_ Slot->(Slot->Nat->Prop)->Prop:=λn a P=>w n a λd b=>P (.br d) b
def DF(i:Nat):Nat->r_ Slot->(Slot->Nat->Prop)->Prop:=λn a P=>match a[i]? with
 |some .fd=>P .fd n
 |_=>False
def A5:Ro:=λn _ P=>P [] n
def AI(w:Nat->r_ Slot->(Slot->Nat->Prop)->Prop)(b:Ro):Ro:=λn a P=>w n a λs c=>b c a λd e=>P (s::d) e
def A1(W:W2)(a:Ro):DW:=λn b P=>a n b λc d=>W c d P
section

theorem bu(h:DE X e κ wa)(b:κ≠.tp:=by intro z; cases z):cf X e^AU wa:=by
 let#[t,c,g]:=h;exact#[t,c,λC M H n i j P Q R w q=>g C M H n i j _ _ R w λv k d l e f r p=>q v k (.sh d) l e f #[#[v,rfl,r.zj R.dom b],rfl] p]
theorem Jm(h:DE X e κ wa):cf X e^Ii wa:=by
 let#[t,b,c]:=h;exact#[t,b,λC M H n g i P Q R w q=>c C M H n g i _ _ R w λv j d k e f r p=>q v j (.br d) k e f #[#[v,rfl,r.qw R.dom R.vM],rfl] p]
theorem BC(i:Nat)(d:X.N[i]?=P3 x:=by rfl)(e:QK X.env.scope x:=by first|exact gi rfl|exact iE (gi rfl)|exact iE (iE rfl))(b:(x==("__debug__":Str))=q_:=by decide)
  (c:(x==("__classdict__":Str))=q_:=by decide):cf X (.Name x pos)^DF i:=by
 refine#[_,ES d e b c,λC M H n j k P Q R w q=>?_];unfold DF at w
 split at w
 .rename_i b
  let#[f,g,h]:=R.sl i _ b;exact#[_,getD_some g,q _ H .fd n (Ext.refl _ _) R.feed #[#[f,rfl,h],rfl] w]
 simp_all
theorem AF:Rz X [] A5:=#[_,B4,λC M H n b c P Q R w q=>q [] H [] n (Ext.refl _ _) R.feed .nil w]
theorem AS(j:cf X e w1)(k:Rz X es was)(l:starEach (e::es) X.env=(q_,eval e X.env)::starEach es X.env:=by rfl):Rz X (e::es)^AI w1 was:=by
 let#[t,m,o]:=j;let#[u,r,s]:=k;refine#[_,A4 m r l,λC M H n c f P Q R w q=>?_];refine o C M H n c f _ _ R w λv x d y g A h p=>?_;have i:=R.step g A;exact s C M x y c f _ _ i p λG H2 I B b D E F=>q _ H2 _ B (g.trans b) D (.cons #[h.1.qq (i.qq b) (λ_ z=>z) b R.uV,h.2] E) F
theorem WH(G:qV X.prog X.w X.K X.mg X.base Ef k f fd b^Qa X.K κ W b.length)(o:∀c n P,W c n P->c.length=b.length)
  (r:qj k X.A) (s:Gl X x) (u:X.mg x=P3^.ref f) (y:keepIn X.K^.ref f=p_) (z:Binds X.K fd b []) (B:Rz X (e::es) was)
  (h:(x==("__debug__":Str))=q_:=by decide) (D:starEach (e::es) X.env=(q_,eval e X.env)::starEach es X.env:=by rfl) (i:(backTo pos^starEach es X.env).any (·.1)=q_:=by rfl):
  DE X (.Call (.Name x p) (e::es) [] pos) κ (A1 W was):=by
 let#[t,E,F]:=B;refine#[_,Pj G r s u y z .nil W_ E h D i,λC M H n I J P Q R w q=>?_];refine F C M H n I J _ _ R w λV Y c L j l m p=>?_;have g:=R.step j l;rw[gM];exact#[(Paired.length m).trans^o _ _ _ p,_,_,_,M,L,c,P,#[g.dom,g.fU,g.uV,g.vM,l,m],p,λv H2 d N O S T U=>q v H2 d N (j.trans O) S (VR.back j T) U]
def eY(K:Frag)(κ:Kd)(T:String)(r:V->r_ V->Hp->VK->Prop)(f:D->r_ D->(D->Prop)->Prop):Prop:=∀(U:Ch->Prop) (M:Ch->Prop) (H:Hp) (d:D) (c:r_ D) (x:V) (e:r_ V) (P:D->Prop) (Q:VK),(∀a,M a->∃o,H a=P3 o)->(∀a,U a->M a)->
 AtT K U M H d x->Paired (λv d=>AtT K U M H d v) e c->f d c P->(∀v b z,qW H b->VR K U M H b κ v z->P z->Q v b)->r x e H Q
def dg(T:String)(d:D):Prop:=match d with
 |.str _=>T="str"
 |.int _=>T="int"
 |.lst _=>T="list"
 |_=>False
def e8(T:String)(f:D->r_ D->(D->Prop)->Prop)(c:DW)(ws:Dq):DW:=λn b P=>c n b λd e=>dg T d/\ws e b λg h=>f d g λz=>P z h
theorem Tp{K:Frag}(h:dg T d)(hx:AtT K U M H d x):dA K T x H:=by
 cases d with
 |str z=>let#[e,_]:=hx; subst e; exact h
 |int i=>cases(hx); exact h
 |lst f=>let#[a,b,e,_,c,_]:=hx; subst e; exact .inl #[h,b,.inl c]
 |_=>exact(h).elim
theorem bq(J:PlainAttrs T)(k:PySem.Slot T name s)(y:typeOf^.builtin s=pure^.type "method_descriptor")(L:Zk X s r)
  (N:eY X.K κ T r f) (O:DE X a zU wa) (S:Ur X (e::es) ws)
  (i:attributeBase a name X.env^eval a X.env=eval a X.env:=by rfl)
  (l:((backTo b^starEach (e::es) X.env).all (λx=>!x.1)&&(backToKw b^keywordEach [] X.env).all (λx=>x.1.isSome)
   && decide ((e::es).length+([]:r_ jf).length+(if([]:r_ jf).isEmpty then 0 else 1)<30))=p_:=by rfl)
  (j:(h.endLine==b.line)=p_:=by rfl) (U:starEach (e::es) X.env=(q_,eval e X.env)::starEach es X.env:=by rfl) (c:(backTo b^starEach es X.env).any (·.1)=q_:=by rfl):
  DE X (.Call (.Attribute a name h) (e::es) [] b) κ (e8 T f wa ws):=by
 let#[t,W,Y]:=O;let#[u,Z,g2]:=S;refine#[_,W6 J k y L W Z i l j U c,λC M H n E F P Q R w q=>?_];refine Y C M H n E F _ _ R w λx H1 d n1 A f1 r1 p=>?_;have B:=R.step A f1;have G:=r1.qw R.dom R.vM;exists Tp p.1 G;refine g2 C M H1 n1 E F _ _ B p.2 λvs H2 ds n2 m I r2 p2=>?_;have o:=B.step m I;refine N C.V M H2 d ds x vs _ _ o.dom o.vM (G.qq (B.qq m) m R.uV) r2 p2 λv H3 z g vr pz=>?_;exact q v H3 z n2 ((A.trans m).trans g.ext) (I.grow g) (VR.back (A.trans m) vr) pz
def DO(X:Cx)(e:s_ gA)(w:Nat->r_ Slot->(s_ Int->Nat->Prop)->Prop):Prop:=∃t,PO X e t/\∀(C:Fm) (M:Ch->Prop) (H:Hp) (n:Nat) (c:r_ Slot) (d:L2.St) (P:s_ Int->Nat->Prop) (Q:s_ Int->Hp->Prop),Rel X.K C M H n c d->w n c P->
 (∀o b f,Ext C.U H b->qk X.K C.F M b f->P o f->Q o b)->t d H Q
def CA:Nat->r_ Slot->(s_ Int->Nat->Prop)->Prop:=λn _ P=>P o_ n
def C3(w:DW):Nat->r_ Slot->(s_ Int->Nat->Prop)->Prop:=λn b P=>w n b λd c=>match d with
 |.int i=>P (P3 i) c
 |_=>False
theorem BE:DO X o_ CA:=#[_,Pe,λC M H n b c P Q R w q=>q _ H n (Ext.refl _ _) R.feed w]
theorem Lw{K:Frag}(h:VR K U M H b κ v^.int i):v=.int i:=by
 cases κ with
 |sh=>exact h
 |tp=>exact h
 |fr=>let#[a,_,_,t]:=h; exact(t).elim
theorem Ao(h:DE X e κ wa):DO X (P3 e)^C3 wa:=by
 let#[t,b,c]:=h;refine#[_,Pc b,λC M H n f g P Q R w q=>?_];refine c C M H n f g _ _ R w λv j d k l m o p=>?_;cases d with
 |int i=>exact#[i,Lw o,q _ j k l m p]
 |_=>exact p.elim
def fH(K:Frag)(κ:Kd)(r:V->s_ Int->s_ Int->Hp->VK->Prop)(f:D->s_ Int->s_ Int->(D->Prop)->Prop):Prop:=∀(U:Ch->Prop) (M:Ch->Prop) (H:Hp) (d:D) (x:V) (c e:s_ Int) (P:D->Prop) (Q:VK),(∀a,M a->∃o,H a=P3 o)->(∀a,U a->M a)->
 AtT K U M H d x->f d c e P->(∀v b z,qW H b->VR K U M H b κ v z->P z->Q v b)->r x c e H Q
def N4(f:D->s_ Int->s_ Int->(D->Prop)->Prop)(w:DW)(c e:Nat->r_ Slot->(s_ Int->Nat->Prop)->Prop):DW:=λn b P=>w n b λd g=>c g b λh i=>e i b λj k=>f d h j λz=>P z k
theorem Bu(E:SlR X r)(F:fH X.K κ r f)(G:DE X e zU wa)(I:DO X i x)(J:DO X j y):
  DE X (.Subscript e (.Slice i j o_ k) pos) κ (N4 f wa x y):=by
 let#[t,L,N]:=G;let#[u,O,S]:=I;let#[u',T,U]:=J;refine#[_,Mt E L O T,λC M H n l m P Q R w q=>?_];refine N C M H n l m _ _ R w λv W d Y o Z r1 p=>?_;have s:=R.step o Z;have tv:=r1.qw R.dom R.vM;refine S C M W Y l m _ _ s p λi H2 n2 c f2 k=>?_;have b:=s.step c f2;refine U C M H2 n2 l m _ _ b k λj H3 n3 h A p3=>?_;have B:=b.step h A;refine F C.V M H3 d v i j _ _ B.dom B.vM ((tv.qq (s.qq c) c R.uV).qq (b.qq h) h R.uV) p3 λv H4 z g vr pz=>?_;exact q v H4 z n3 (((o.trans c).trans h).trans g.ext) (A.grow g) (VR.back ((o.trans c).trans h) vr) pz
end
structure E2 where
 nx:Nat->List Slot->Prop
 rt:D->Nat->Prop
 bk:Nat->List Slot->Prop:=λ_ _=>False
 ct:Nat->List Slot->Prop:=λ_ _=>False
abbrev AZ:=E2->Nat->r_ Slot->Prop
structure Gm (K:Frag) (C:Fm) (κ:Kd) (D2:E2) (E:Ends):Prop where
 nx:∀M H n ρ σ,Rel K C M H n ρ σ->D2.nx n ρ->E.nx σ H
 rt:∀v H d n,Ext C.U C.H0 H->qk K C.F C.M0 H n->VR K C.V C.M0 C.H0 H κ v d->D2.rt d n->E.rt v H
 bk:∀M H n ρ σ,Rel K C M H n ρ σ->D2.bk n ρ->E.bk σ H
 ct:∀M H n ρ σ,Rel K C M H n ρ σ->D2.ct n ρ->E.ct σ H
def DS(X:Cx)(d:Kd)(e:gz)(w:AZ):Prop:=∃t,PS X e t/\∀(C:Fm) (M:Ch->Prop) (H:Hp) (n:Nat) (a:r_ Slot) (b:L2.St) (c:E2) (E:Ends),Rel X.K C M H n a b->Gm X.K C d c E->w c n a->t E b H
def MV(X:Cx)(d:Kd)(e:r_ gz)(w:AZ):Prop:=∃t,PSs X e t/\∀(C:Fm) (M:Ch->Prop) (H:Hp) (n:Nat) (a:r_ Slot) (b:L2.St) (c:E2) (E:Ends),Rel X.K C M H n a b->Gm X.K C d c E->w c n a->t E b H
def Bm:AZ:=λa n b=>a.nx n b
def BV(u v:AZ):AZ:=λa n b=>u {a with nx:=v a} n b
def CG(w:DW):AZ:=λa n b=>w n b λd c=>a.rt d c
def CZ(t:F3)(u v:AZ):AZ:=λb n a=>t n a λc d=>if c=p_ then u b d a else v b d a
def CY(i:Nat)(w:DW):AZ:=λb n a=>w n a λd c=>b.nx c^a.set i^.sh d
section
variable {st:Stmt}
theorem AO:MV X κ [] Bm:=#[_,Ld,λC M H n a b c E R L w=>L.nx M H n a b R w]
theorem AC(d:DS X κ st u)(e:MV X κ rest v):MV X κ (st::rest)^BV u v:=by
 let#[t,f,g]:=d;let#[j,h,i]:=e;exact#[_,BG f h,λC M H n a b c E R L w=>g C M H n a b {c with nx:=v c} _ R #[λM H n a b R w=>i C M H n a b c E R L w,L.rt,L.bk,L.ct] w]
theorem AE(a:DS X κ st u):MV X κ [st] u:=by
 let#[t,b,c]:=a;exact#[t,Cz b,c]
theorem YG{K:Frag}{v:V}(R:Rel K C M H n j k)(L:Gm K C κ i E)(e:Ext C.U H g)(f:qk K C.F M g h)(r:VR K C.V M H g κ v d)(q:κ≠.tp)(p:i.rt d h):E.rt v g:=by
 have c:qZ M g _ g:=qZ.less R.sub;refine L.rt v g d h (R.ext.trans e) (f.qq c λ_ _ _ z=>z) ?_ p;cases κ with
 |sh=>exact At.qq c r
 |tp=>simp_all
 |fr=>
  let#[a,l,m,o]:=VR.back R.ext r;exact#[a,l,m,o.qq (qZ.less λb z=>z.imp (R.sub b) id) λ_ z=>z]
theorem AJ(h:DE X e κ wa)(a:κ≠.tp:=by intro z; cases z):DS X κ (.Return (P3 e) pos)^CG wa:=by
 let#[t,b,c]:=h;exact#[_,Fh b,λC M H n f g l E R L w=>c C M H n f g _ _ R w λv m d o i j k p=>YG R L i j k a p]
theorem Aa(k:DT X c wA)(l:MV X κ a u)(m:MV X κ b v):DS X κ (.If c a b pos)^CZ wA u v:=by
 let#[t,o,q]:=k;let#[A,r,s]:=l;let#[x,y,z]:=m;refine#[_,Pa o r y,λC M H n d e f E R L w=>?_];refine q C M H n d e _ _ R w λb g h i j p=>?_;cases b with
 |true=>exact s C M g h d e f E (R.step i j) L p
 |false=>exact z C M g h d e f E (R.step i j) L p
theorem Y5(b:X.N.Nodup)(c:X.N[i]?=P3 x)(hx:Loc X.env.scope x)(f:DE X e zT wa)(g:zT≠.tp:=by intro z; cases z)(h:swapsWith e (P3^.Name x a) pos.line X.env=pure q_:=by rfl)
  (j:X.fn x=p_\/X.env.scope.names.lookup x=P3 .local:=by first|exact .inl rfl|exact .inr rfl|assumption):DS X κ (.Assign [.Name x a] e pos)^CY i wa:=by
 let#[t,k,l]:=f;exact#[_,Ep b c hx k h j,λC M H n m o A E R L w=>l C M H n m o _ _ R w λv q d r s u y p=>L.nx M q r _ _ ((R.step s u).set^y.zj R.dom g) p]
end
section

def PB(i:Nat)(w:DW):AZ:=λb n a=>w n a λd c=>b.nx c^a.set i^.ow d
theorem V0(c:X.N.Nodup)(f:X.N[i]?=P3 x)(hx:Loc X.env.scope x)(g:DE X e .fr wa)(h:swapsWith e (P3^.Name x b) pos.line X.env=pure q_:=by rfl)
  (j:X.fn x=p_\/X.env.scope.names.lookup x=P3 .local:=by first|exact .inl rfl|exact .inr rfl|assumption):DS X κ (.Assign [.Name x b] e pos)^PB i wa:=by
 let#[t,k,l]:=g;refine#[_,Ep c f hx k h j,λC M H n m o B E R L w=>?_];refine l C M H n m o _ _ R w λv q d r s u y p=>?_;let#[a,rfl,z,A]:=y;exact L.nx _ q r _ _ (R.setOw s u z A) p
def SE(i:Nat):AZ:=λa n b=>∃d,b[i]?=P3^.ow d/\a.rt d n
theorem P4(i:Nat)(h:PE X (.Name x p)^CH i):DS X .fr (.Return (P3^.Name x p) pos)^SE i:=by
 refine#[_,Fh h,λC M H n g j k E R L zz=>?_];let#[d,c,f]:=zz;let#[a,e,m,l,t]:=R.sl i _ c;exact#[_,getD_some e,L.rt _ H d n R.ext (R.feed.qq (qZ.less R.sub) λ_ _ _ z=>z) #[a,rfl,(R.new i _ a c rfl e).2,t.qq (qZ.less λb z=>z.elim (R.sub b) λz=>by simp_all) λ_ z=>z] f]
def Zj(K:Frag)(r:V->r_ V->Hp->VK->Prop)(f:D->r_ D->(D->D->Prop)->Prop):Prop:=∀(M:Ch->Prop) (H:Hp) (a:Ch) (d:D) (b:r_ D) (c:r_ V) (P:D->D->Prop) (Q:VK),M a->zk K M H a d->Ats K M H b c->f d b P->
 (∀o e z v,zk K M (Al H a o) a e->At K M (Al H a o) z v->P e z->Q v^Al H a o)->r (.ref a) c H Q
def Rt(i:Nat)(T:String)(f:D->r_ D->(D->D->Prop)->Prop)(b:Dq):AZ:=λc n a=>∃d,a[i]?=P3^.ow d/\dg T d/\b n a λg h=>f d g λe _=>c.nx h^a.set i^.ow e
theorem E_(m:M a)(e:H a=P3 u)(t:∀c,u≠.tup c:=by intro _ z; cases z):qZ M H M^Al H a o:=#[λb f q d=>by rw[AL λz=>d^by simp_all]; exact q,λ_ z=>.inl z,λb c q=>by rw[AL λz=>by simp_all]; exact q]
theorem EL(i:Nat)(O:PlainAttrs T)(q:PySem.Slot T name w)(y:typeOf^.builtin w=pure^.type "method_descriptor")
  (P:Zk X w r) (Q:Zj X.K r f) (h:PE X (.Name x p)^CH i) (S:WW X (e::j) I)
  (k:attributeBase (.Name x p) name X.env^eval (.Name x p) X.env=eval (.Name x p) X.env:=by rfl)
  (s:((backTo b^starEach (e::j) X.env).all (λx=>!x.1)&&(backToKw b^keywordEach [] X.env).all (λx=>x.1.isSome)
   && decide ((e::j).length+([]:r_ jf).length+(if([]:r_ jf).isEmpty then 0 else 1)<30))=p_:=by rfl)
  (l:(c.endLine==b.line)=p_:=by rfl) (U:starEach (e::j) X.env=(q_,eval e X.env)::starEach j X.env:=by rfl) (g:(backTo b^starEach j X.env).any (·.1)=q_:=by rfl)
  (A:swapsWith (.Call (.Attribute (.Name x p) name c) (e::j) [] b) o_ pos.line X.env=pure q_:=by rfl):
  DS X κ (.Expr (.Call (.Attribute (.Name x p) name c) (e::j) [] b) pos) (Rt i T f I):=by
 let#[t,W,Y]:=S;refine#[_,VE (W6 O q y P h W k s l U g) A,λC M H n Z J D2 E R L zz=>?_];let#[d,B,hT,hw]:=zz;let#[a,F,m,nv,tt]:=R.sl i _ B;exists .ref a,getD_some F,Tp hT^tt.att nv;refine Y C M H n Z J _ _ R hw λvs H1 ds n1 ee f1 r1 p=>?_;have N:=R.step ee f1;let#[a',u,m',a0,G]:=N.sl i _ B;rw[F]at u;cases u;exact Q M H1 a d ds vs _ _ m' G r1 p λo d' z v t2 hz pp=>L.nx M _ n1 _ J (N.mut B F t2) pp
def Hz(d:D)(b:r_ D)(P:D->D->Prop):Prop:=∃a y,d=.lst a/\b=[y]/\a.length<sizeLine/\P (.lst (a++[y])) .non
theorem Ec{K:Frag}:Zj K PU Hz:=by
 intro M H a d j k P Q m t e w q;let#[l,y,rfl,rfl,f,w]:=w;let#[g,b,c]:=t;let#[u,r,rfl,h,i]:=e;cases(i);exact#[a,g,u,rfl,rfl,b,by rw[c.length]; exact f,q _ (.lst _) .non _ #[_,AQ,(c.append^Ats.one h).qq^E_ m b] rfl w]
end
def vv(K:Frag)(M:Ch->Prop)(H:Hp)(J:It)(e:r_ D):Prop:=∀(i:Nat) (c:Ch->Prop) (b:Hp),qZ M H c b->(∀a,c a->∃o,b a=P3 o)->
 (∀d,e[i]?=P3 d->J.go i b/\∀x H2,J.yld i b x H2->qW b H2/\At K c H2 d x)/\(e.length<=i->J.stop i b)
def QH(K:Frag)(U M:Ch->Prop)(H:Hp)(J:It)(e:r_ D):Prop:=∀(i:Nat) (c:Ch->Prop) (b:Hp),qZ M H c b->Ext U H b->(∀a,c a->∃o,b a=P3 o)->
 (∀d,e[i]?=P3 d->J.go i b/\∀x H2,J.yld i b x H2->qW b H2/\At K c H2 d x)/\(e.length<=i->J.stop i b)
theorem vv.e{K:Frag}(h:vv K M H J a):QH K U M H J a:=λi b c p _ d=>h i b c p d
def Xj(X:Cx)(h a:gA)(w:Dq):Prop:=∃c,PI X h a c/\∀(C:Fm) (M:Ch->Prop) (H:Hp) (n:Nat) (d:r_ Slot) (e:L2.St) (P:r_ D->Nat->Prop) (R:It->Hp->Prop),Rel X.K C M H n d e->w n d P->
 (∀J b f g,Ext C.U H b->qk X.K C.F M b g->QH X.K C.U M b J f->P f g->R J b)->c e H R
def DI(X:Cx)(h a:gA)(w:Dq):Prop:=∃c,PI X h a c/\∀(C:Fm) (M:Ch->Prop) (H:Hp) (n:Nat) (d:r_ Slot) (e:L2.St) (P:r_ D->Nat->Prop) (R:It->Hp->Prop),Rel X.K C M H n d e->w n d P->
 (∀J b f g,Ext C.U H b->qk X.K C.F M b g->vv X.K M b J f->P f g->R J b)->c e H R
def signs(x:Str):r_ D:=x.cps.toList.map λc=>.str #[#[ c]]
def Fc(w:DW):Dq:=λn c P=>w n c λd a=>match d with
 |.lst b=>P b a
 |.tup b=>P b a
 |.str x=>P (signs x) a
 |_=>False
theorem MW{K:Frag}(h:NdL M H a b)(g:Ats K M H f b):vv K M H (eh K a) f:=by
 intro i o j p _;have c:SqL K j a b:=(h.qq p).sq;refine#[λd k=>?_,λl=>#[b,c,by rw[g.length]; exact l]];let#[v,e,m]:=(g.qq p).get k;refine#[#[b,v,c,e],λx H2 y=>?_];let#[n,y]:=y;subst n
 have:=e.symm.trans^y b c
 injection this with this;subst this;exact#[.refl,m]
theorem Ih{K:Frag}(h:NdT M H a b)(g:Ats K M H f b):vv K M H (Zm K a) f:=by
 intro i o j p _;have c:SqT K j a b:=(h.qq p).sq;refine#[λd k=>?_,λl=>#[b,c,by rw[g.length]; exact l]];let#[v,e,m]:=(g.qq p).get k;refine#[#[b,v,c,e],λx H2 y=>?_];let#[n,y]:=y;subst n
 have:=e.symm.trans^y b c
 injection this with this;subst this;exact#[.refl,m]
set_option tactic.hygienic true in
theorem vh{K:Frag}:vv K M H (ef z)^signs z:=by
 intro i h j p _;refine#[λd a=>?_,λe=>?_]
 .unfold signs at a
  simp only[fo]at a
  have f:i<z.cps.size:=by
   cases q:z.cps.toList[i]? with
   |none=>simp_all
   |some c=>simpa using (XV.mp q).1
  refine#[f,λx H2 y=>?_];let#[g,c,k,rfl]:=y;subst g
  have:z.cps.toList[i]?=P3 c:=by simp_all
  rw[this]at a;have b:D.str #[#[ c]]=d:=fu a;subst b;exact#[.refl,rfl,by simp only[gn]; show 1<=16777216; decide]
 .show z.cps.size<=i
  unfold signs at e
  simp_all
def Ci(a:Int)(n:Nat):r_ D:=(gG n).map fun(i:Nat)=>.int (a+(i:Int))
theorem F4{K:Frag}{e:Int}:vv K M H (cU e m)^Ci e m:=by
 intro i k l p _;refine#[λd a=>?_,λg=>?_]
 .unfold Ci at a
  rw[fo]at a
  have f:=by
   cases q:(gG m)[i]? with
   |none=>simp_all
   |some c=>simpa using (XV.mp q).1
  rw[List.getElem?_range f]at a;have b:=fu a;subst b;refine#[f,λx H2 y=>?_];let#[h,j]:=y;subst h;exact#[.refl,j]
 .show m<=i
  unfold Ci at g
  simp_all
section

theorem Fx(h:DE X e κ wa)(o:κ≠.tp:=by intro z; cases z):DI X tg e^Fc wa:=by
 let#[t,r,s]:=h;refine#[_,OM r,λC M H n u x P A R w q=>?_];refine s C M H n u x _ _ R w λv c d f g i y p=>?_;have j:=y.zj R.dom o;cases d with
 |lst k=>
  let#[a,l,e,b,m]:=j;exact .inl #[a,e,#[l,b.sq],q _ c k f g i (MW b m) p]
 |tup k=>
  let#[a,l,e,b,m]:=j;exact .inr^.inl #[a,e,#[l,b.sq],q _ c k f g i (Ih b m) p]
 |str z=>exact .inr^.inr #[z,j.1,q _ c _ f g i vh p]
 |_=>exact p.elim
def MZ(ws:Dq):Dq:=λn a P=>ws n a λb c=>∃j:Int,b=[.int j]/\(-(2 ^ 62)<=j/\j<2 ^ 62)/\P (Ci 0 j.toNat) c
theorem CT(b:Gl X "range")(c:X.mg "range"=o_)(d:Ur X [e] ws)(f:starEach [e] X.env=[(q_,eval e X.env)]:=by rfl):DI X tg (.Call (.Name "range" p) [e] [] pos)^MZ ws:=by
 let#[t,g,h]:=d;refine#[_,Qk b c g f,λC M H n i k P x R w q=>?_];refine h C M H n i k _ _ R w λy l z m o s u p=>?_;let#[j,rfl,a,p]:=p;cases u with
 |cons r v=>
  cases v;exact#[j,by rw[r],a.1,a.2,q _ l _ m o s F4 p]
theorem DI.c(h:DI X tg e ws):Xj X tg e ws:=by
 let#[a,b,d]:=h;exact#[a,b,λC M H n f g P i R w q=>d C M H n f g P i R w λJ j k l m o y p=>q J j k l m o y.e p]
theorem A8(h:DE X e κ wa):Xj X tg e^Fc wa:=by
 let#[t,B,D]:=h;refine#[_,OM B,λC M H n E F P O R w q=>?_];refine D C M H n E F _ _ R w λv g d k l m G p=>?_;have f:AtT X.K C.V M g d v:=G.qw R.dom R.vM;cases d with
 | lst r=>
  let#[a,b,e,u,c,j]:=f;refine .inl #[a,e,#[b,.inl c],q _ g r k l m (λi Q I J ex _=>?_) p]
  have s:SqL X.K I a b:=by
   rcases c with c|⟨o,c⟩
   .exact .inl^.inl^ex.keep c λz=>u^R.uV a z
   .exact .inl^.inr #[o,ex.keep c λz=>u^R.uV a z]
  refine#[λd L=>?_,λN=>#[b,s,by rw[j.length]; exact N]];let#[v,e,f]:=(j.qq J).get L;refine#[#[b,v,s,e],λx H2 y=>?_];let#[e2,y]:=y;subst e2
  have:P3 v=P3 x:=e.symm.trans^y b s
  injection this with this;subst this;exact#[.refl,f]
 |tup r=>
  let#[a,b,e,A,j]:=f;exact .inr^.inl #[a,e,#[b,A.sq],q _ g r k l m (Ih A j).e p]
 |str z=>exact .inr^.inr #[z,f.1,q _ g _ k l m vh.e p]
 |_=>exact p.elim
end
abbrev BW:=D->r_ Slot->(r_ Slot->Prop)->Prop
def DG(X:Cx)(h:gA)(b:BW):Prop:=∃g,PG X h g/\∀(C:Fm) (M:Ch->Prop) (H:Hp) (n:Nat) (a:r_ Slot) (c:L2.St) (d:D) (v:V) (P:r_ Slot->Prop) (Q:L2.St->Hp->Prop),Rel X.K C M H n a c->At X.K M H d v->b d a P->
 (∀e f,Rel X.K C M H n e f->P e->Q f H)->g v c H Q
def Aq(i:Nat):BW:=λd a P=>P^a.set i^.sh d
theorem Ga(a:X.N.Nodup)(b:X.N[i]?=P3 x)(hx:Loc X.env.scope x)(c:X.fn x=p_\/X.env.scope.names.lookup x=P3 .local:=by first|exact .inl rfl|exact .inr rfl|assumption):DG X (.Name x pos)^Aq i:=
 #[_,GG a b hx c,λC M H n e f d v P Q R h w q=>q _ _ (R.set h) w]
def BH(b:BW)(a:AZ)(c:E2):r_ D->Nat->r_ Slot->Prop
 |[],n,e=>c.nx n e
 |d::f,n,e=>b d e λg=>a {c with nx:=BH b a c f,ct:=BH b a c f,bk:=c.nx} n g
def N5(c:Dq)(b:BW)(a:AZ):AZ:=λe n d=>c n d λf g=>BH b a e f g d
theorem Rel.vg{K:Frag}(R:Rel K {C with zG:=p::C.zG} M H n a b):Rel K C M H n a b:=
 #[R.len,R.sub,R.dom,R.ext,R.fU,R.uV,R.vM,R.feed,R.sl,λq c=>R.pin q^TM _ c,R.br0,R.new,R.two,R.kept]
theorem Rel.pinned{K:Frag}(R:Rel K C M H n a b):Rel K {C with zG:=(M,H)::C.zG} M H n a b:=
 #[R.len,R.sub,R.dom,R.ext,R.fU,R.uV,R.vM,R.feed,R.sl,λq c=>(TW.mp c).elim (λe=>e▸qZ.refl M H)^R.pin q,R.br0,R.new,R.two,R.kept]
section

theorem CP(S:lE (model X.prog X.w) X.A X.env X.xe)(T:X.calm=p_)(I:DI X tg iter src)(U:DG X tg b)(V:MV X κ body wb)
  (W:∀x,foldedSetIterable iter X.env x=pure x:=by intro _; rfl):DS X κ (.For tg iter body [] pos)^N5 src b wb:=by
 let#[wi,Y,Z]:=I;let#[g,g1,g2]:=U;let#[tb,b1,b2]:=V;refine#[_,JD S T Y g1 b1 W,λC M H n N σ h E R L w=>?_];refine Z C M H n N σ _ _ R w λJ u a n1 e1 f1 y w1=>?_;have R1:=R.step e1 f1;exists λi m v j=>m=a.length - i/\i<=a.length/\∃c k o,Rel X.K {C with zG:=(M,u)::C.zG} c j k o v/\BH b wb h (a.drop i) k o,#[a.length,by rfl,T0 _,M,n1,N,R1.pinned,w1];rintro i m v j ⟨rfl,I,c,k,o,l,z⟩;have O:qZ M u c j:=l.pin (M,u) Op
 by_cases d:i<a.length
 .have ed:a.drop i=a[i]::a.drop (i+1):=g_ d
  rw[ed]at z;let#[go,yl]:=(y i c j O l.dom).1 a[i] (FM d);refine .inr #[go,λP H2=>∃M2 B D,Rel X.K {C with zG:=(M,u)::C.zG} M2 H2 B D P/\BH b wb h (a.drop (i+1)) B D,λP H2 #[M2,B,D,f,w2]=>#[a.length - (i+1),by omega,rfl,d,M2,B,D,f,w2],λx H2 hy=>?_];let#[Q,hx]:=yl x H2 hy;have f:=l.step Q.ext^l.feed.grow Q;refine g2 _ c H2 k o v a[i] x _ _ f hx z λzP zV R3 w3=>?_;refine b2 _ c H2 k zP zV {h with nx:=BH b wb h^a.drop (i+1),ct:=BH b wb h^a.drop (i+1),bk:=h.nx} _ R3 #[λp F q r G s t=>#[p,q,r,s,t],L.rt,λp F q r G s t=>L.nx p F q r G s.vg t,λp F q r G s t=>#[p,q,r,s,t]] w3
 .have e:i=a.length:=by lk
  subst e;rw[jl]at z;exact .inl #[(y _ c j O l.dom).2 (On _),L.nx c j k o v l.vg z]
end
def Dx(b:BW)(f:F3)(g:DW)(P:r_ D->Nat->Prop):r_ D->r_ D->Nat->r_ Slot->Prop
 |[],a,n,_=>P a n
 |d::h,a,n,j=>b d j λe=>f n e λc i=>if c=p_ then g i e λy k=>Dx b f g P h (a++[y]) k e else Dx b f g P h a i e
def Te:Slot->Slot
 |.ow d=>.br d
 |.lt _ d=>.br d
 |s=>s
theorem Q3(s:Slot):(Te s).vW=q_:=by cases s <;>rfl
theorem EV{a:r_^s_ Nat}{b:r_ Slot}{i:Nat}(h:(a.map λo=>match o with|some i=>Te^(b[i]?).getD .no|none=>Slot.no)[i]?=P3 s):s.vW=q_:=by
 rw[fo]at h;cases q:a[i]? with
 |none=>simp_all
 | some o=>
  rw[q]at h;cases o with
  |none=>
   rw[←fu h]; rfl
  |some j=>
   rw[←fu h]; exact Q3 _
def GP(a:r_^s_ Nat)(b:r_ Slot):r_ Slot:=a.map λo=>match o with
 |some i=>Te^(b[i]?).getD .no
 |none=>.no
def FP(f:r_^s_ Nat)(a:Dq)(b:BW)(g:F3)(h:DW):DW:=λn d P=>a n d λe i=>e.length<=10000000/\Dx b g h (λc j=>P (.lst c) j) e [] i^GP f d
def Zs(X:Cx)(a:r_ gA)(w:F3):Prop:=∃t,cQ X a t/\∀(C:Fm) (M:Ch->Prop) (H:Hp) (n:Nat) (d:r_ Slot) (e:L2.St) (P:Bool->Nat->Prop) (Q:Bool->Hp->Prop),Rel X.K C M H n d e->w n d P->
 (∀b c f,Ext C.U H c->qk X.K C.F M c f->P b f->Q b c)->t e H Q
def Gp:F3:=λn _ P=>P p_ n
theorem A0:Zs X [] Gp:=#[_,VH,λC M H n a b P Q R w q=>q _ H n (Ext.refl _ _) R.feed w]
theorem GZ(h:DT X c w):Zs X [c] w:=by
 let#[t,a,b]:=h;exact#[t,VG a,b]
theorem Kr{i:Nat}(a:(GP c d)[i]?=P3 s):s=.no\/∃(j:Nat) (b:Slot),d[j]?=P3 b/\s=Te b/\((Cp c g)[i]?).getD o_=(g[j]?).getD o_:=by
 unfold GP at a;unfold Cp;rw[fo]at a ⊢;cases q:c[i]? with
 |none=>simp_all
 | some o=>
  rw[q]at a;cases o with
  |none=>simp_all
  | some j=>
   have e:Te _=s:=fu a;cases f:d[j]? with
   |none=>rw[f]at e; exact .inl e.symm
   |some b=>
    rw[f]at e;exact .inr #[j,b,f,e.symm,rfl]
theorem NG{K:Frag}(k:∀(i:Nat) (s:Slot),o[i]?=P3 s->qO K F U M H s^(p[i]?).getD o_)
  (r:qZ M H g h) (br:∀d v,AtT K U M H d v->AtT K m g h d v):∀(i:Nat) (s:Slot),(GP n o)[i]?=P3 s->qO K F m g h s^((Cp n p)[i]?).getD o_:=by
 intro i s w
 rcases Kr w with rfl|⟨j,u,q,rfl,e⟩
 .trivial
 .rw[e]
  have c:=k j u q;cases u with
  |no=>trivial
  |sh d=>let#[v,b,f]:=c; exact#[v,b,f.qq r]
  |ex a x y z=>let#[b,f]:=c; exact#[b,f.qq r]
  |br d=>let#[v,b,f]:=c; exact#[v,b,br d v f]
  |fd=>exact c
  |ow d=>let#[a,b,_,l,t]:=c; exact#[_,b,br d _^t.att l]
  |lt a d=>let#[b,_,l,t]:=c; exact#[_,b,br d _^t.att l]
theorem Po{K:Frag}(g:∀(i:Nat) (s:Slot),l[i]?=P3 s->qO K F U M H s^(m[i]?).getD o_){i:Nat}
  (r:(GP k l)[i]?=P3^.br d) (n:((Cp k m)[i]?).getD o_=P3^.ref a):∃o,H a=P3 o:=by
 rcases Kr r with z|⟨j,p,q,z,e⟩
 .cases z
 .rw[e]at n
  have f:=g j p q;simp only[n]at f;cases p with
  |br d=>let#[v,c,u]:=f; injection c with c;subst c; exact u.lies
  |ow d=>let#[b,c,_,h,t]:=f; cases c; exact(t.att h).lies
  |lt b d=>let#[c,_,h,t]:=f; cases c; exact(t.att h).lies
  |no=>cases z
  |sh d=>cases z
  |ex a w x y=>cases z
  |fd=>cases z
section

theorem P9(hc:X.calm=p_)(N':r_ Str)(js:r_^s_ Nat)(hi:Xj X tg iter src)(hg:∀I C s H L,DG (Ap X sc N' I C s H L) tg b)(ht:∀I C s H L,Zs (Ap X sc N' I C s H L) ifs tt)(he:∀I C s H L,DE (Ap X sc N' I C s H L) elt zT te)
  (hB:Ge sc X.env.scope X.N N' js=p_) (hk:zT≠.tp:=by intro z; cases z)
  (hs:∀x,foldedSetIterable iter X.env x=pure x:=by intro _; rfl):DE X (.ListComp elt [#[tg,iter,ifs,0]] sc pos) .fr^FP js src b tt te:=by
 let#[wi,a1,a2]:=hi;refine#[_,VO hc N' js a1 hB hs,λC M H n ρ σ P Q R w q=>?_];refine a2 C M H n ρ σ _ _ R w λJ O r n1 u f1 y w1=>?_;let#[b2,w1]:=w1;have R1:=R.step u f1;intro l hl b4 I Ca s0 H0 L;let#[g,g1,g2]:=hg I Ca s0 H0 L;let#[tc,c1,c2]:=ht I Ca s0 H0 L;let#[tx,x1,x2]:=he I Ca s0 H0 L
 have a3:¬C.U l:=λz=>by
  let#[o,z]:=R1.udom l z;rw[hl]at z; cases z
 generalize S:(λb=>M b\/b=l)=M';have a4:M' l:=by rw[←S]; exact .inr rfl
 have M'of:∀b,M b->M' b:=λb z=>by rw[←S]; exact .inl z
 have a0:∀b,M' b->M b\/b=l:=λb z=>by rw[←S]at z; exact z
 have a9:∀b,C.V b\/b=l->M' b:=λb z=>z.elim (λz=>M'of b^R1.vM b z) λz=>by rw[z]; exact a4
 have b3:js.length=N'.length:=E4 (zq.of hB).cap
 exists g,tc,tx,λi m zZ D=>m=r.length - i/\i<=r.length/\∃n' zY k E,Rel X.K #[M',C.F,C.U,λb=>C.V b\/b=l,O,[],[]] M' D n' zY zZ/\D l=P3^.lst E/\Ats X.K M' D k E/\k.length<=i/\qZ M O M' D /\
   Dx b tt te (λk n2=>P (.lst k) n2) (r.drop i) k n' zY,g1,c1,x1,#[r.length,by rfl,T0 _,n1,GP js ρ,[],[],?_]
 .have G:qW O^Al O l^.lst []:=Ab hl
  have T:qZ M O M'^Al O l^.lst []:=#[λb o e _=>G.all b o e,λb z=>(a0 b z).elim .inl λz=>.inr (by rw[z]; exact hl),λb E e=>G.all b _ e];refine#[#[?_,λa z=>z,λa z=>?_,G.ext,R1.fU,λa z=>.inl^R1.uV a z,a9,f1.qq T λf o _ e=>G.all f.1 o e,?_,λp hp=>absurd hp^by simp,λi d a q z=>Po R1.sl q z,λi s a q o _=>absurd o (by rw[EV q]; decide),λi j s t a q o _ _ _ _=>absurd o (by rw[EV q]; decide),λp hp=>absurd hp^by simp],AQ,rfl,T0 _,T,w1]
  .unfold GP Cp
   rw[No,No]
  .rcases a0 a z with z|z
   .let#[o,z]:=R1.dom a z
    exact#[o,G.all a o z]
   .subst z
    exact#[_,AQ]
  .refine NG R1.sl T λd v h=>h.same T (λa o _ e=>G.all a o e) λa e n1 z=>z.elim n1 λz=>?_
   subst e;let#[o,w]:=h.lies;rw[z,hl]at w;cases w
 .rintro i m zZ D ⟨rfl,hi,n',zY,k,E,R',a6,W,a7,T,w'⟩
  by_cases Y:i<r.length
  .have ed:r.drop i=r[i]::r.drop (i+1):=g_ Y
   rw[ed]at w';let#[go,yl]:=(y i M' D T R'.ext R'.dom).1 r[i] (FM Y);refine .inr #[go,λx H2 hy=>?_];let#[G,hx]:=yl x H2 hy;have b0:=R'.step G.ext^R'.feed.grow G;refine g2 _ M' H2 n' zY zZ r[i] x _ _ b0 hx w' λzP zV R3 w3=>?_;refine c2 _ M' H2 n' zP zV _ _ R3 w3 λc H4 n4 e4 f4 w4=>?_;have R4:=R3.step e4 f4;have p4:qZ M' D M' H4:=G.qq.trans^R3.qq e4;have l4:H4 l=P3^.lst E:=e4.keep (G.all _ _ a6) a3;cases c with
   |false=>exact#[r.length - (i+1),by lk,rfl,Y,n4,zP,k,E,R4,l4,W.qq p4,by lk,T.trans p4,w4]
   | true=>
    refine x2 _ M' H4 n4 zP zV _ _ R4 w4 λyv H5 d5 n5 e5 f5 r5 w5=>?_;have A:=R4.step e5 f5;have p5:qZ M' H4 M' H5:=R4.qq e5;have l5:H5 l=P3^.lst E:=e5.keep l4 a3;have b1:=r5.zj R4.dom hk;have a5:=(W.qq p4).qq p5;have pu:qZ M' H5 M'^Al H5 l^.lst (E++[yv]):=E_ a4 l5;have b5:E.length=k.length:=W.length;refine#[E,l5,by simp only[gn]; lk,r.length - (i+1),by lk,rfl,Y,n5,zP,k++[d5],E++[yv],?_,AQ,(a5.append^Ats.one b1).qq pu,by simp only[fh,gC]; lk,(T.trans p4).trans^p5.trans pu,w5];refine#[A.len,A.sub,λa z=>?_,λb o e=>?_,A.fU,A.uV,A.vM,?_,λj s hs=>?_,λp hp=>absurd hp^by simp,A.br0,A.new,A.two,λp hp=>absurd hp^by simp]
    .by_cases ha:a=l
     .subst ha; exact#[_,AQ]
     .rw[AL ha]; exact A.dom a z
    .let#[o',q1,q2]:=A.ext b o e
     by_cases hb:b=l
     .subst hb
      have e':O b=P3 o:=e;rw[hl]at e'; cases e'
     .exact#[o',by rw[AL hb]; exact q1,q2]
    .refine f5.qq pu λf o hf e=>?_
     rw[AL λz=>a3^by simp only[←z]; exact R1.fU f hf];exact e
    .have B:=A.sl j s hs
     cases s with
     |no=>trivial
     |sh d=>let#[v,u,Z]:=B; exact#[v,u,Z.qq pu]
     |ex a nm ks r=>let#[u,Z]:=B; exact#[u,Z.qq pu]
     | br d=>
      let#[v,u,Z]:=B;refine#[v,u,Z.same pu (λa o z e=>?_) λ_ _ z=>z];subst z;let#[o3,w]:=A.br0 j d a hs u
      have a7:a≠l:=λz=>by
       have w':O a=P3 o3:=w;rw[z,hl]at w'; cases w'
      rw[AL a7]; exact e
     |ow d=>
      let#[a,u,Z,_]:=B;exact absurd Z (A.new j _ a hs rfl u).1
     |lt a d=>
      let#[u,Z,_]:=B;exact absurd Z (A.new j _ a hs rfl u).1
     |fd=>exact B
  .have e:i=r.length:=by lk
   subst e;rw[jl]at w';refine .inl #[(y _ M' D T R'.ext R'.dom).2 (On _),?_];have eb:Ext C.U O D:=R'.ext;have a8:qZ M' D M D:=qZ.less M'of;refine q _ D (.lst k) n' (u.trans eb) (R'.feed.qq a8 λ_ _ _ z=>z) (VR.back u ?_) w';exact#[l,rfl,hl,E,a6,by rw[S]; exact W]
end
theorem Gz{K:Frag}(h:Zf K F U k M H n c f)(I:f.length<=N.length):
  Rel K #[M,F,U,k,H,[],[]] M H n (c++fq (N.length - c.length) .no) (L2.start N f):=by
 let#[u,A,B,C,fd,q]:=h;have D:f.length=c.length:=Paired.length q
 have E:∀{f:r_ V}{c:r_ Slot}{i:Nat}{s:Slot},Paired (LM K F k M H) f c->c[i]?=P3 s->∃v,f[i]?=P3 v/\LM K F k M H v s:=by
  intro f c i s q
  induction q generalizing i with
  |nil=>intro e; simp at e
  | cons r t G=>
   intro e;cases i with
   |zero=>simp at e; subst e; exact#[_,rfl,r]
   |succ i=>
    let#[v,l,m]:=G (i:=i) (by simpa using e);exact#[v,by simpa using l,m]
 have g:∀(i:Nat) (s:Slot),(c++fq (N.length - c.length) Slot.no)[i]?=P3 s->s=.no\/∃v,((L2.start N f)[i]?).getD o_=P3 v/\LM K F k M H v s:=by
  intro i s b
  by_cases x:i<c.length
  .rw[jY x]at b
   let#[v,l,m]:=E q b;refine .inr #[v,?_,m];unfold L2.start;rw[jY (by simp only[No,D]; exact x),fo,l];rfl
  .rw[iD^by lk,kj]at b
   split at b
   .exact .inl (fu b).symm
   .cases b
 refine#[?_,λa z=>z,u,Ext.refl _ _,A,B,C,fd,λi s b=>?_,λp w=>absurd w^by simp,λi d a b y=>?_,λi s a b o _=>?_,λi j s t a b o _ _ _ _=>?_,λp w=>absurd w^by simp]
 .unfold L2.start
  simp only[fh,No,iz];lk
 .rcases g i s b with rfl|⟨v,e,h⟩
  .trivial
  .rw[e]; exact h.1
 .rcases g i _ b with z|⟨v,e,h⟩
  .cases z
  .rw[e]at y
   injection y with y;subst y;let#[v,l,m]:=h.1;injection l with l;subst l;exact m.lies
 .rcases g i s b with rfl|⟨v,e,h⟩
  .cases o
  .rw[h.2]at o; cases o
 .rcases g i s b with rfl|⟨v,e,h⟩
  .cases o
  .rw[h.2]at o; cases o
theorem d9{K:Frag}{j:gz}(F:Fun K x b j f fd)(S:BJ N g^AK j)(G:g.length<=N.length)
  (I:∀(c:Db) (A:gE) (a:r_ Env) (s:Go) (H:Hp) (E:XK),qj k^A.deeper^envOfC b (AK j) s.heap.objs.size f c->MV (Dh Ef P w K y e N b (AK j) f c A a s H E).nox m (A9 j) B)
  (hW:∀l n i,l.length=g.length->W l n i->B {nx:=λn _=>m=.sh/\i .non n,rt:=i} n (l++fq (N.length - g.length) .no)):
  qV P w K y e Ef (k+1) f fd g (Qa K m W g.length):=by
 refine F.ok S (λC H Q E h=>h.1) λc A a s H C Q E J h=>?_;let#[hl,L,U,O,M,n,l,i,D,hw,q]:=h;let#[t,T,V]:=I c A a s H E J;exists t,T;have el:C.length=l.length:=Paired.length D.2.2.2.2.2;have R:=Gz (N:=N) D (by lk);refine V #[M,L,U,O,H,[],[]] M H n _ _ {nx:=λn _=>m=.sh/\i .non n,rt:=i} _ R #[λM1 o r zR zK u p=>?_,λv o d r X Y Z p=>q v o d r X Y Z p,λ_ _ _ _ _ _ z=>z.elim,λ_ _ _ _ _ _ z=>z.elim] ?_
 .let#[hk,p]:=p
  subst hk;exact q .non o .non r u.ext (u.feed.qq (qZ.less u.sub) λ_ _ _ z=>z) rfl p
 simp_all
end Dp
namespace L2
section

theorem Inv.rdl(I:Inv X c d H s)(h:Rd H l^.lst b):b.length<=sizeLine/\∃(a:r_ Db) (n:Nat),qQ b a/\b.length=a.length/\s.heap.get? l=P3 {cls:=.type "list",data:=.seq a.toArray n}:=by
 let#[z,a,n,r,e]:=h.ok I.hok;exact#[z,_,n,r,r.length,e]
theorem IP:OpR X (binaryOp .Add) (λx y H Q=>∃l b d f,x=.ref l/\y=.ref b/\Rd H l^.lst d/\Rd H b^.lst f/\d.length+f.length<=sizeLine/\∀p,H p=o_->Q (.ref p)^Al H p^.lst (d++f)):=by
 intro A s B H x y v u Q I g i h;let#[l,b,d,f,rfl,rfl,j,k,C,q]:=h;subst g;subst i;let#[z,c,n,r,D,e]:=I.rdl j;let#[E,a,F,m,o,t]:=I.rdl k;refine PySem.P.add_list e t ?_ (by simp_all);have w:c.toArray++a.toArray=(c++a).toArray:=by simp
 rw[w];exact#[.ref _,_,I.lnew (r.append m)^by simp_all,rfl,q _ I.fresh]
end
end L2
namespace Dp
open L2
section
variable {K:Frag}
theorem AtT.int(h:AtT K U M H (.int i) v):v=.int i:=h
theorem AtT.bl(h:AtT K U M H (.bl i) v):v=.bl i:=h
theorem AtT.str(h:AtT K U M H (.str x) v):v=.str x/\x.length<=sizeLine:=h
theorem AtT.tup{U M:Ch->Prop}{H:Hp}{b:r_ D}{v:V}(h:AtT K U M H (.tup b) v):∃a c,v=.ref a/\NdT M H a c/\Ats K M H b c:=h
def cu(g:Int->Int->(D->Prop)->Prop)(d e:D)(P:D->Prop):Prop:=match d,e with
 |.int i,.int j=>g i j P
 |_,_=>False
theorem L5(w:cu g d e P):∃i j,d=.int i/\e=.int j/\g i j P:=by
 unfold cu at w
 split at w
 .grind
 simp_all
def f2(g:Int->Int->D):D->D->(D->Prop)->Prop:=cu λi j P=>P^g i j
def bi(C:Int->Int->Prop)(g:Int->Int->D):D->D->(D->Prop)->Prop:=cu λi j P=>C i j/\P^g i j
theorem UZ{g:Int->Int->Int}:D_ K .sh (HL λi j=>.int^g i j) (f2 λi j=>.int^g i j):=by
 intro U M H d e x y P Q a f b c w q;let#[i,j,rfl,rfl,w]:=L5 w;exact#[i,j,b,c,q _ H (.int _) .refl rfl w]
theorem MP{g:Int->Int->Bool}:D_ K .sh (HL λi j=>.bl^g i j) (f2 λi j=>.bl^g i j):=by
 intro U M H d e x y P Q a f b c w q;let#[i,j,rfl,rfl,w]:=L5 w;exact#[i,j,b,c,q _ H (.bl _) .refl rfl w]
theorem CQ{g:Int->Int->Int}:D_ K .sh (rI C λi j=>.int^g i j) (bi C λi j=>.int^g i j):=by
 intro U M H d e x y P Q a f b c w q;let#[i,j,rfl,rfl,w]:=L5 w;exact#[i,j,b,c,w.1,q _ H (.int _) .refl rfl w.2]
def bZ(g:Str->Str->(D->Prop)->Prop)(d e:D)(P:D->Prop):Prop:=match d,e with
 |.str i,.str j=>g i j P
 |_,_=>False
theorem Py(w:bZ g d e P):∃i j,d=.str i/\e=.str j/\g i j P:=by
 unfold bZ at w
 split at w
 .grind
 simp_all
theorem O7{g:Str->Str->Bool}:D_ K .sh (λx y H Q=>∃i j,x=.str i/\y=.str j/\Q (.bl^g i j) H) (bZ λi j P=>P^.bl^g i j):=by
 intro U M H d e x y P Q a f b c w q;let#[i,j,rfl,rfl,w]:=Py w;exact#[i,j,b.1,c.1,q _ H (.bl _) .refl rfl w]
theorem Rl:D_ K .sh (λx y H Q=>∃i j,x=.str i/\y=.str j/\i.length+j.length<=sizeLine/\Q (.str (i++j)) H) (bZ λi j P=>i.length+j.length<=sizeLine/\P^.str (i++j)):=by
 intro U M H d e x y P Q a f b c w q;let#[i,j,rfl,rfl,w]:=Py w;exact#[i,j,b.1,c.1,w.1,q _ H (.str _) .refl #[rfl,by rw[mQ i j]; exact w.1] w.2]
def d_(g:r_ D->r_ D->(D->Prop)->Prop)(d e:D)(P:D->Prop):Prop:=match d,e with
 |.tup i,.tup j=>g i j P
 |_,_=>False
def eF(g:r_ D->r_ D->(D->Prop)->Prop)(d e:D)(P:D->Prop):Prop:=match d,e with
 |.lst i,.lst j=>g i j P
 |_,_=>False
theorem Vs(w:d_ g d e P):∃i j,d=.tup i/\e=.tup j/\g i j P:=by
 unfold d_ at w
 split at w
 .grind
 simp_all
theorem Vt(w:eF g d e P):∃i j,d=.lst i/\e=.lst j/\g i j P:=by
 unfold eF at w
 split at w
 .grind
 simp_all
theorem C9(d:∀a,M a->∃o,H a=P3 o)(e:H p=o_)(h:Ats K M H c b):At K M (Al H p^.tup b) (.tup c)^.ref p:=#[p,b,rfl,AQ,h.qq (Ab e).qq]
theorem C_(c:H p=o_)(h:Ats K M H b a):VR K U M H (Al H p^.lst a) .fr (.ref p)^.lst b:=
 #[p,rfl,c,a,AQ,h.qq^Fs c]
theorem Rk:D_ K .sh (Sr K) (d_ λi j P=>i≠[]/\i.length+j.length<=sizeLine/\P^.tup (i++j)):=by
 intro U M H d e x y P Q c u o r w q;let#[i,j,rfl,rfl,w]:=Vs w;let#[a,g,rfl,h,f]:=o.tup;let#[b,s,rfl,t,k]:=r.tup;have l:=f.length;have m:=k.length;refine#[a,b,g,s,rfl,rfl,h.sq,t.sq,λz=>w.1 ?_,by simp_all,λz=>?_,λz p n=>?_]
 .rw[z]at l; exact jq.mp l.symm
 .rw[z]at m
  have:j=[]:=jq.mp m.symm
  subst this;exact q _ H (.tup i) .refl #[a,g,rfl,h,f]^by simp_all
 .exact q _ _ (.tup (i++j)) (Ab n) (C9 c n^f.append k) w.2.2
theorem FJ:D_ K .fr (λx y H Q=>∃l b c f,x=.ref l/\y=.ref b/\Rd H l^.lst c/\Rd H b^.lst f/\c.length+f.length<=sizeLine/\∀p,H p=o_->Q (.ref p)^Al H p^.lst (c++f)) (eF λi j P=>i.length+j.length<=sizeLine/\P^.lst (i++j)):=by
 intro U M H d e x y P Q m v n o w q;let#[i,j,rfl,rfl,w]:=Vt w;let#[a,r,rfl,_,s,g]:=n;let#[b,t,rfl,_,u,h]:=o;exact#[a,b,r,t,rfl,rfl,s,u,by rw[g.length,h.length]; exact w.1,λp k=>q _ _ _ (Ab k) (C_ k^g.append h) w.2]
def Oo(a:Bool)(d e:D)(P:D->Prop):Prop:=match d,e with
 |.bl i,.bl j=>P^.bl (if a then !(i==j)else i==j)
 |.int i,.int j=>P^.bl (if a then !(i==j)else i==j)
 |.str i,.str j=>P^.bl (if a then !(i==j)else i==j)
 |_,_=>False
theorem P0(w:Oo a d e P):(∃i j,d=.bl i/\e=.bl j/\P^.bl (if a then !(i==j)else i==j))\/(∃i j,d=.int i/\e=.int j/\P^.bl (if a then !(i==j)else i==j))\/∃i j,d=.str i/\e=.str j/\P^.bl (if a then !(i==j)else i==j):=by
 unfold Oo at w
 split at w
 .simp_all
 .simp_all
 .simp_all
 simp_all
theorem DD:D_ K .sh fB^Oo q_:=by
 intro U M H d e x y P Q c f a b w q
 rcases P0 w with⟨i,j,rfl,rfl,w⟩|⟨i,j,rfl,rfl,w⟩|⟨i,j,rfl,rfl,w⟩
 .rw[a.bl,b.bl]; exact#[rfl,q _ H _ .refl (by rw[MB]; rfl) w]
 .rw[a.int,b.int]; exact#[rfl,q _ H _ .refl (by rw[IY]; rfl) w]
 .rw[a.str.1,b.str.1]; exact#[rfl,q _ H _ .refl (by rw[IX]; rfl) w]
theorem Gj:D_ K .sh e9^Oo p_:=by
 intro U M H d e x y P Q c f a b w q
 rcases P0 w with⟨i,j,rfl,rfl,w⟩|⟨i,j,rfl,rfl,w⟩|⟨i,j,rfl,rfl,w⟩
 .rw[a.bl,b.bl]; exact#[rfl,q _ H _ .refl (by rw[MB]; rfl) w]
 .rw[a.int,b.int]; exact#[rfl,q _ H _ .refl (by rw[IY]; rfl) w]
 .rw[a.str.1,b.str.1]; exact#[rfl,q _ H _ .refl (by rw[IX]; rfl) w]
def NP:D->Bool
 |.non=>p_
 |_=>q_
theorem NO(h:AtT K U M H d x):decide (x=.non)=NP d:=by
 cases d with
 |non=>rw[h]; rfl
 |bl b=>rw[h.bl]; rfl
 |int i=>rw[h.int]; rfl
 |str z=>rw[h.str.1]; rfl
 |tup c=>let#[a,e,rfl,_]:=h.tup; rfl
 |lst c=>let#[a,e,rfl,_]:=h; rfl
 |dic f c=>let#[a,e,rfl,_]:=h; rfl
 |fdi f c=>let#[a,e,rfl,_]:=h; rfl
 |dit f c=>let#[a,e,rfl,_]:=h; rfl
def CV(d e:D)(P:D->Prop):Prop:=match d,e with
 |.lst a,.int i=>∃z,atI a i=P3 z/\P z
 |.tup a,.int i=>∃z,atI a i=P3 z/\P z
 |.str x,.int i=>∃c,atI x.cps.toList i=P3 c/\P^.str #[#[ c]]
 |_,_=>False
theorem Vu(w:CV d e P):(∃a i z,d=.lst a/\e=.int i/\atI a i=P3 z/\P z)\/(∃a i z,d=.tup a/\e=.int i/\atI a i=P3 z/\P z)\/∃x i c,d=.str x/\e=.int i/\atI x.cps.toList i=P3 c/\P^.str #[#[ c]]:=by
 unfold CV at w
 split at w
 .simp_all
 .simp_all
 .simp_all
 simp_all
set_option tactic.hygienic true in
theorem Ats.atI(h:Ats K M H a b)(e:atI a i=P3 z):∃v,L2.atI b i=P3 v/\At K M H z v:=by
 unfold L2.atI at e ⊢;rw[h.length];cases q:Uq _ i with
 |none=>grind
 |some j=>
  rw[q]at e;exact h.get e
theorem eO:D_ K .sh (e_ K) CV:=by
 intro U M H d e x y P Q n r f g w q
 rcases Vu w with⟨o,i,z,rfl,rfl,h,w⟩|⟨o,i,z,rfl,rfl,h,w⟩|⟨x,i,c,rfl,rfl,p,w⟩
 .let#[a,j,rfl,_,k,l]:=f
  let#[v,m,b]:=l.atI h;exact .inl #[a,j,i,v,rfl,g,.inl k,m,q v H z .refl b w]
 .let#[a,j,rfl,k,l]:=f.tup
  let#[v,m,b]:=l.atI h;exact .inr^.inl #[a,j,i,v,rfl,g,k.sq,m,q v H z .refl b w]
 .exact .inr^.inr #[x,i,c,f.str.1,g,f.str.2,p,q _ H (.str _) .refl #[rfl,by show 1<=16777216; decide] w]
def cutD{b:Type}(a:r_ b)(c d:s_ Int):r_ b:=(a.drop^HT.sIx a.length 0 c).take (HT.sIx a.length a.length d - HT.sIx a.length 0 c)
theorem DY{a:r_ V}{d:D}(h:Paired R a [d]):∃v,a=[v]/\R v d:=by
 cases h with
 |cons r t=>cases t; simp_all
def dZ:D->s_ Nat
 |.str x=>P3 x.length
 |.tup a=>P3 a.length
 |.lst a=>P3 a.length
 |_=>o_
def NV(a:r_ D)(P:D->Prop):Prop:=∃d n,a=[d]/\dZ d=P3 n/\P^.int (n:Int)
theorem cA:Dr K .sh (λe H Q=>∃x n,e=[x]/\Zl K x H n/\Q (.int n) H) NV:=by
 intro U M H k l P Q i m j w q;let#[d,n,rfl,b,w]:=w;let#[v,rfl,c]:=DY j;refine#[v,n,rfl,?_,q _ H (.int _) .refl rfl w];cases d with
 |str z=>injection b with b;subst b; rw[c.str.1]; exact#[c.str.2,rfl]
 |tup e=>
  injection b with b;subst b;let#[a,f,rfl,g,h]:=c.tup;exact .inr #[f,g.sq,h.length.symm]
 |lst e=>
  injection b with b;subst b;let#[a,f,rfl,_,g,h]:=c;exact .inl #[f,.inl g,h.length.symm]
 |_=>cases b
def allB:r_ D->s_^r_ Bool
 |[]=>P3 []
 |.bl b::r=>(allB r).map (b::·)
 |_::_=>o_
theorem QE:∀{d:r_ D}{a:r_ V}{c:r_ Bool},allB d=P3 c->Ats K M H d a->a=c.map V.bl
 |[],a,c,e,h=>by injection e with e;subst e; exact h
 |.bl b::r,a,c,e,h=>by
  let#[v,l,f,g,i]:=h;let#[j,k,rfl]:=gY.mp e;rw[f,QE k i,g];rfl
 |.non::r,a,c,e,h=>by cases e
 |.int _::r,a,c,e,h=>by cases e
 |.str _::r,a,c,e,h=>by cases e
 |.tup _::r,a,c,e,h=>by cases e
 |.lst _::r,a,c,e,h=>by cases e
 |.dic _ _::r,a,c,e,h=>by cases e
 |.fdi _ _::r,a,c,e,h=>by cases e
 |.dit _ _::r,a,c,e,h=>by cases e
def RP(c:r_ D)(P:D->Prop):Prop:=∃a b,c=[.lst a]/\allB a=P3 b/\P^.bl^b.all id
theorem Jy:Dr K .sh (λc H Q=>∃(p:Ch) (b:r_ Bool),c=[.ref p]/\SqL K H p^b.map V.bl/\Q (.bl^b.all id) H) RP:=by
 intro U M H j k P Q d l f w q;let#[c,b,rfl,e,w]:=w;let#[v,rfl,g]:=DY f;let#[a,m,rfl,_,h,i]:=g
 have:=QE e i
 subst this;exact#[a,b,rfl,.inl h,q _ H (.bl _) .refl rfl w]
def Nq:r_ D->s_^r_ Str
 |[]=>P3 []
 |.str b::r=>(Nq r).map (b::·)
 |_::_=>o_
theorem ML:∀{d:r_ D}{a:r_ V}{c:r_ Str},Nq d=P3 c->Ats K M H d a->a=c.map V.str
 |[],a,c,e,h=>by injection e with e;subst e; exact h
 |.str b::r,a,c,e,h=>by
  let#[v,l,f,g,i]:=h;let#[j,k,rfl]:=gY.mp e;simp only[f,ML k i,g.1];rfl
 |.non::r,a,c,e,h=>by cases e
 |.int _::r,a,c,e,h=>by cases e
 |.bl _::r,a,c,e,h=>by cases e
 |.tup _::r,a,c,e,h=>by cases e
 |.lst _::r,a,c,e,h=>by cases e
 |.dic _ _::r,a,c,e,h=>by cases e
 |.fdi _ _::r,a,c,e,h=>by cases e
 |.dit _ _::r,a,c,e,h=>by cases e
def XU(d:D)(c:r_ D)(P:D->Prop):Prop:=∃(z:Str) (b:r_ D) (a:r_ Str),d=.str z/\c=[.lst b]/\Nq b=P3 a/\(a.map (·.length)).sum+a.length*z.length<=16777216/\(Txt.join z a).length<=16777216/\P^.str^Txt.join z a
theorem ZU:eY K .sh "str" (λx c H Q=>∃(z:Str) (p:Ch) (b:r_ Str),x=.str z/\c=[.ref p]/\SqL K H p^b.map V.str/\(b.map (·.length)).sum+b.length*z.length<=16777216/\Q (.str^Txt.join z b) H) XU:=by
 intro U M H d m x n P Q f o g h w q;let#[z,c,b,rfl,rfl,e,i,r,w]:=w;let#[v,rfl,j]:=DY h;let#[a,s,rfl,_,k,l]:=j
 have:=ML e l
 subst this;exact#[z,a,b,g.str.1,rfl,.inl k,i,q _ H (.str _) .refl #[rfl,by assumption] w]
def Om(b:r_ D)(P:D->Prop):Prop:=match b with
 |[.lst a]=>P^.lst a
 |[.tup a]=>P^.lst a
 |_=>False
theorem MO:Dr K .fr (λi H Q=>∃p c,i=[.ref p]/\(SqL K H p c\/SqT K H p c)/\∀l,H l=o_->Q (.ref l)^Al H l^.lst c) Om:=by
 intro U M H k m P Q j n h w q;unfold Om at w
 split at w
 .let#[v,rfl,d]:=DY h
  let#[a,e,rfl,_,f,g]:=d;exact#[a,e,rfl,.inl^.inl f,λl b=>q _ _ _ (Ab b) (C_ b g) w]
 .let#[v,rfl,d]:=DY h
  let#[a,e,rfl,f,g]:=d.tup;exact#[a,e,rfl,.inr f.sq,λl b=>q _ _ _ (Ab b) (C_ b g) w]
 simp_all
end
def Ux:D->String
 |.non=>"NoneType"
 |.bl _=>"bool"
 |.int _=>"int"
 |.str _=>"str"
 |.tup _=>"tuple"
 |.lst _=>"list"
 |.dic _ _=>"dict"
 |.fdi _ _=>"dict"
 |.dit _ _=>"dict"
def NN(t T:String):Bool:=t==T||(t=="bool"&&T=="int")
def Z_(T:String)(a:DW):DW:=λn b P=>a n b λd c=>P (.bl^NN (Ux d) T) c
structure KR (K:Frag) (T:String):Prop where
 ans:∀t∈["NoneType","bool","int","str","tuple","list","dict"],PySem.W.kitOne K (.type t)^.type T=P3^NN t T
theorem PF{K:Frag}(h:AtT K U M H d x):FN K H x^.type^Ux d:=by
 cases d with
 |non=>cases(h); exact .non
 |bl b=>cases h.bl; exact .bl b
 |int i=>cases h.int; exact .int i
 |str z=>cases h.str.1; exact .str z
 |tup e=>
  let#[a,f,rfl,c,j]:=h.tup;exact .tup c
 |lst e=>
  let#[a,f,rfl,_,c,j]:=h
  rcases c with c|⟨o,c⟩
  .exact .lst c
  .exact .frz c
 |dic g e=>
  let#[a,f,rfl,_,c,_]:=h;exact .dK c
 |fdi g e=>
  let#[a,f,rfl,#[o,_,c],_]:=h;exact .dF c
 |dit g e=>
  let#[a,f,rfl,_,c,_]:=h;exact .dT c
theorem PJ(d:D):Ux d∈["NoneType","bool","int","str","tuple","list","dict"]:=by cases d <;>simp[Ux]
theorem Bk(r:KR X.K T)(s:DE X a o l)(u:Gl X "isinstance")(x:X.mg "isinstance"=o_)(e:Gl X b)(f:X.mg b=o_)(g:bootBuiltins b=P3^.type T)
  (h:b ≠ "__name__":=by decide) (i:(b==("__debug__":Str))=q_:=by decide)
  (m:starEach [a,.Name b c] X.env=(q_,eval a X.env)::starEach [.Name b c] X.env:=by rfl) (j:starEach [.Name b c] X.env=[(q_,eval (.Name b c) X.env)]:=by rfl)
  (k:(backTo pos^starEach [.Name b c] X.env).any (·.1)=q_:=by rfl):DE X (.Call (.Name "isinstance" p) [a,.Name b c] [] pos) .sh^Z_ T l:=by
 let#[t,y,z]:=s;have A:PE X (.Name b c)^tC^.ty T:=IL e f g rfl h i;exact#[_,C4 Nm u x (by decide +kernel) (A4 y (A4 A B4 j) m) (by cbv) (by cbv) m k,λC M H n B D P Q R w q=>z C M H n B D _ _ R w λv E d F G I J p=>#[v,T,_,_,rfl,PF^J.qw R.dom R.vM,r.ans _^PJ d,q _ E (.bl _) F G I rfl p]]
section
variable {K:Frag}{X:Cx}
def XW(d e:D)(P:D->Prop):Prop:=match d,e with
 |.int i,.int j=>P^.int (i+j)
 |.str i,.str j=>i.length+j.length<=sizeLine/\P^.str (i++j)
 |.tup i,.tup j=>i≠[]/\i.length+j.length<=sizeLine/\P^.tup (i++j)
 |.lst i,.lst j=>i.length+j.length<=sizeLine/\P^.lst (i++j)
 |_,_=>False
def au:R2:=λx y H Q=>∃l b a c,x=.ref l/\y=.ref b/\Rd H l^.lst a/\Rd H b^.lst c/\a.length+c.length<=sizeLine/\∀p,H p=o_->Q (.ref p)^Al H p^.lst (a++c)
def ar:R2:=λx y H Q=>∃i j,x=.str i/\y=.str j/\i.length+j.length<=sizeLine/\Q (.str (i++j)) H
def Sk(g:Str->Str->Bool):R2:=λx y H Q=>∃i j,x=.str i/\y=.str j/\Q (.bl^g i j) H
def Ss(K:Frag):R2:=λx y H Q=>(HL λi j=>.int (i+j)) x y H Q\/ar x y H Q\/Sr K x y H Q\/au x y H Q
theorem op_addU:OpR X (binaryOp .Add)^Ss X.K:=vy.or^(OR).or^op_catT.or^IP
theorem MQ:D_ X.K .sh (Ss X.K) XW:=λU M H d e x y P Q a b c f w q=>by
 unfold XW at w
 split at w
 .exact .inl^UZ U M H _ _ x y P Q a b c f w q
 .exact .inr^.inl^Rl U M H _ _ x y P Q a b c f w q
 .exact .inr^.inr^.inl^Rk U M H _ _ x y P Q a b c f w q
 .exact .inr^.inr^.inr^FJ U M H _ _ x y P Q a b c f w λv h z g r p=>q v h z g (r.zj a^by simp_all) p
 simp_all
def bd(d e:D)(P:D->Prop):Prop:=match d,e with
 |.int i,.int j=>P^.bl (decide (i<j))
 |.str i,.str j=>P^.bl (decide (i.cps.toList<j.cps.toList))
 |_,_=>False
def YH:R2:=λx y H Q=>(HL λi j=>.bl (decide (i<j))) x y H Q\/Sk (λi j=>decide (i.cps.toList<j.cps.toList)) x y H Q
theorem op_ltU:OpR X (compareOp .Lt) YH:=op_lt.or Qq
theorem Xc:D_ X.K .sh YH bd:=λU M H d e x y P Q a b c f w q=>by
 unfold bd at w
 split at w
 .exact .inl^MP U M H _ _ x y P Q a b c f w q
 .exact .inr^O7 U M H _ _ x y P Q a b c f w q
 simp_all
def be(d e:D)(P:D->Prop):Prop:=match d,e with
 |.int i,.int j=>P^.bl (decide (i<=j))
 |.str i,.str j=>P^.bl (!(decide (j.cps.toList<i.cps.toList)))
 |_,_=>False
def af:R2:=λx y H Q=>(HL λi j=>.bl (decide (i<=j))) x y H Q\/Sk (λi j=>!(decide (j.cps.toList<i.cps.toList))) x y H Q
theorem G1:OpR X (compareOp .LtE) af:=op_le.or Qr
theorem LH:D_ X.K .sh af be:=λU M H d e x y P Q a b c f w q=>by
 unfold be at w
 split at w
 .exact .inl^MP U M H _ _ x y P Q a b c f w q
 .exact .inr^O7 U M H _ _ x y P Q a b c f w q
 simp_all
def ak:R2:=HL λi j=>.bl (decide (j<i))
theorem JI:OpR X (compareOp .Gt) ak:=XA
theorem Nu:D_ X.K .sh ak (f2 λi j=>.bl (decide (j<i))):=MP
def al:R2:=HL λi j=>.bl (decide (j<=i))
theorem Yc:OpR X (compareOp .GtE) al:=XB
theorem cC:D_ X.K .sh al (f2 λi j=>.bl (decide (j<=i))):=MP
def aj:R2:=Sk λi j=>!(iC j i 0 j.length 1).isEmpty
theorem Yb:OpR X (compareOp .In) aj:=Qs
theorem cB:D_ X.K .sh aj (bZ λi j P=>P^.bl (!(iC j i 0 j.length 1).isEmpty)):=O7
def aU:V->s_ Int->s_ Int->Hp->VK->Prop:=λx a b H Q=>∃z,x=.str z/\z.length<=sizeLine/\Q (.str^Txt.slice z a b) H
theorem sl_U:SlR X aU:=YB
def Xs(w:DW):DW:=λn a P=>w n a λd b=>∃i,d=.int i/\P (.int (-i)) b
theorem Cu(h:DE X a c b):DE X (.UnaryOp .USub a pos) .sh^Xs b:=by
 let#[t,e,f]:=h;refine#[_,a9 Xx e,λC M H n g j P Q R w q=>?_];refine f C M H n g j _ _ R w λv k d l m o r p=>?_;let#[i,rfl,p]:=p;exact#[i,Lw r,q _ k (.int _) l m o rfl p]
def Got(P:f7)(w:gB)(K:Frag)(c:Str->s_ Db)(a:fz)(x:Str)(k:Nat)(b:r_ Str)(e:Kd)(W:W2):Prop:=
 ∃f fd,qV P w K c a Ef k f fd b^Qa K e W b.length/\c x=P3^.ref f/\keepIn K^.ref f=p_/\Binds K fd b []/\∀d n P,W d n P->d.length=b.length
theorem CJ(G:Got X.prog X.w X.K X.mg X.base x k h g W)
  (i:qj k X.A) (j:Gl X x) (l:Rz X (e::a) b)
  (c:(x==("__debug__":Str))=q_:=by decide) (m:starEach (e::a) X.env=(q_,eval e X.env)::starEach a X.env:=by rfl) (d:(backTo pos^starEach a X.env).any (·.1)=q_:=by rfl):
  DE X (.Call (.Name x p) (e::a) [] pos) g (A1 W b):=by
 let#[f,fd,G,n,o,q,r]:=G;exact WH G r i j n o q l c m d
def W5(b:Nat)(g:r_ D->D):W2:=λc n P=>∃a:r_ D,a.length=b/\c=a.map .sh/\P (g a) n
theorem G0(h:W5 a g b n P):b.length=a:=by
 let#[c,e,rfl,_]:=h
 simp_all
theorem Lu:KR K "int":=#[λt a=>by
 simp at a
 rcases a with rfl|rfl|rfl|rfl|rfl|rfl|rfl <;>kernel_rfl]
theorem NL:KR K "bool":=#[λt a=>by
 simp at a
 rcases a with rfl|rfl|rfl|rfl|rfl|rfl|rfl <;>kernel_rfl]
theorem Ls:KR K "str":=#[λt a=>by
 simp at a
 rcases a with rfl|rfl|rfl|rfl|rfl|rfl|rfl <;>kernel_rfl]
theorem kit_tuple:KR K "tuple":=#[λt a=>by
 simp at a
 rcases a with rfl|rfl|rfl|rfl|rfl|rfl|rfl <;>kernel_rfl]
theorem JW:KR K "list":=#[λt a=>by
 simp at a
 rcases a with rfl|rfl|rfl|rfl|rfl|rfl|rfl <;>kernel_rfl]
end
theorem Fp(I:r_ Slot->Prop)(j:∀d a,I a->I^a.set i^.sh d):
  ∀(c b:r_ D) (n:Nat) (a:r_ Slot),(∀d∈c,∀a n k,I a->k (g d) n->f n (a.set i^.sh d) k)->I a->P (b++c.map g) n->Dx (Aq i) Gp f P c b n a
 |[],b,n,a,_,_,h=>by
  simp only[lO,gM]at h;exact h
 |d::c,b,n,a,l,e,h=>by
  refine l d Op a n _ e ?_;refine Fp I j c _ n _ (λd m=>l d^TM _ m) (j d a e) ?_
  simp_all
theorem E6{b:Type}(p:b->Bool):∀l:r_ b,allB (l.map λc=>.bl^p c)=P3^l.map p
 |[]=>rfl
 |a::l=>by
  rw[gJ];unfold allB;rw[E6 p l];rfl
theorem UT{k:(D->Nat->Prop)->Prop}(c:a=p_->P (.bl b) n->k P)(h:P (.bl (a&&b)) n):(match (.bl a:D)with|.bl p_=>k P|.bl q_=>P (.bl q_) n|_=>False):=by
 cases a with
 |false=>exact h
 |true=>simp_all
theorem T3{K:Frag}{h:gz}(F:Fun K x x h f fd)(m:d x=P3^.ref f)(b:Binds K fd c [])
  (i:∀g n P,W g n P->g.length=c.length) (ok:qV P w K d a Ef k f fd c^Qa K e W c.length):Got P w K d a x k c e W:=#[f,fd,ok,m,F.kp,b,i]
def Mm(K:Frag):Sp:=λc H Q _=>∃a b,c=[V.ref a]/\(jG (α:=Int) b<=63/\SqL K H a^b.map V.int)/\∀d,Q (.bl p_) d
def LU(K:Frag):Sp:=λe H Q _=>∃a b,e=[V.ref a]/\(jG (α:=Int) b<=63/\SqL K H a^b.map V.int) /\
 ∀(c f:Ch) (d:Hp),c≠f->d c=P3^.lst^b.map V.int->d f=P3^.lst [.ref c,.int 0,.int 0]->Q (.ref f) d
theorem bw{a:r_ Int}(h:a.length<=63):Nd (a.map V.int) o_^P3 63=a.map V.int:=by
 have e:HT.sIx (a.map V.int).length (a.map V.int).length^P3 63=a.length:=by
  simp only[show(63:Int)=(63:Nat)from rfl,HT.qL,No,Nat.min_eq_right h]
 unfold Nd;simp only[HT.zh]
 grind
theorem bV{K:Frag}{C O:gz}(F:Fun K "law" "law" C f fd)
  (S:BJ ("_law_script"::"_law_feed_here"::Nr) ["_law_script"]^AK C) (L:A9 C=O::B) (Y:n0<=2 ^ 60)
  (Z:∀(n:Db) (A:gE) (l:r_ Env) (s:Go) (H:Hp) (E:XK),qj k^A.deeper^envOfC "law" (AK C) s.heap.objs.size f n->
   PS (Dh Ef P w K J u ("_law_script"::"_law_feed_here"::Nr) "law" (AK C) f n A l s H E).nox O (Mi (SV (LU K) [] E0^PQ (CH 0) U5)^HW 1))
  (h2:∀(n:Db) (A:gE) (l:r_ Env) (s:Go) (H:Hp) (E:XK),qj k^A.deeper^envOfC "law" (AK C) s.heap.objs.size f n->
   MV (Dh Ef P w K J u ("_law_script"::"_law_feed_here"::Nr) "law" (AK C) f n A l s H E).nox .sh B T)
  (hW:T {nx:=λ_ _=>False,rt:=λd _=>d=.bl p_} n0 (.no::.fd::fq Nr.length .no)):qV P w K J u Ef (k+1) f fd ["_law_script"]^Mm K:=by
 refine F.ok S (λvs H Q E h=>?_) λn A l s H vs Q E U h=>?_
 .let#[a,M,rfl,_]:=h
  rfl
 .let#[a,M,rfl,#[W,hS],q]:=h
  let#[t,t1,t2]:=h2 n A l s H E U;refine#[QY (Mi (SV (LU K) [] E0^PQ (CH 0) U5)^HW 1) t,by simp only[L]; exact BG (Z n A l s H E U) t1,?_];refine#[_,rfl,a,M,rfl,#[W,hS],λc g I G hc X=>?_]
  have y:∀(i:Nat) (x:Slot),(Slot.no::Slot.fd::fq Nr.length Slot.no)[i]?=P3 x->Slot.no=x\/(Slot.fd=x/\i=1):=by
   intro i x m
   match i,m with
   |0,m=>exact .inl^fu m
   |1,m=>exact .inr #[fu m,rfl]
   |i+2,m=>
    simp only[mx,mx,kj]at m
    split at m
    .exact .inl^fu m
    .cases m
  have R:Rel K #[λb=>b=g,P3 (g,c),λb=>b=g,λb=>b=g,I,[],[]] (λb=>b=g) I n0 (.no::.fd::fq Nr.length .no)^(start ("_law_script"::"_law_feed_here"::Nr) [V.ref a]).set 1^P3^.ref g:=by
   refine#[by simp[L2.start],λ_ z=>z,λb z=>#[_,(congrArg I z).trans X],Ext.refl _ _,λb z=>by rw[←fu z],λ_ z=>z,λ_ z=>z,λb z=>?_,λi x m=>?_,λp N=>absurd N^by simp,λi d b m _=>?_,λi x b m o _=>?_,λi j x t b m o _ _ _ _=>?_,λp N=>absurd N^by simp]
   .have e:(g,c)=b:=fu z
    subst e;exact#[0,0,M,X,G,#[G,hc],W,by cbv,by lk]
   .rcases y i x m with e|⟨e,rfl⟩
    .rw[←e]; trivial
    .rw[←e]
     exact#[(g,c),by simp[L2.start],rfl]
   .rcases y i _ m with e|⟨e,_⟩ <;>cases e
   .rcases y i x m with e|⟨e,_⟩ <;>(rw[←e]at o; cases o)
   .rcases y i x m with e|⟨e,_⟩ <;>(rw[←e]at o; cases o)
  refine t2 _ _ I n0 _ _ {nx:=λ_ _=>False,rt:=λd _=>d=.bl p_} _ R #[λ_ _ _ _ _ _ z=>z.elim,λv H2 d n' _ _ r p=>?_,λ_ _ _ _ _ _ z=>z.elim,λ_ _ _ _ _ _ z=>z.elim] hW;have e:d=.bl p_:=p;subst e;have e2:v=.bl p_:=r;subst e2;exact q H2
end Dp
namespace L2
section

theorem F6:∀{a:r_ Db}{b:r_ Str},StrsAre a b->qQ (b.map V.str) a
 |_,_,.nil=>.nil
 |_,_,.cons x t r=>.cons #[t,rfl]^F6 r
def Sm(K:Frag):r_ V->Hp->VK->Prop:=λc H Q=>∃(p:Ch) (b:r_ Str),c=[.ref p]/\SqL K H p^b.map V.str/\b.length<64/\∀(a:r_ Str) (l:Ch),a.Perm b->sortedS a=p_->H l=o_->Q (.ref l)^Al H l^.lst^a.map V.str
theorem Jq:CL X (.builtin "sorted")^Sm X.K:=by
 intro y s A H B C Q I r h;let#[p,D,rfl,f,g,q]:=h;let#[u,rfl,i]:=vals1 r;subst i;let#[j,c,k,E]:=I.list f;have a:=c.length;rw[No]at a;refine sorted_strs k.isList (Iu c) (by lk) λl m n d t=>?_;let#[e,v]:=sortedAll_at _ _ _;have w:=d.length_eq;have x:=I.hok.fresh^gq _;refine#[.ref _,_,I.laid (λb o z=>sortedAll_old z) (gq _) (show qv _ _ _ _ _^.lst _ from#[?_,_,e,F6 n,?_]),rfl,q _ _ d t x]
 .grind
 .exact v
def Wx:R2:=λx y H Q=>∃z k,x=.str z/\y=.int k/\MulOk z k/\Q (.str^Txt.mul z k) H
theorem VS:OpR X (binaryOp .Mult) Wx:=by
 intro e s f H x y v u Q I a b h;let#[z,k,rfl,rfl,c,q]:=h;let#[t,rfl]:=a;let#[d,rfl]:=b;exact SB.mul c λd k=>#[.str _,H,I.tok _,#[_,rfl],q]
end
end L2
namespace Dp
open L2
section
variable {K:Frag}
def D1(b:r_ D)(P:D->Prop):Prop:=match b with
 |[.lst a]=>P^.tup a
 |[.tup a]=>P^.tup a
 |_=>False
theorem UY:Dr K .sh (λj H Q=>∃p d,j=[.ref p]/\((SqL K H p d/\∀l,H l=o_->Q (.ref l)^Al H l^.tup d)\/(SqT K H p d/\Q (.ref p) H))) D1:=by
 intro U M H k m P Q e n h w q;unfold D1 at w
 split at w
 .let#[v,rfl,f]:=DY h
  let#[a,b,rfl,_,c,g]:=f;exact#[a,b,rfl,.inl #[.inl c,λl i=>q _ _ (.tup _) (Ab i) (C9 e i g) w]]
 .let#[v,rfl,f]:=DY h
  let#[a,b,rfl,c,g]:=f.tup;exact#[a,b,rfl,.inr #[c.sq,q _ H (.tup _) .refl #[a,b,rfl,c,g] w]]
 simp_all
theorem Ats.strs:∀{a:r_ Str},(∀x∈a,x.length<=sizeLine)->Ats K M H (a.map D.str)^a.map V.str
 |[],_=>rfl
 |x::r,h=>#[_,_,rfl,#[rfl,h x Op],Ats.strs λy b=>h y^TM _ b]
theorem Ats.strs_le:∀{b:r_ Str}{c:r_ V},Ats K M H (b.map D.str) c->∀x∈b,x.length<=sizeLine
 |[],_,_=>λx a=>by cases a
 |y::r,c,h=>λx a=>by
  let#[v,t,e,d,f]:=h
  rcases TW.mp a with rfl|a
  .exact d.2
  .exact Ats.strs_le f x a
def Ol(d:r_ D)(P:D->Prop):Prop:=∃(c:r_ D) (b:r_ Str),d=[.lst c]/\Nq c=P3 b/\b.length<64/\∀a:r_ Str,a.Perm b->sortedS a=p_->P^.lst^a.map .str
theorem QD:∀{c:r_ D}{a:r_ Str},Nq c=P3 a->c=a.map .str
 |[],a,h=>by injection h with h;subst h; rfl
 |.str b::r,a,h=>by
  let#[t,e,rfl]:=gY.mp h;simp only[gJ,←QD e]
 |.non::r,a,h=>by cases h
 |.int _::r,a,h=>by cases h
 |.bl _::r,a,h=>by cases h
 |.tup _::r,a,h=>by cases h
 |.lst _::r,a,h=>by cases h
 |.dic _ _::r,a,h=>by cases h
 |.fdi _ _::r,a,h=>by cases h
 |.dit _ _::r,a,h=>by cases h
theorem QG:Dr K .fr (Sm K) Ol:=by
 intro U M H p r P Q h s i w q;let#[t,j,rfl,e,b,w]:=w;let#[v,rfl,c]:=DY i;let#[a,u,rfl,_,k,d]:=c
 have:=ML e d
 subst this;have m:=QD e;subst m;exact#[a,j,rfl,.inl k,b,λn l f o g=>q _ _ _ (Ab g) (C_ g^Ats.strs λx c=>d.strs_le x^f.mem_iff.mp c)^w _ f o]
def HY(d e:D)(P:D->Prop):Prop:=match d,e with
 |.int i,.int j=>qN i j/\P^.int (i*j)
 |.str z,.int k=>MulOk z k/\(Txt.mul z k).length<=sizeLine/\P^.str^Txt.mul z k
 |_,_=>False
def Wz:R2:=λx y H Q=>(rI qN λi j=>.int (i*j)) x y H Q\/Wx x y H Q
theorem Ce:OpR X (binaryOp .Mult) Wz:=vz.or VS
set_option tactic.hygienic true in
theorem Do:D_ K .sh Wz HY:=λU M H d e x y P Q a f b c w q=>by
 unfold HY at w
 split at w
 .exact .inl^CQ U M H _ _ x y P Q a f b c w q
 .rename_i z k
  exact .inr #[z,k,b.1,c,w.1,q _ H (.str _) .refl #[rfl,w.2.1] w.2.2]
 simp_all
end
section

def Z6(ws:Dq):Dq:=λn a P=>ws n a λb c=>∃i j:Int,b=[.int i,.int j]/\(-(2 ^ 62)<=i/\i<2 ^ 62/\-(2 ^ 62)<=j/\j<2 ^ 62)/\P (Ci i (j - i).toNat) c
theorem K7(d:Gl X "range")(f:X.mg "range"=o_)(g:Ur X [e,e2] ws)(h:starEach [e,e2] X.env=[(q_,eval e X.env),(q_,eval e2 X.env)]:=by rfl)(a:starEach [e2] X.env=[(q_,eval e2 X.env)]:=by rfl):DI X tg (.Call (.Name "range" p) [e,e2] [] pos)^Z6 ws:=by
 let#[t,k,l]:=g;refine#[_,Qj d f k h a,λC M H n m o P D R w q=>?_];refine l C M H n m o _ _ R w λE s F u v x y p=>?_;let#[i,j,rfl,z,p]:=p;cases y with
 | cons r b=>
  cases b with
  |cons A b=>
   cases b;have B:=r;have c:=A;exact#[i,j,by rw[B,c],z,q _ s _ u v x F4 p]
def cb(X:Cx)(i:r_ gA)(b:r_ D->r_ Slot->(r_ Slot->Prop)->Prop):Prop:=∃g,cR X i g/\∀(C:Fm) (M:Ch->Prop) (H:Hp) (n:Nat) (a:r_ Slot) (c:L2.St) (d:r_ D) (e:r_ V) (P:r_ Slot->Prop) (Q:L2.St->Hp->Prop),Rel X.K C M H n a c->Ats X.K M H d e->b d a P->
 (∀f h,Rel X.K C M H n f h->P f->Q h H)->g e c H Q
def Eb:r_ D->r_ Slot->(r_ Slot->Prop)->Prop:=λa b P=>a=[]/\P b
def BK(b:BW)(bs:r_ D->r_ Slot->(r_ Slot->Prop)->Prop):r_ D->r_ Slot->(r_ Slot->Prop)->Prop:=λa c P=>match a with
 |d::r=>b d c λe=>bs r e P
 |[]=>False
theorem CM:cb X [] Eb:=#[_,Pf,λC M H n a b c d P Q R h w q=>by
 let#[rfl,w]:=w;exact#[h,q a b R w]]
theorem Af(c:DG X e b)(f:cb X es bs)(i:(assignEach (e::es) X.env).map (·.2)=assign e X.env::(assignEach es X.env).map (·.2):=by rfl):cb X (e::es)^BK b bs:=by
 let#[g,j,k]:=c;let#[A,l,m]:=f;refine#[_,GF j l i,λC M H n o s t B P Q R h w q=>?_];cases t with
 |nil=>exact w.elim
 |cons d r=>
  let#[v,a,e,u,x]:=h;exact#[v,a,e,k C M H n o s d v _ _ R u w λE F y z=>m C M H n _ _ r a _ _ y x z q]
def HE(k:Nat)(bs:r_ D->r_ Slot->(r_ Slot->Prop)->Prop):BW:=λd b P=>match d with
 |.tup a=>a.length=k/\bs a b P
 |_=>False
theorem Y_(f:X.calm=p_)(h:cb X es bs)(i:(assignEach es X.env).length=k:=by rfl)(b:(assignEach es X.env).findIdx? (·.1)=o_:=by rfl):DG X (.Tuple es j pos)^HE k bs:=by
 let#[g,l,m]:=h;refine#[_,S7 f l i b,λC M H n o r d v P Q R h w q=>?_];cases d with
 |tup s=>
  let#[a,c,rfl,t,e]:=h;exact#[a,c,rfl,t.sq,by rw[e.length]; exact w.1,m C M H n o r s c P Q R e w.2 q]
 |_=>exact w.elim
def c_(c:DW)(b:BW):AZ:=λe n a=>c n a λd f=>b d a λg=>e.nx f g
theorem UE(l:DE X e a c)(m:DG X tg b)(o:a≠.tp:=by intro z; cases z)(q:swapsWithSole [tg] e pos.line X.env=pure q_:=by rfl)(r:swappedStores [tg] e X.env=pure o_:=by rfl)
  (s:(assignEach [tg] X.env).map (·.2)=[assign tg X.env]:=by rfl):DS X k (.Assign [tg] e pos)^c_ c b:=by
 let#[t,u,x]:=l;let#[g,y,A]:=m;exact#[_,Le u y q r s,λC M H n f h J E R L w=>x C M H n f h _ _ R w λv i d j B D F p=>A C M i j f h d v _ _ (R.step B D) (F.zj R.dom o) p λK N G I=>L.nx M i j _ _ G I]
end
end Dp
namespace L2
mutual
def RV(H:Hp):jv->V->Prop
 |.none,v=>v=.non
 |.bool b,v=>v=.bl b
 |.int i,v=>v=.int i
 |.str x,v=>v=.str x
 |.tuple xs,v=>∃a vs,v=.ref a/\H a=P3^.tup vs/\RVs H xs vs
 |.list xs,v=>∃a vs,v=.ref a/\Rd H a^.lst vs/\RVs H xs vs
 |.dict _,_=>False
def RVs(H:Hp):r_ jv->r_ V->Prop
 |[],vs=>vs=[]
 |x::xs,vs=>∃v r,vs=v::r/\RV H x v/\RVs H xs r
end
section

mutual
theorem RV.reads(I:Inv X zG σ H s):∀{d:jv}{v:V}{u:Db},RV H d v->RelV v u->∃as,Reads s.heap u d as
 |.none,v,u,h,r=>by
  cases(show v=.non from h);cases(show u=gO from r);exact#[_,.none]
 |.bool b,v,u,h,r=>by
  cases(show v=.bl b from h);cases(show u=ke b from r);exact#[_,.bool b]
 |.int i,v,u,h,r=>by
  cases(show v=.int i from h);let#[t,rfl]:=r;exact#[_,.int i t]
 |.str x,v,u,h,r=>by
  cases(show v=.str x from h);let#[t,rfl]:=r;exact#[_,.str x t]
 |.tuple xs,v,u,h,r=>by
  let#[a,vs,rfl,hq,hs]:=h;cases r;let#[its,rv,#[o,e,c,n,d],_]:=I.tuple (X:=X) (xs:=vs)^.inl^.inl hq;let#[as,ra]:=RVs.reads I hs rv;exact#[_,.tuple e c d ra]
 |.list xs,v,u,h,r=>by
  let#[a,vs,rfl,hq,hs]:=h;cases r;let#[its,rv,pl,_]:=I.list (X:=X) (xs:=vs)^.inl hq;let#[o,e,c,n,d]:=pl.isList;let#[as,ra]:=RVs.reads I hs rv;exact#[_,.list e c d ra]
 |.dict _,v,u,h,r=>h.elim
theorem RVs.reads(I:Inv X zG σ H s):∀{ds:r_ jv}{vs:r_ V}{us:r_ Db},RVs H ds vs->qQ vs us->∃as,ReadsAll s.heap us ds as
 |[],vs,us,h,r=>by
  cases(show vs=[]from h);cases r;exact#[_,.nil]
 | d::ds,vs,us,h,r=>by
  let#[v,w,rfl,h1,h2]:=h;cases r with
  |cons r1 r2=>
   let#[as,a1]:=RV.reads I h1 r1;let#[bs,a2]:=RVs.reads I h2 r2;exact#[_,.cons a1 a2]
end
end
theorem RV.noDict:∀(d:jv) (v:V),RV H d v->d.hasDict=q_
 | d,v,h=>by
  have k:∀(n:Nat),(∀(d:jv) (v:V),sizeOf d<=n->RV H d v->d.hasDict=q_)/\∀(c:r_ jv) (e:r_ V),sizeOf c<=n->RVs H c e->mR c=q_:=by
   intro n
   induction n with
   |zero=>
    refine#[λd v h _=>?_,λc e h _=>?_]
    .cases d <;>simp at h
    .cases c <;>simp at h
   | succ n j=>
    refine#[λd v h f=>?_,λc e h f=>?_]
    .cases d with
     |tuple g=>
      let#[a,e,_,_,l]:=f;simp only[j_]
      grind
     |list g=>
      let#[a,e,_,_,l]:=f;simp only[j_]
      grind
     |dict m=>exact(show False from f).elim
     |none=>simp only[j_]
     |bool b=>simp only[j_]
     |int i=>simp only[j_]
     |str x=>simp only[j_]
    .cases c with
     |nil=>simp only[mR]
     |cons x g=>
      let#[v,w,_,o,p]:=f;simp only[mR,j.1 x v (by simp at h; omega) o,j.2 g w (by simp at h; omega) p,nP]
  exact(k^sizeOf d).1 d v (On _) h
section

def Ww:r_ V->Hp->VK->Prop:=λa H Q=>∃x d,a=[x]/\RV H d x/\d.showable=p_/\d.depth<=100/\d.shown.length<=sizeLine/\Q (.str d.shown) H
theorem CD(g:qj k X.A):CL X (.builtin "repr") Ww:=by
 intro B s C H D E Q I r h;let#[x,d,rfl,c,j,F,l,q]:=h;let#[u,rfl,f]:=vals1 r;have G:=g.un;cases d with
 |none=>
  cases(show x=.non from c);cases(show u=gO from f);exact PySem.P.repr_of_none #[.str _,H,I.tok _,#[_,rfl],q]
 |bool b=>
  cases(show x=.bl b from c);cases(show u=ke b from f);refine PySem.P.repr_of_bool #[.str _,H,I.tok _,#[_,rfl],?_]
  assumption
 |int i=>
  cases(show x=.int i from c);let#[t,rfl]:=f;refine PySem.P.repr_of_int (by simpa [PyData.showable]using j) #[.str _,H,I.tok _,#[_,rfl],q]
 |str z=>
  cases(show x=.str z from c);let#[t,rfl]:=f;exact PySem.P.repr_of_str #[.str _,H,I.tok _,#[_,rfl],q] l
 |tuple p=>
  let#[v,m]:=RV.reads I c f;let#[a,w,rfl,_]:=id c;cases f;refine repr_of_reads' m j (PyData.noDict_hsm^RV.noDict _ _ c) g.gd (by lk) (λ_ _ e=>e) (λy u n o=>#[.str _,H,I.kept (t':=n) o,#[_,rfl],q]) l
 |list p=>
  let#[v,m]:=RV.reads I c f;let#[a,w,rfl,_]:=id c;cases f;refine repr_of_reads' m j (PyData.noDict_hsm^RV.noDict _ _ c) g.gd (by lk) (λ_ _ e=>e) (λy u n o=>#[.str _,H,I.kept (t':=n) o,#[_,rfl],q]) l
 |dict _=>exact(show False from c).elim
def am:R2:=λx y H Q=>∃d e,RV H d x/\RV H e y/\d.canLay0=p_/\e.canLay0=p_/\d.depth<=100/\Q (.bl^g8 d e) H
theorem G2(a:qj k X.A):OpR X (compareOp .Eq) am:=by
 intro n s o H x y v u Q I b c h;let#[d,e,f,g,i,j,p,q]:=h;let#[r,l]:=RV.reads I f b;let#[t,m]:=RV.reads I g c;have w:=a.un;have z:min _ e.depth<=d.depth:=Nat.min_le_left _ _;exact PySem.SeqAt.compareEq_reads l m i j (by lk) #[.bl _,H,I,rfl,q]
def YJ(b:Bool):R2:=λx y H Q=>∃d a,RV H d x/\(RV H (.list a) y\/RV H (.tuple a) y)/\d.canLay0=p_/\ip a=p_/\d.depth<=100/\Q (.bl (if b then !(a.any λy=>g8 y d)else a.any λy=>g8 y d)) H
theorem Bp(i:qj k X.A):OpR X (compareOp .In)^YJ q_:=by
 intro o s p H x y v u Q I j c h;let#[d,l,m,a,e,f,r,q]:=h;let#[t,g]:=RV.reads I m j;have w:=i.un;have z:min (iF l) _<=d.depth:=lB _ _
 rcases a with a|a
 .let#[n,b]:=RV.reads I a c
  exact PySem.SeqAt.in_list_reads b g f e (by lk) #[.bl _,H,I,rfl,q]
 .let#[n,b]:=RV.reads I a c
  exact PySem.SeqAt.in_tuple_reads b g f e (by lk) #[.bl _,H,I,rfl,q]
theorem E8(i:qj k X.A):OpR X (compareOp .NotIn)^YJ p_:=by
 intro o s p H x y v u Q I j c h;let#[d,l,m,a,e,f,r,q]:=h;let#[t,g]:=RV.reads I m j;have w:=i.un;have z:min (iF l) _<=d.depth:=lB _ _
 rcases a with a|a
 .let#[n,b]:=RV.reads I a c
  exact PySem.SeqAt.notIn_list_reads b g f e (by lk) #[.bl _,H,I,rfl,q]
 .let#[n,b]:=RV.reads I a c
  exact PySem.SeqAt.notIn_tuple_reads b g f e (by lk) #[.bl _,H,I,rfl,q]
end
end L2
namespace Dp
open L2
mutual
def toPy:D->jv
 |.non=>.none
 |.bl b=>.bool b
 |.int i=>.int i
 |.str x=>.str x
 |.tup ds=>.tuple^BB ds
 |.lst ds=>.list^BB ds
 |.dic _ _=>.dict []
 |.fdi _ _=>.dict []
 |.dit _ _=>.dict []
def BB:r_ D->r_ jv
 |[]=>[]
 |d::ds=>toPy d::BB ds
end
mutual
def C5:D->Bool
 |.tup ds=>B5 ds
 |.lst ds=>B5 ds
 |.dic _ _=>q_
 |.fdi _ _=>q_
 |.dit _ _=>q_
 |_=>p_
def B5:r_ D->Bool
 |[]=>p_
 |d::ds=>C5 d&&B5 ds
end
theorem DQ(a:r_ D):BB a=a.map toPy:=by
 induction a with
 |nil=>rfl
 |cons d r b=>simp only[BB,b,gJ]
theorem OW(a:r_ D):B5 a=a.all C5:=by
 induction a with
 |nil=>rfl
 |cons d r b=>simp only[B5,b,ij]
section
variable {K:Frag}
mutual
theorem At.rv:∀{d:D}{v:V},At K M H d v->C5 d=p_->RV H (toPy d) v
 |.non,v,h,_=>h
 |.bl b,v,h,_=>h
 |.int i,v,h,_=>h
 |.str x,v,h,_=>h.1
 |.tup ds,v,h,n=>by
  let#[a,vs,e,hn,hs]:=h;exact#[a,vs,e,hn,Ats.rv hs n]
 |.lst ds,v,h,n=>by
  let#[a,vs,e,hn,hs]:=h;exact#[a,vs,e,.inl hn.2,Ats.rv hs n]
 |.dic ks ds,v,h,n=>by cases n
 |.fdi ks ds,v,h,n=>by cases n
 |.dit ks ds,v,h,n=>by cases n
theorem Ats.rv:∀{ds:r_ D}{vs:r_ V},Ats K M H ds vs->B5 ds=p_->RVs H (BB ds) vs
 |[],vs,h,_=>h
 |d::ds,vs,h,n=>by
  let#[v,r,e,h1,h2]:=h;have n':(C5 d&&B5 ds)=p_:=n;rw[ZB]at n';exact#[v,r,e,At.rv h1 n'.1,Ats.rv h2 n'.2]
end
theorem AtT.rv(h:AtT K U M H d v)(n:C5 d=p_):RV H (toPy d) v:=by
 cases d with
 |lst c=>
  let#[a,g,e,_,j,k]:=h;exact#[a,g,e,j,Ats.rv k n]
 |dic f c=>cases n
 |fdi f c=>cases n
 |dit f c=>cases n
 |non=>exact h
 |bl b=>exact h
 |int i=>exact h
 |str x=>exact h.1
 |tup c=>exact At.rv h n
def FS(d:D):Prop:=C5 d=p_/\(toPy d).showable=p_/\(toPy d).depth<=100/\(toPy d).shown.length<=sizeLine
def Ae(d:D):Str:=(toPy d).shown
def NU(a:r_ D)(P:D->Prop):Prop:=∃d,a=[d]/\FS d/\P^.str^Ae d
theorem EY:Dr K .sh Ww NU:=by
 intro U M H f g P Q b h c w q;let#[d,rfl,a,w]:=w;let#[v,rfl,e]:=DY c;exact#[v,_,rfl,e.rv a.1,a.2.1,a.2.2.1,a.2.2.2,q _ H (.str _) .refl #[rfl,a.2.2.2] w]
def Bz(d:D):Prop:=C5 d=p_/\(toPy d).canLay0=p_/\(toPy d).depth<=100
def Dt(d e:D):Bool:=g8 (toPy d)^toPy e
def bg(d e:D)(P:D->Prop):Prop:=Bz d/\Bz e/\P^.bl^Dt d e
theorem LI:D_ K .sh am bg:=λU M H d e x y P Q a f b c w q=>
 #[_,_,b.rv w.1.1,c.rv w.2.1.1,w.1.2.1,w.2.1.2.1,w.1.2.2,q _ H (.bl _) .refl rfl w.2.2]
def Fe:D->s_^r_ D
 |.lst a=>P3 a
 |.tup a=>P3 a
 |_=>o_
def L4(a:Bool)(d e:D)(P:D->Prop):Prop:=Bz d/\Bz e/\∃b,Fe e=P3 b/\P^.bl (if a then !(b.any λy=>Dt y d)else b.any λy=>Dt y d)
theorem B_:D_ K .sh (YJ c)^L4 c:=λU M H d e x y P Q k m i j w q=>by
 let#[b,f,g,h,w]:=w;have a:∀g:r_ D,(g.map _).any (λy=>g8 y _)=g.any λy=>Dt y d:=λg=>by rw[mj]; rfl
 cases e with
 |lst l=>
  cases h;exists _,_,i.rv b.1,.inl^j.rv f.1,b.2.1,by simpa [toPy,PyData.canLay0]using f.2.1,b.2.2;rw[DQ,a];exact q _ H (.bl _) .refl rfl w
 |tup l=>
  cases h;exists _,_,i.rv b.1,.inr^j.rv f.1,b.2.1,by simpa [toPy,PyData.canLay0]using f.2.1,b.2.2;rw[DQ,a];exact q _ H (.bl _) .refl rfl w
 |_=>cases h
def ba(d e:D)(P:D->Prop):Prop:=Bz d/\Bz e/\P^.bl (!Dt d e)
end
end Dp
namespace L2
def aY:R2:=λx y H Q=>∃d e,RV H d x/\RV H e y/\d.canLay0=p_/\e.canLay0=p_/\d.depth<=100/\Q (.bl (!PyData.eqv d e)) H
theorem YZ(a:qj k X.A):OpR X (compareOp .NotEq) aY:=by
 intro n s o H x y v u Q I b c h;let#[d,e,f,g,i,j,p,q]:=h;let#[r,l]:=RV.reads I f b;let#[t,m]:=RV.reads I g c;have w:=a.un;have z:min _ e.depth<=d.depth:=Nat.min_le_left _ _;exact PySem.SeqAt.compareNe_reads l m i j (by lk) #[.bl _,H,I,rfl,q]
end L2
namespace Dp
open L2
theorem b_{K:Frag}:D_ K .sh aY ba:=λU M H d e x y P Q a f b c w q=>
 #[_,_,b.rv w.1.1,c.rv w.2.1.1,w.1.2.1,w.2.1.2.1,w.1.2.2,q _ H (.bl _) .refl rfl w.2.2]
end Dp
namespace L2
def kOf:Key->V
 |.inl i=>.int i
 |.inr x=>.str x
def cr:Key->Key->Bool
 |.inl i,.inl j=>decide (i<j)
 |.inr x,.inr y=>decide (x.cps.toList<y.cps.toList)
 |_,_=>q_
def Kg:Key->Key->Bool
 |.inl _,.inl _=>p_
 |.inr _,.inr _=>p_
 |_,_=>q_
def Ei:r_ Key->r_ Key->Bool
 |[],[]=>q_
 |[],_::_=>p_
 |_::_,[]=>q_
 |x::a,y::b=>if x=y then Ei a b else cr x y
def CO:r_ Key->r_ Key->Bool
 |x::a,y::b=>Kg x y&&CO a b
 |_,_=>p_
theorem T_(a:RelV (kOf x) u)(b:RelV (kOf y) v):∃e,SeqAt.EqAt A s u v e/\(e=p_↔x=y):=by
 cases x with
 |inl i=>
  cases y with
  |inl j=>exact#[_,L6 a b rfl rfl,by simp[kOf,bj]]
  |inr z=>exact#[_,L6 a b rfl rfl,by simp[kOf,bj]]
 |inr z=>
  cases y with
  |inl j=>exact#[_,L6 a b rfl rfl,by simp[kOf,bj]]
  |inr c=>exact#[_,L6 a b rfl rfl,by simp[kOf,bj]]
theorem Sj(A:gE)(s:Go)(b:RelV (kOf x) u)(c:RelV (kOf y) v)(d:Kg x y=p_)(a:f7)(w:gB)(E:Db->Go->Prop)(Q:Db->Go->Prop)(h:Q (.bool^cr x y) s):
  wpAny (model a w) A (richCompare .Lt u v) Q E s:=by
 cases x with
 | inl i=>
  cases y with
  |inl j=>
   let#[t,rfl]:=b;let#[e,rfl]:=c;exact m_ h
  |inr z=>cases d
 | inr z=>
  cases y with
  |inl j=>cases d
  |inr f=>
   let#[t,rfl]:=b;let#[e,rfl]:=c;exact PySem.P.lt_str h
section
open PySem.SeqAt
open PySem.AutoSeq1 (wpAny_loadPart')
open PySem.MeetsSeq PySem.MeetsSeq2 PySem.MeetsSeq3
theorem FQ(l b:Ch)(items items2:Array Db)(n n2:Nat)(dd dd2:s_ Ch)(sl sl2:Array^s_ Db)(ns ms:r_ Key)(hi:qQ (ns.map kOf) items.toList)(hj:qQ (ms.map kOf) items2.toList)(hsame:CO ns ms=p_):
  Meets (iU.«tuple.__lt__» #[[.ref l,.ref b],[]])
   (λ_ R s=>s.heap.get? l=P3 {cls:=.type "tuple",dict:=dd,data:=.seq items n,slots:=sl}/\s.heap.get? b=P3 {cls:=.type "tuple",dict:=dd2,data:=.seq items2 n2,slots:=sl2} /\
    R (.ok^.ret^.bool^Ei ns ms) s):=
 .of_wp λprog w A R s h=>by
  let#[hp,g,d,tk,os]:=s; let#[hl,hb,h]:=h
  have f2:=AutoSeq1.sub_tuple_tuple;have z1:items.size=ns.length:=by have:=hi.length; rw[No]at this; rw[this]; simp
  have z2:items2.size=ms.length:=by have:=hj.length; rw[No]at this; rw[this]; simp
  wp_walk using h7 hl,h7 hb,wpAny_forIn_list _ (λrest b s'=>b.1=o_/\s'=#[hp,g,d,tk,os]/\∃(vs ws:r_ Db) (ns' ms':r_ Key),rest=vs.zip ws /\
   qQ (ns'.map kOf) vs/\qQ (ms'.map kOf) ws/\CO ns' ms'=p_/\ns'.length+items2.size=ms'.length+items.size/\R (.ok^.ret^.bool^Ei ns' ms') #[hp,g,d,tk,os]) _
  case turn=>
   rintro⟨y,x⟩ rest b s' ⟨hb',rfl,vs,ws,ns',ms',hz,hvi,hwi,hsm,hlen,hR⟩;cases ns' with
   |nil=>cases hvi; rw[List.zip_nil_left]at hz; cases hz
   | cons a ns'=>
    cases ms' with
    |nil=>cases hwi; rw[List.zip_nil_right]at hz; cases hz
    | cons c ms'=>
     rw[gJ]at hvi hwi;cases hvi with
     | cons ra hvi'=>
      cases hwi with
      | cons rc hwi'=>
       rw[kZ]at hz;injection hz with hyx hrest
       injection hyx with hy hx
       subst hy hx;have hR':R (.ok^.ret^.bool (if a=c then Ei ns' ms' else cr a c)) #[hp,g,d,tk,os]:=hR;have hsm':(Kg a c&&CO ns' ms')=p_:=hsm;rw[ZB]at hsm';simp only[eq]at hlen;let#[e,he,hiff]:=T_ (A:=A.in1) (s:=#[hp,g,d,tk,os]) ra rc;refine Cn^he prog w _ _ ?_;cases e with
       |true=>
        rw[if_pos (hiff.mp rfl)]at hR'
        wp_walk
        exact#[rfl,rfl,_,_,_,_,hrest,hvi',hwi',hsm'.2,by lk,hR']
       |false=>
        rw[if_neg λq=>absurd (hiff.mpr q) f6]at hR';have hri:=Sj A.in1 #[hp,g,d,tk,os] ra rc hsm'.1 prog w
        wp_walk using hri
        exact#[_,rfl,by simpa using hR']
  case fin=>
   rintro⟨b1,b2⟩ s' ⟨hb',rfl,vs,ws,ns',ms',hz,hvi,hwi,hsm,hlen,hR⟩;simp only at hb';subst hb'
   have hv:Ei ns' ms'=decide (items.size<items2.size):=by
    cases ns' with
    | nil=>
     cases ms' with
     |nil=>
      simp only[hZ]at hlen;exact(decide_eq_false^by lk).symm
     |cons c u=>
      simp only[hZ,eq]at hlen;exact(decide_eq_true^by lk).symm
    | cons a t=>
     cases ms' with
     |nil=>
      simp only[hZ,eq]at hlen;exact(decide_eq_false^by lk).symm
     |cons c u=>
      rw[gJ]at hvi hwi;cases hvi;cases hwi;rw[kZ]at hz;cases hz
   rw[hv]at hR
   wp_walk
   exact#[_,rfl,by simpa [Builtin.Tuple.tupleCompareSizes]using hR]
  case h=>
   exact#[rfl,rfl,items.toList,items2.toList,ns,ms,rfl,hi,hj,hsame,by lk,h]
end
section

def aZ(K:Frag):R2:=λx y H Q=>∃a b c d,x=.ref a/\y=.ref b/\SqT K H a^c.map kOf/\SqT K H b^d.map kOf/\CO c d=p_/\Q (.bl^Ei c d) H
theorem Ya(m:X.A.units<cLine):OpR X (compareOp .Lt)^aZ X.K:=by
 intro T s U H x y v u Q I o p h;let#[a,b,r,t,rfl,rfl,w,z,d,q]:=h;cases o;cases p;let#[B,C,D,_]:=I.tuple w;let#[i,E,G,_]:=I.tuple z;let#[#[J,L,j,M],k,N,n,O]:=id D;let#[#[l,P,e,R],c,f,S,g]:=id G;subst N O f g
 exact richCompare_meets_room (op:=.Lt) #[_,k,rfl] #[_,c,rfl] PySem.F.slot_tuple_lt PySem.F.entry_tuple_lt (PySem.F.args_tuple_lt_2 _ _) (FQ a b _ _ n S L _ M _ r t C E d)
  #[k,c,#[(λx=>nomatch x),#[.bl _,H,I,rfl,q]]] m
end
def qU(b:Bool)(h:fz)(a l:Ch)(k:Nat):Prop:=match b with
 |true=>h.IsListIter a l k
 |false=>h.IsTupleIter a l k
def qH(b:Bool)(h:fz)(l:Ch)(a:Array Db):Prop:=match b with
 |true=>h.IsList l a
 |false=>h.IsTuple l a
section

theorem qU.mv(x:qU κ h it l k)(e:∀o,h.get? it=P3 o->h'.get? it=P3 o):qU κ h' it l k:=by
 cases κ with
 |true=>let#[o,a,r]:=x; exact#[o,e o a,r]
 |false=>let#[o,a,r]:=x; exact#[o,e o a,r]
theorem qH.mv(x:qH κ h l items)(e:∀o,h.get? l=P3 o->h'.get? l=P3 o):qH κ h' l items:=by
 cases κ with
 |true=>let#[o,a,r]:=x; exact#[o,e o a,r]
 |false=>let#[o,a,r]:=x; exact#[o,e o a,r]
theorem qU.eb(x:qU κ h it l k)(a:Heap.ExtBut b h h')(n:it≠b):qU κ h' it l k:=x.mv λo e=>a it o n e
theorem qH.eb(x:qH κ h l items)(a:Heap.ExtBut b h h')(n:l≠b):qH κ h' l items:=x.mv λo e=>a l o n e
theorem qU.lies(x:qU κ h it l k):∃o,h.get? it=P3 o/\∀v,o.data≠.cell v:=by
 cases κ with
 |true=>let#[o,a,_,d]:=x; simp_all
 |false=>let#[o,a,_,d]:=x; simp_all
theorem qH.lies(x:qH κ h l items):∃o,h.get? l=P3 o:=by
 cases κ with
 |true=>let#[o,a,_]:=x; grind
 |false=>let#[o,a,_]:=x; grind
end
section

theorem FG(d:qU f s.heap c l i)(n:qH f s.heap l a)(hx:a[i]?=P3 x)
  (p:∀h,qU f h c l (i+1)->ji c s.heap h->Q x {s with heap:=h}):wpAny (model prog w) A (iI^.ref c) Q E s:=by
 cases f with
 |true=>exact wpAny_nextOf_list_item d n hx p
 |false=>
  have b:s.heap.IsTupleIter c l i:=d;have j:s.heap.IsTuple l a:=n;let#[o,g,r,e]:=id b; let#[t,k,_,u,m]:=j
  unfold iI;refine Cn^iP (name:=gu "__next__") b.typeIs jT^jD jT b.typeIs lu ?_^lf _;show wpAny (model prog w) _ (field (.ref c) 0 >>=_) _ _ s; refine Cn (gp g e (x:=.ref l) rfl ?_)
  show wpAny (model prog w) _ (if(fj l==gO)=p_ then _ else _) _ _ s; rw[if_neg (show ¬((fj l==gO)=p_)from f6)]
  show wpAny (model prog w) _ (field (.ref c) 1 >>=_) _ _ s; refine Cn (gp g e (x:=.int i 0) rfl ?_)
  show wpAny (model prog w) _ (seqItems?^.ref l >>=_) _ _ s; refine Cn^iO k m ?_; simp only[jX,hx]
  refine Cn^kh g e (by simp)^Sc #[x,rfl,Sc^p _ (show Heap.IsTupleIter _ c l (i+1)from ?_) (nW ..)];exact#[_,g7 _ g^Obj.isFreed_of_fields^kY e _,(Obj.cls_mapFields ..).trans r,by(rw[kY e]; simp[rawInt])]
theorem GX(r:A.handled=o_)(d:qU g s.heap f l i)(t:qH g s.heap l b)(hx:b[i]?=o_)
  (u:∀h e,Heap.ExtBut f s.heap h->(∃o,h.get? e=P3 o/\o.cls=.type "StopIteration")->E (.ref e) {s with heap:=h}):wpAny (model prog w) A (iI^.ref f) Q E s:=by
 cases g with
 |true=>exact wpAny_nextOf_list_end r d t hx u
 |false=>
  have c:=d;have j:s.heap.IsTuple l b:=t;let#[o,k,y,n]:=id c; let#[z,p,_,B,q]:=j
  refine Cn^iP c.typeIs jT^jD jT c.typeIs lu ?_^lf _;show wpAny (model prog w) _ (field (.ref f) 0 >>=_) _ _ s; refine Cn (gp k n (x:=.ref l) rfl ?_)
  refine Cn (gp k n (x:=.int i 0) rfl ?_);refine Cn^iO p q ?_; simp only[jX,hx]
  refine Cn^kE^Cn^kh k n (by simp) ?_; refine Cn ?_; refine Cn (m:=firstArgMember _ _)^li (a:=gO) (by first|rfl|omega) ?_; refine iA ?_^by size_fits
  simp only[raiseNew]; refine Cn^wpAny_handled ?_; first|grind|simp only[r]
  refine Cn^Sc^wpAny_throw ?_; exact u _ _ (((nW ..).extBut.push _).push _) #[_,UF _ rfl,rfl]
structure Zx (z TI TO i1 i2 l1 l2:Ch):Prop where
 TIz:TI≠z
 TOz:TO≠z
 i1z:i1≠z
 i2z:i2≠z
 TOi1:TO≠i1
 TOi2:TO≠i2
 i12:i1≠i2
 l1z:l1≠z
 l1TO:l1≠TO
 l1i1:l1≠i1
 l1i2:l1≠i2
 l2z:l2≠z
 l2TO:l2≠TO
 l2i1:l2≠i1
 l2i2:l2≠i2
theorem R0{z TI TO p q J K:Ch}{Q:Db->Go->Prop}(D:Zx z TI TO p q J K)
  (L:j6 s.heap z TI TO .none) (W:ii s.heap TI (.ref p)^.ref q) (X:ii s.heap TO a b) (h1:qU S s.heap p J k) (h2:qU T s.heap q K k) (Y:qH S s.heap J xs) (Z:qH T s.heap K ys) (hx:xs[k]?=P3 x) (hy:ys[k]?=P3 y)
  (hQ:∀r,j6 r z TI TO^rawInt s.heap.objs.size->ii r TO x y->qU S r p J (k+1)->qU T r q K (k+1)->ii r s.heap.objs.size x y->r.objs.size=s.heap.objs.size+1->(∀c o,c≠z->c≠TO->c≠p->c≠q->s.heap.get? c=P3 o->r.get? c=P3 o)->Q (.ref s.heap.objs.size) {s with heap:=r}):
  wpAny (model prog w) A (iU.«zip.__next__» #[[.ref z],[]]) (λa0 s'=>∃v,a0=.done^.ret v/\Q v s') E s:=by
 show wpAny (model prog w) A (field (.ref z) 2 >>=_) _ _ _; refine Cn (gp L rfl (x:=.bool q_) rfl ?_)
 show wpAny (model prog w) A (field (.ref z) 3 >>=_) _ _ _; refine Cn (gp L rfl (x:=.ref TI) rfl ?_); refine Cn (iO W rfl ?_)
 show wpAny (model prog w) A (io^.ref z >>=_) _ _ _; refine Cn ?_; unfold io
 refine Cn (gp L rfl (x:=.none) rfl (Sc ?_)); simp only[if_true]; refine Cn^kE ?_; refine Cn (gp L rfl (x:=.ref TO) rfl ?_)
 refine Cn^jK L (by simp) λha C d=>?_;replace C:j6 ha z TI TO .ellipsis:=C;refine Cn ?_; simp only[List.zipIdx_cons,List.zipIdx_nil,kU,List.forIn_nil]
 refine Cn^Cn^k_ ?_; show wpAny (model prog w) _ (iI^.ref p >>=_) _ _ _
 refine Cn^FG (h1.eb d.extBut D.i1z) (Y.eb d.extBut D.l1z) hx λhb a1 h=>Sc ?_;have t:ii hb TO a b:=h.extBut _ _ D.TOi1^d.extBut _ _ D.TOz X;refine Cn (iO t rfl ?_); refine Cn (lP t λhc j i=>?_)
 replace j:ii hc TO x b:=j;refine Cn^jy^Sc ?_; refine Cn^Cn^k_ ?_; show wpAny (model prog w) _ (iI^.ref q >>=_) _ _ _
 refine Cn^FG (((h2.eb d.extBut D.i2z).eb h.extBut D.i12.symm).eb i.extBut D.TOi2.symm) (((Z.eb d.extBut D.l2z).eb h.extBut D.l2i1).eb i.extBut D.l2TO) hy λhd a2 l=>Sc ?_;have u:ii hd TO x b:=l.extBut _ _ D.TOi2 j;refine Cn (iO u rfl ?_); refine Cn (lP u λf g m=>?_)
 replace g:ii f TO x y:=g;refine Cn^jy^Sc^Sc ?_; refine Cn (iO g rfl ?_); refine Cn^wpAny_newTuple ?_
 have M:f.objs.size=s.heap.objs.size:=by simp only[m.1,l.1,i.1,h.1,d.1]
 have N:j6 f z TI TO .ellipsis:=m.extBut _ _ D.TOz.symm^l.extBut _ _ D.i2z.symm^i.extBut _ _ D.TOz.symm^h.extBut _ _ D.i1z.symm C;have a3:∀c o,c≠z->c≠TO->c≠p->c≠q->s.heap.get? c=P3 o->f.get? c=P3 o:=λc o F U c3 c4 e=>m.extBut _ _ U^l.extBut _ _ c4^i.extBut _ _ U^h.extBut _ _ c3^d.extBut _ _ F e;have a4:qU S f p J (k+1):=((a1.eb i.extBut D.TOi1.symm).eb l.extBut D.i12).eb m.extBut D.TOi1.symm;have a5:qU T f q K (k+1):=a2.eb m.extBut D.TOi2.symm;have B:z<f.objs.size:=Tk N;show wpAny (model prog w) _ (kc (.ref z)^.ref f.objs.size >>=_) _ _ _; refine Cn ?_; unfold kc
 have a6:j6 (f.push {cls:=.type "tuple",data:=.seq #[ x,y]}) z TI TO .ellipsis:=Ev _ N;refine Cn^jK a6 (by simp) λhg G H=>?_;replace G:j6 hg z TI TO^rawInt f.objs.size:=G;refine jK G (by simp) λO n I=>?_;replace n:j6 O z TI TO^rawInt f.objs.size:=n;have V:∀c o,c≠z->f.get? c=P3 o->O.get? c=P3 o:=λc o F e=>I.extBut _ _ F^H.extBut _ _ F^Ev _ e;have P:ii O f.objs.size x y:=I.extBut _ _ (i7 B)^H.extBut _ _ (i7 B) (UF _ rfl);have R:O.objs.size=f.objs.size+1:=by simp only[I.1,H.1,iT]
 rw[M]at n P R;refine Sc #[_,rfl,?_];show Q (.ref f.objs.size) _; rw[M]
 exact hQ O n (V _ _ D.TOz g) (a4.mv λo e=>V _ o D.i1z e) (a5.mv λo e=>V _ o D.i2z e) P R λc o F U c3 c4 e=>V c o F^a3 c o F U c3 c4 e
theorem Uu{z TI TO p q G H:Ch}(W:A.handled=o_)(D:Zx z TI TO p q G H)
  (r:j6 s.heap z TI TO .none) (K:ii s.heap TI (.ref p)^.ref q) (L:ii s.heap TO a b) (X:qU U s.heap p G k) (h2:qU zW s.heap q H k) (t:qH U s.heap G I) (M:qH zW s.heap H J) (u:I[k]?=o_\/J[k]?=o_)
  (Y:∀N e,(∀c o,c≠z->c≠TO->c≠p->c≠q->s.heap.get? c=P3 o->N.get? c=P3 o)->(∃o,N.get? e=P3 o/\o.cls=.type "StopIteration")->E (.ref e) {s with heap:=N}):
  wpAny (model prog w) A (iU.«zip.__next__» #[[.ref z],[]]) Q E s:=by
 show wpAny (model prog w) A (field (.ref z) 2 >>=_) _ _ _; refine Cn (gp r rfl (x:=.bool q_) rfl ?_)
 show wpAny (model prog w) A (field (.ref z) 3 >>=_) _ _ _; refine Cn (gp r rfl (x:=.ref TI) rfl ?_); refine Cn (iO K rfl ?_)
 show wpAny (model prog w) A (io^.ref z >>=_) _ _ _; refine Cn ?_; unfold io
 refine Cn (gp r rfl (x:=.none) rfl (Sc ?_)); simp only[if_true]; refine Cn^kE ?_; refine Cn (gp r rfl (x:=.ref TO) rfl ?_)
 refine Cn^jK r (by simp) λha l d=>?_;replace l:j6 ha z TI TO .ellipsis:=l;refine Cn ?_; simp only[List.zipIdx_cons,List.zipIdx_nil,kU,List.forIn_nil]
 refine Cn^Cn^k_ ?_; show wpAny (model prog w) _ (iI^.ref p >>=_) _ _ _
 cases O:I[k]? with
 |none=>
  refine Cn^GX W (X.eb d.extBut D.i1z) (t.eb d.extBut D.l1z) O λP e f R=>?_;let#[S,g,j]:=R;have v:j6 P z TI TO .ellipsis:=f _ _ D.i1z.symm l;have n:e≠z:=λx=>by subst x; rw[v]at g; injection g with g;subst g; simp at j
  exact jK v (by simp) λZ _ i=>Y Z e (λc o y _ T _ x=>i.extBut _ _ y^f _ _ T^d.extBut _ _ y x) #[S,i.extBut _ _ n g,j]
 | some x=>
  have hy:J[k]?=o_:=by
   rcases u with h|h
   .rw[O]at h; cases h
   .exact h
  refine Cn^FG (X.eb d.extBut D.i1z) (t.eb d.extBut D.l1z) O λP a1 f=>Sc ?_;have m:ii P TO a b:=f.extBut _ _ D.TOi1^d.extBut _ _ D.TOz L;refine Cn (iO m rfl ?_); refine Cn^lP m λZ a0 i=>?_
  refine Cn^jy^Sc ?_; refine Cn^Cn^k_ ?_; show wpAny (model prog w) _ (iI^.ref q >>=_) _ _ _
  refine Cn^GX W (((h2.eb d.extBut D.i2z).eb f.extBut D.i12.symm).eb i.extBut D.TOi2.symm) (((M.eb d.extBut D.l2z).eb f.extBut D.l2i1).eb i.extBut D.l2TO) hy λhd e B R=>?_;let#[S,g,j]:=R;have C:j6 hd z TI TO .ellipsis:=B _ _ D.i2z.symm^i.extBut _ _ D.TOz.symm^f.extBut _ _ D.i1z.symm l;have n:e≠z:=λx=>by subst x; rw[C]at g; injection g with g;subst g; simp at j
  exact jK C (by simp) λhf _ F=>Y hf e (λc o y c2 T c4 x=>F.extBut _ _ y^B _ _ c4^i.extBut _ _ c2^f.extBut _ _ T^d.extBut _ _ y x) #[S,F.extBut _ _ n g,j]
end
def Ys(a:Bool):String:=match a with
 |true=>"list_iterator"
 |false=>"tuple_iterator"
def HV(a:Bool)(l:Ch):Obj:={cls:=.type^Ys a,data:=.fields #[ .ref l,.int 0 0]}
abbrev zA(a:Bool)(h:fz)(b:Ch):fz:=h.push^HV a b
abbrev zB(a b:Bool)(h:fz)(c d:Ch):fz:=(zA a h c).push^HV b d
abbrev zC(a c:Bool)(h:fz)(b d:Ch):fz:=(zB a c h b d).push {cls:=.type "tuple",data:=.seq #[ .ref h.objs.size,.ref (zA a h b).objs.size]}
abbrev zD(a b:Bool)(h:fz)(c d:Ch):fz:=(zC a b h c d).push {cls:=.type "tuple",data:=.seq #[ .none,.none]}
abbrev zE(a b:Bool)(h:fz)(c d:Ch):fz:=(zD a b h c d).push {cls:=.type "zip",data:=.fields #[ .none,.bool q_,.bool q_,.ref (zB a b h c d).objs.size,.ref (zC a b h c d).objs.size]}
theorem Va(zX zW:Bool)(l1 l2:Ch)(xs ys:Array Db):Meets (iU.«zip.__new__» #[[.type "zip",.ref l1,.ref l2],[]])
  (λ_ R s=>qH zX s.heap l1 xs/\qH zW s.heap l2 ys/\R (.ok^.ret^.ref (zD zX zW s.heap l1 l2).objs.size) {s with heap:=zE zX zW s.heap l1 l2}):=
 .of_wp λprog w A R s h=>by
  let#[hp,g,d,tk,os]:=s; let#[hl1,hl2,h]:=h
  have hsub:=sub_zip;have hL2:qH zW (zA zX hp l1) l2 ys:=hl2.mv λo e=>Ev _ e;cases zX with
  | true=>
   have g1:nA (jz #[hp,g,d,tk,os]) l1 xs:=hl1;cases zW with
   |true=>
    have g2:nA (jz #[hp.push {cls:=.type "list_iterator",data:=.fields #[ .ref l1,.int 0 0]},g,d,tk,os]) l2 ys:=hL2
    wp_walk using iK g1,iK g2
    exact#[_,rfl,h]
   |false=>
    have g2:mn (jz #[hp.push {cls:=.type "list_iterator",data:=.fields #[ .ref l1,.int 0 0]},g,d,tk,os]) l2 ys:=hL2
    wp_walk using iK g1,ic g2
    exact#[_,rfl,h]
  | false=>
   have g1:mn (jz #[hp,g,d,tk,os]) l1 xs:=hl1;cases zW with
   |true=>
    have g2:nA (jz #[hp.push {cls:=.type "tuple_iterator",data:=.fields #[ .ref l1,.int 0 0]},g,d,tk,os]) l2 ys:=hL2
    wp_walk using ic g1,iK g2
    exact#[_,rfl,h]
   |false=>
    have g2:mn (jz #[hp.push {cls:=.type "tuple_iterator",data:=.fields #[ .ref l1,.int 0 0]},g,d,tk,os]) l2 ys:=hL2
    wp_walk using ic g1,ic g2
    exact#[_,rfl,h]
theorem JZ(a:Bool)(h:fz)(l:Ch):qU a (h.push^HV a l) h.objs.size l 0:=by
 cases a with
 |true=>exact#[_,UF _ rfl,rfl,rfl]
 |false=>exact#[_,UF _ rfl,rfl,rfl]
section

theorem MG(i:qH b s.heap a t)(j:qH f s.heap d u)
  (h:∀g,j6 g (s.heap.objs.size+4) (s.heap.objs.size+2) (s.heap.objs.size+3) .none->ii g (s.heap.objs.size+2) (.ref s.heap.objs.size)^.ref (s.heap.objs.size+1)->ii g (s.heap.objs.size+3) .none .none->
   qU b g s.heap.objs.size a 0->qU f g (s.heap.objs.size+1) d 0->(∀c o,s.heap.get? c=P3 o->g.get? c=P3 o)->Q (.ref (s.heap.objs.size+4)) {s with heap:=g}):
  wpAny (model prog w) A (call (.type "zip") [.ref a,.ref d]) Q E s:=by
 refine callType_new F.called_zip (by cbv) (F.typeCall_zip_2 _ _) (F.newCall_zip_2 _ _) (λk=>F.args_object_init_3 k _ _) F.entry_zip_new (Va b f a d t u) #[i,j,?_];have l:(zA b s.heap a).objs.size=s.heap.objs.size+1:=iT ..;have m:(zB b f s.heap a d).objs.size=s.heap.objs.size+2:=by rw[iT,l]
 have n:(zC b f s.heap a d).objs.size=s.heap.objs.size+3:=by rw[iT,m]
 have p:(zD b f s.heap a d).objs.size=s.heap.objs.size+4:=by rw[iT,n]
 have q:(zE b f s.heap a d).get? (zD b f s.heap a d).objs.size=P3 _:=UF _ rfl;have v:(zE b f s.heap a d).get? (zC b f s.heap a d).objs.size=P3 _:=Ev _ (UF _ rfl);have x:(zE b f s.heap a d).get? (zB b f s.heap a d).objs.size=P3 _:=Ev _^Ev _ (UF _ rfl);have y:qU f (zE b f s.heap a d) (zA b s.heap a).objs.size d 0:=(JZ f (zA b s.heap a) d).mv λo e=>Ev _^Ev _^Ev _ e;have z:qU b (zE b f s.heap a d) s.heap.objs.size a 0:=(JZ b s.heap a).mv λo e=>Ev _^Ev _^Ev _^Ev _ e;rw[p]at q;rw[n]at v;rw[m]at x;rw[l]at y;have r:=h (zE b f s.heap a d) (by rw[j6,q,m,n]) (by rw[ii,x,l]) v z y λc o e=>Ev _^Ev _^Ev _^Ev _^Ev _ e;exists#[_,by rw[p]; exact q,rfl];rw[p];exact r
theorem KD{z TI TO e f g h:Ch}(D:Zx z TI TO e f g h)
  (t:j6 s.heap z TI TO .none) (l:ii s.heap TI (.ref e)^.ref f) (m:ii s.heap TO a b) (v:qU i s.heap e g k) (B:qU j s.heap f h k) (n:qH i s.heap g q) (p:qH j s.heap h r) (hx:q[k]?=P3 x) (C:r[k]?=P3 y)
  (G:∀d,j6 d z TI TO^rawInt s.heap.objs.size->ii d TO x y->qU i d e g (k+1)->qU j d f h (k+1)->ii d s.heap.objs.size x y->d.objs.size=s.heap.objs.size+1->(∀c o,c≠z->c≠TO->c≠e->c≠f->s.heap.get? c=P3 o->d.get? c=P3 o)->Q (P3^.ref s.heap.objs.size) {s with heap:=d}):
  wpAny (model prog w) A (pyNext^.ref z) Q E s:=by
 have u:s.TypeIs (.ref z) "zip":=#[_,t,rfl];unfold pyNext
 exact Cn (lA (iP (name:=gu "__next__") u lQ (jD lQ u F.entry_zip_next
  (R0 D t l m v B n p hx C λd H I J K L M N=>Sc^G d H I J K L M N) (F.args_zip_next_1 _))))
theorem Lm{z TI TO g h i j:Ch}(B:A.handled=o_)(D:Zx z TI TO g h i j)
  (x:j6 s.heap z TI TO .none) (l:ii s.heap TI (.ref g)^.ref h) (m:ii s.heap TO a b) (C:qU r s.heap g i k) (G:qU t s.heap h j k) (n:qH r s.heap i u) (p:qH t s.heap j v) (f:u[k]?=o_\/v[k]?=o_)
  (H:∀q,(∀c o,c≠z->c≠TO->c≠g->c≠h->s.heap.get? c=P3 o->q.get? c=P3 o)->Q o_ {s with heap:=q}):wpAny (model prog w) A (pyNext^.ref z) Q E s:=by
 have y:s.TypeIs (.ref z) "zip":=#[_,x,rfl];unfold pyNext;refine Cn^lA^iP (name:=gu "__next__") y lQ^jD lQ y F.entry_zip_next (Uu B D x l m C G n p f λq e I J=>?_)^F.args_zip_next_1 _;let#[o,K,L]:=J;exact Cn^wpAny_isInstance (T:="StopIteration") (b:=p_) #[o,K,L] isSubtype_stop^Sc^H _ I
end
section

theorem Inv.zS{ch:r_ Ch}(I:Inv X zG σ H s)(d:∀b∈ch,FO X zG H b)(k:∀b o,b∉ch->s.heap.get? b=P3 o->h'.get? b=P3 o):Inv X zG σ H {s with heap:=h',toks:=t'}:=by
 have f:∀b u,H b=P3 u->b∉ch:=λb u e z=>by rw[(d b z).1]at e; cases e
 refine I.step (λb g=>?_) (λb o _ _ a e _=>k b o a e) (λb o _ _ a e _=>#[_,k b o a e]) (λ_ _ _ _ n=>n) (λb o a e=>#[o,k b o a e]) (λ_ _ e=>e) (λ_ _ _ e=>e) (λb y e=>#[#[],by rw[e]; rfl]) (λm h=>?_) (λb u e=>(I.hok b u e).vX (λc v a q=>k c v (a.elim (λz=>by simp_all) λz=>f c _ z) q) (λ_ q=>q) λ_ _ q=>q) I.bare
 .let#[A,i,B,j,l,p]:=d b g
  exact#[j,i,l,p]
 .let#[o,t,w,x,r]:=h
  exact#[o,t,w,k _ o (λz=>(d _ z).2.1 rfl) x,r]
theorem Inv.vH{ch:r_ Ch}(I:Inv X zG σ H s)(h:∀b∈ch,FO X zG H b)(k:∀b o,b∉ch->s.heap.get? b=P3 o->h'.get? b=P3 o)(j:s.heap.objs.size<=a)(new:qv X.prog X.w (Al H a o) h' a o):
  Inv X zG σ (Al H a o) {s with heap:=h',toks:=t'}:=by
 have i:∀b u,H b=P3 u->b∉ch:=λb u e z=>by rw[(h b z).1]at e; cases e
 have l:H a=o_:=I.hok.fresh j;have f:∀b u,H b=P3 u->Al H a o b=P3 u:=λb u e=>by rw[AL^Ak e l]; exact e
 refine I.step (g':=s.gens) (d':=s.drawn) (ch:=ch) (λb g=>?_) (λb o _ _ d e _=>k b o d e) (λb o _ _ d e _=>#[o.slots,k b o d e]) (λb u _ e n=>?_) (λb o d e=>#[o,k b o d e]) (λb p e=>f _ _ e) (λb o u e=>f _ _ e) (λb F e=>#[#[],by rw[f _ _ e]; rfl]) (λm t=>?_) (λb u e=>?_) I.bare
 .let#[G,x,J,y,A,B]:=h b g
  exact#[y,x,A,B]
 .rw[AL^f9^gD (Tk e) j]; exact n
 .let#[o,C,D,E,r]:=t
  exact#[o,C,D,k _ o (λz=>(h _ z).2.1 rfl) E,r]
 .by_cases g:b=a
  .subst g; rw[AQ]at e; injection e with e;subst e; exact new
  .rw[AL g]at e
   exact(I.hok b u e).vX (λc v d q=>k c v (d.elim (λz=>by simp_all) λz=>i c _ z) q) (λc q=>f _ _ q) λc p q=>f _ _ q
end
def SqK(c:Bool)(K:Frag)(H:Hp)(a:Ch)(b:r_ V):Prop:=match c with
 |true=>SqL K H a b
 |false=>SqT K H a b
theorem SqK.at(I:Inv X e f H s)(h:SqK c X.K H a d):∃b:r_ Db,qQ d b/\qH c s.heap a b.toArray:=by
 cases c with
 |true=>let#[b,r,g,_]:=I.list h; exact#[_,r,g.isList]
 |false=>let#[b,r,p,_]:=I.tuple h; exact#[_,r,p]
def Zz (K:Frag) (e f:Bool) (a b:Ch) (c d:r_ V):It:=
  #[λi H=>SqK e K H a c ∧ SqK f K H b d ∧ i < c.length ∧ i < d.length,λi H x g=>∃ T p q,x=.ref T ∧ H T=o_ ∧ g=Al H T^.tup [p,q] ∧ c[i]?=P3 p ∧ d[i]?=P3 q,
   λi H=>SqK e K H a c ∧ SqK f K H b d ∧ (c.length ≤ i ∨ d.length ≤ i)]
structure cD (zX zW:Bool) (z TI TO i1 i2 a b:Ch) (k:Nat) (h:fz):Prop where
 z:j6 h z TI TO .none
 ti:ii h TI (.ref i1) (.ref i2)
 to:∃a b,ii h TO a b
 i1:qU zX h i1 a k
 i2:qU zW h i2 b k
theorem SN{K:Frag}(Z zW:Bool)(z TI TO g l a b:Ch)(xs ys:r_ V)(D:Zx z TI TO g l a b)(B:TI∉[z,TO,g,l]):
  Turn P w K (.Tuple es j pos) (Zz K Z zW a b xs ys) [z,TI,TO,g,l] z (cD Z zW z TI TO g l a b) where
 mem:=by simp
 obj:=λi h d c f=>by
  simp only[TW,ft,or_false]at f
  rcases f with rfl|rfl|rfl|rfl|rfl
  .exact#[_,d.z,λv q=>by cases q]
  .exact#[_,d.ti,λv q=>by cases q]
  .let#[a,b,e]:=d.to
   exact#[_,e,λv q=>by cases q]
  .exact d.i1.lies
  .exact d.i2.lies
 keep:=λi h h' d k=>by
  let#[p,q,e]:=d.to;exact#[k z (by simp) _ d.z,k TI (by simp) _ d.ti,#[p,q,k TO (by simp) _ e],d.i1.mv λo e=>k g (by simp) o e,d.i2.mv λo e=>k l (by simp) o e]
 item:=by
  intro X C F G f i zG s σ H E I r d J;subst C F G;let#[L,M,m,hj]:=J;let#[us,N,O]:=L.at I;let#[ws,R,S]:=M.at I;let#[u,hu,ru]:=N.get^FM m;let#[v,hv,rv]:=R.get^FM hj;let#[p,q,e]:=d.to;refine KD D d.z d.ti e d.i1 d.i2 O S (x:=u) (y:=v) (by simpa using hu) (by simpa using hv) λh' a1 a2 a3 a4 a5 a6 a7=>#[_,rfl,?_];refine wpAny_letOwnedTupleGo_zip a1 λT b1 n=>?_;have hT:H s.heap.objs.size=o_:=I.hok.fresh^On _
  have t:∀c o,c∉[z,TO,g,l]->s.heap.get? c=P3 o->T.get? c=P3 o:=λc o f e=>by
   simp only[TW,ft,or_false,not_or]at f;exact n.extBut _ _ f.1^a7 c o f.1 f.2.1 f.2.2.1 f.2.2.2 e
  have I2:Inv X zG σ (Al H s.heap.objs.size^.tup [xs[i],ys[i]]) {s with heap:=T}:=by
   refine I.vH (t':=s.toks) (ch:=[z,TO,g,l]) (λc f=>r c ?_) t (On _) ?_
   .simp only[TW,ft,or_false]at f ⊢
    rcases f with rfl|rfl|rfl|rfl <;>simp
   .have nT:s.heap.objs.size≠z:=i7^Tk d.z
    exact#[by show 2<=sizeLine; decide,[u,v],.cons ru^.cons rv .nil,#[_,n.extBut _ _ nT a5,rfl,_,rfl,rfl,rfl]]
  have U:ii T TI (.ref g)^.ref l:=t _ _ B d.ti;refine#[.ref s.heap.objs.size,_,I2,rfl,#[_,_,_,rfl,hT,rfl,FM m,FM hj],#[b1,U,#[_,_,n.extBut _ _ D.TOz a2],a3.eb n.extBut D.i1z,a4.eb n.extBut D.i2z],λc f=>?_];have W:H c=o_:=(r c f).1
  have Y:c≠s.heap.objs.size:=λz=>by
   obtain⟨o,ho,_⟩:∃o,s.heap.get? c=P3 o/\True:=by
    simp only[TW,ft,or_false]at f
    rcases f with rfl|rfl|rfl|rfl|rfl
    .exact#[_,d.z,trivial]
    .exact#[_,d.ti,trivial]
    .exact#[_,e,trivial]
    .let#[o,q,_]:=d.i1.lies; exact#[o,q,trivial]
    .let#[o,q,_]:=d.i2.lies; exact#[o,q,trivial]
   rw[z]at ho;exact gS _^Tk ho
  rw[AL Y]; exact W
 done:=by
  intro X C F G f i zG s σ H E I r d J;subst C F G;let#[L,M,m]:=J;let#[us,N,O]:=L.at I;let#[ws,R,S]:=M.at I;let#[p,q,e]:=d.to;have l1:=N.length;have l2:=R.length;refine Lm (I.ok.hd f) D d.z d.ti e d.i1 d.i2 O S (m.imp (λm=>by simp; lk) λm=>by simp; lk) λh' t=>#[rfl,?_];refine I.zS (t':=s.toks) (ch:=[z,TO,g,l]) (λc f=>r c ?_) λc o f e=>?_
  .simp only[TW,ft,or_false]at f ⊢
   rcases f with rfl|rfl|rfl|rfl <;>simp
  .simp only[TW,ft,or_false,not_or]at f
   exact t c o f.1 f.2.1 f.2.2.1 f.2.2.2 e
 self:=λA i s Q E d h=>wpAny_pyIter_zip d.z h
section

theorem Xn(n a b:Nat)(c:a<n)(d:b<n):Zx (n+4) (n+2) (n+3) n (n+1) a b:=by
 constructor <;>(grind)
theorem Xm(n:Nat):(n+2)∉[n+4,n+3,n,n+1]:=by
 simp_all
theorem Xo(n c:Nat)(h:c∈[n+4,n+2,n+3,n,n+1]):n<=c:=by
 grind
def dh(K:Frag)(h:TA):TI:=λi H R=>h i H λj c=>∃d e a b f g,j=[.ref a,.ref b]/\SqK d K c a f/\SqK e K c b g/\R (Zz K d e a b f g) c
theorem S4(J:Gl X "zip")(L:X.mg "zip"=o_)(M:PA X [m,f] y)(N:starEach [m,f] X.env=[(q_,eval m X.env),(q_,eval f X.env)]:=by rfl)(i:starEach [f] X.env=[(q_,eval f X.env)]:=by rfl):
  PI X (.Tuple G j g) (.Call (.Name "zip" p) [m,f] [] pos) (dh X.K y):=by
 intro O s P H R I h;refine Call_ (D6 I J L boot_zip^h_ (thn (M pos O s P H _ I h) λQ d zz=>?_) (by simp only[N,i])^by rw[i]; rfl);let#[vs,S,k,T,n]:=zz;let#[z,A,a,b,B,C,e,U,V,q]:=n;subst e;let#[u,v,rfl,W,Y]:=vals2 T;subst W;subst Y;let#[Q,Z,n]:=U.at k;let#[ws,a0,E]:=V.at k;have la:a<d.heap.objs.size:=by let#[o,e]:=n.lies; exact Tk e
 have lb:b<d.heap.objs.size:=by let#[o,e]:=E.lies; exact Tk e
 refine MG n E λh' F r t w x hk=>?_;refine wpAny_pyIter_zip F ?_;have D:=Xn d.heap.objs.size a b la lb;refine#[d.heap.objs.size+4,[d.heap.objs.size+4,d.heap.objs.size+2,d.heap.objs.size+3,d.heap.objs.size,d.heap.objs.size+1],_,Zz X.K z A a b B C,S,rfl,k.kept (t':=d.toks) hk,SN z A _ _ _ _ _ a b B C D^Xm d.heap.objs.size,#[F,r,#[_,_,t],w,x],λc hc=>?_,q];have l:d.heap.objs.size<=c:=Xo d.heap.objs.size c hc;exact k.vT l^k.hok.fresh l
end
end L2
namespace Dp
open L2
def EA(a b:r_ D):r_ D:=jm (λd e=>.tup [d,e]) a b
section
variable {K:Frag}
theorem LW(h:AtT K g M H d v)(e:Fe d=P3 l)(m:∀a,U a->g a)(s:∀a,g a->M a):∃p a c,v=.ref a/\Ats K M H l c/\∀i f,qZ M H i f->Ext U H f->SqK p K f a c:=by
 cases d with
 |lst q=>
  injection e with e;subst e;let#[a,c,j,n,b,k]:=h;refine#[p_,a,c,j,k,λi f _ ex=>?_]
  rcases b with b|⟨o,b⟩
  .exact .inl^.inl^ex.keep b λz=>n^m a z
  .exact .inl^.inr #[o,ex.keep b λz=>n^m a z]
 |tup q=>
  cases e;let#[a,c,j,b,k]:=h;exact#[q_,a,c,j,k,λi f r _=>(b.qq r).sq]
 |_=>cases e
theorem OE(h:At K M H d v)(e:Fe d=P3 l):∃m a b,v=.ref a/\Ats K M H l b/\∀f c,qZ M H f c->SqK m K c a b:=by
 cases d with
 |lst n=>
  cases e;let#[a,b,g,i,j]:=h;exact#[p_,a,b,g,j,λf c k=>(i.qq k).sq]
 |tup n=>
  cases e;let#[a,b,g,i,j]:=h;exact#[q_,a,b,g,j,λf c k=>(i.qq k).sq]
 |_=>cases e
theorem Ie(u:Ats K M H h f)(v:Ats K M H j g)(w:qZ M H r c)(z:SqK l K c a f)(A:SqK m K c b g)(s:∀a,r a->∃o,c a=P3 o):
  (∀d,(EA h j)[i]?=P3 d->(Zz K l m a b f g).go i c/\∀x H2,(Zz K l m a b f g).yld i c x H2->qW c H2/\At K r H2 d x)/\((EA h j).length<=i->(Zz K l m a b f g).stop i c):=by
 have P:=u.length;have Q:=v.length;refine#[λd e=>?_,λF=>#[z,A,?_]]
 .unfold EA at e
  rw[kA]at e;cases k:h[i]? with
  |none=>simp only[k]at e; simp at e
  | some G=>
   cases n:j[i]? with
   |none=>simp only[k,n]at e; simp at e
   |some I=>
    simp only[k,n]at e;have t:D.tup [G,I]=d:=fu e;have R:i<h.length:=(XV.mp k).1;have S:i<j.length:=(XV.mp n).1;refine#[#[z,A,by lk,by lk],λx H2 y=>?_];let#[T,p,q,rfl,B,rfl,J,L]:=y;let#[U,C,N]:=(u.qq w).get k;let#[W,E,O]:=(v.qq w).get n;rw[J]at C;rw[L]at E;injection C with C;subst C;injection E with E;subst E;subst t;exact#[Ab B,C9 s B #[p,[q],rfl,N,q,[],rfl,O,rfl]]
 .unfold EA at F
  grind
end
section
variable {X:Cx}
def Xq(ws:Dq):Dq:=λn c P=>ws n c λf g=>∃d e a b,f=[d,e]/\Fe d=P3 a/\Fe e=P3 b/\P (EA a b) g
theorem V9(z:Gl X "zip")(A:X.mg "zip"=o_)(B:Ur X [e1,e2] ws)(D:starEach [e1,e2] X.env=[(q_,eval e1 X.env),(q_,eval e2 X.env)]:=by rfl)(c:starEach [e2] X.env=[(q_,eval e2 X.env)]:=by rfl):
  Xj X (.Tuple es j tpos) (.Call (.Name "zip" p) [e1,e2] [] pos) (Xq ws):=by
 let#[t,E,F]:=B;refine#[_,S4 z A E D c,λC M H n G I P Y R w q=>?_];refine F C M H n G I _ _ R w λZ f ds J m o K p=>?_;let#[d,e,xs,ys,rfl,L,N,p]:=p;cases K with
 | cons r g=>
  cases g with
  |cons O g=>
   cases g;have s:=R.step m o;let#[Q,a,S,rfl,T,u]:=LW (U:=C.U) r L R.uV s.vM;let#[V,b,h,rfl,W,v]:=LW (U:=C.U) O N R.uV s.vM;refine#[Q,V,a,b,S,h,rfl,u M f (qZ.refl _ _)^Ext.refl _ _,v M f (qZ.refl _ _)^Ext.refl _ _,q _ f _ J m o (λi x y k ex l=>Ie T W k (u x y k ex) (v x y k ex) l) p]
theorem Y8(x:Gl X "zip")(y:X.mg "zip"=o_)(z:WW X [e1,e2] ws)(A:starEach [e1,e2] X.env=[(q_,eval e1 X.env),(q_,eval e2 X.env)]:=by rfl)(c:starEach [e2] X.env=[(q_,eval e2 X.env)]:=by rfl):
  DI X (.Tuple es j tpos) (.Call (.Name "zip" p) [e1,e2] [] pos) (Xq ws):=by
 let#[t,B,D]:=z;refine#[_,S4 x y B A c,λC M H n E F P Y R w q=>?_];refine D C M H n E F _ _ R w λZ f ds G I J g p=>?_;let#[d,e,xs,ys,rfl,K,L,p]:=p;let#[v,r,rfl,g,v',N,rfl,O,Q]:=g;cases(show N=[]from Q);let#[S,a,T,rfl,U,m]:=OE g K;let#[V,b,h,rfl,W,o]:=OE O L;exact#[S,V,a,b,T,h,rfl,m M f^qZ.refl _ _,o M f^qZ.refl _ _,q _ f _ G I J (λi s u k l=>Ie U W k (m s u k) (o s u k) l) p]
def de:D->s_ Key
 |.int i=>P3^.inl i
 |.str x=>P3^.inr x
 |_=>o_
def HU:r_ D->s_^r_ Key
 |[]=>P3 []
 |d::a=>match de d,HU a with
  |some k,P3 b=>P3 (k::b)
  |_,_=>o_
set_option tactic.hygienic true in
theorem GQ{K:Frag}:∀{c:r_ D}{a:r_ V}{b:r_ Key},HU c=P3 b->Ats K M H c a->a=b.map kOf
 |[],a,b,e,h=>by injection e with e;subst e; exact h
 | d::c,a,b,e,h=>by
  let#[v,r,e1,l,m]:=h;unfold HU at e
  split at e
  .rename_i k n f g
   injection e with e;subst e;simp only[e1,GQ g m]
   congr 1
   cases d with
   |int i=>injection f with f;subst f; exact l
   |str x=>injection f with f;subst f; exact l.1
   |_=>cases f
  .cases e
def HA(d e:D)(P:D->Prop):Prop:=match d,e with
 |.int i,.int j=>P^.bl (decide (i<j))
 |.str i,.str j=>P^.bl (decide (i.cps.toList<j.cps.toList))
 |.tup c,.tup f=>∃a b,HU c=P3 a/\HU f=P3 b/\CO a b=p_/\P^.bl^Ei a b
 |_,_=>False
def ac(K:Frag):R2:=λx y H Q=>YH x y H Q\/aZ K x y H Q
theorem Ck(a:qj k X.A):OpR X (compareOp .Lt)^ac X.K:=op_ltU.or^Ya a.units0
theorem EN:D_ X.K .sh (ac X.K) HA:=λU M H d e x y P Q c h f g w q=>by
 unfold HA at w
 split at w
 .exact .inl^Xc U M H _ _ x y P Q c h f g w q
 .exact .inl^Xc U M H _ _ x y P Q c h f g w q
 .let#[i,k,l,m,n,w]:=w
  let#[a,u,rfl,o,r]:=f.tup;let#[b,v,rfl,s,t]:=g.tup;have e1:=GQ l r;have e2:=GQ m t;subst e1 e2;exact .inr #[a,b,i,k,rfl,rfl,o.sq,s.sq,n,q _ H (.bl _) .refl rfl w]
 simp_all
end
end Dp
namespace L2
section

theorem Md(c:IsTup s.heap t a)(n:s.heap.IsSliceOf f k l .none)(p:lJ k b)(q:lJ l e)
  (o:HT.sIx a.size 0 b=0/\HT.sIx a.size a.size e=a.size) (h:Q (.ref t) s):wpAny (model prog w) A (getItem (.ref t)^.ref f) Q E s:=by
 let#[r,g,i,u]:=id n;have j:s.TypeIs (.ref f) "slice":=#[r,g,i];unfold getItem
 (try with_reducible refine gU ?_); (first|refine Cn^Sc ?_|skip)
 refine Cn^mM c.typeIs (by cbv)^Cn^iP (name:=gu "__getitem__") c.typeIs gP^jD gP c.typeIs lZ ?_^lr _ _;show wpAny (model prog w) _ (kN^.ref t >>=_) _ _ s;refine Cn^tupleItemsOf_ c^Cn^jI j ?_; rw[if_pos^by cbv]
 refine Cn^HT.qC n p q ?_;have d:(((HT.sIx a.size 0 b:Nat):Int)==0&&(1:Int)==1&&(HT.sIx a.size a.size e - HT.sIx a.size 0 b)==a.size)=p_:=by rw[o.1,o.2]; simp
 show wpAny (model prog w) _ (if(((HT.sIx a.size 0 b:Nat):Int)==0&&(1:Int)==1&&(HT.sIx a.size a.size e - HT.sIx a.size 0 b)==a.size)=p_ then _ else _) _ _ s;rw[if_pos d];refine Cn (m:=mG _) ?_;unfold mG;refine Cn^jI c.typeIs^Sc ?_;show wpAny (model prog w) _ (if((gR "tuple"==gR "tuple")=p_)then _ else _) _ _ s;rw[if_pos^by cbv]
 first
  |grind
  |exact Cn^kE^Sc #[_,rfl,Sc h]
  |grind
theorem Jg{b c:Type}{f g:b->s_ c}:∀{l:r_ b},(∀a∈l,f a=g a)->l.filterMap f=l.filterMap g
 |[],_=>rfl
 |a::l,h=>by
  rw[jo,jo,h a Op,Jg λx d=>h x^TM _ d]
theorem Sf(l:r_ Db):∀(n:Nat),n<=l.length->((gG n).filterMap fun(k:Nat)=>l[n - 1 - k]?)=(l.take n).reverse:=by
 intro n
 induction n with
 |zero=>intro _; rfl
 | succ n b=>
  intro h;have a:n<l.length:=h;rw[kz,jo];have c:l[n+1 - 1 - 0]?=P3 l[n]:=by simp only[show n+1 - 1 - 0=n by lk,FM a]
  simp only[c];rw[lq]
  have d:((fun(k:Nat)=>l[n+1 - 1 - k]?)∘Nat.succ)=fun(k:Nat)=>l[n - 1 - k]?:=by
   grind
  simp only[d,b^by lk,List.take_add_one,FM a,List.reverse_append];rfl
theorem GB(a:Array Db):((gG a.size).filterMap fun(k:Nat)=>a[(((a.size:Int) - 1)+(k:Int)*(-1)).toNat]?).toArray=a.toList.reverse.toArray:=by
 have h:=Sf a.toList _^On _;simp only[lC]at h
 have e:(gG a.size).filterMap (fun(k:Nat)=>a[((a.size - 1)+(k:Int)*(-1)).toNat]?)=(gG a.toList.length).filterMap λk=>a.toList[a.toList.length - 1 - k]?:=by
  refine Jg λk b=>?_;rw[show((a.size - 1)+(k:Int)*(-1)).toNat=a.size - 1 - k by lk];simp
 simp only[e,h]
theorem Np{n:Nat}(e:s.heap.IsSliceOf c .none .none^.int (-1) t)(h:Q ((n:Int) - 1,-1,n) s):wpAny (model prog w) A (mE (.ref c)^pure (n:Int)) Q E s:=by
 let#[k,a,f,b]:=id e;refine Cn^Cn (gp a b (x:=.none) rfl (Cn (gp a b (x:=.none) rfl (Cn (gp a b (x:=.int (-1) t) rfl (Sc ?_))))));refine Cn^HT.vq (IsPart.int (-1) t) ?_;rw[if_neg^by cbv];show wpAny (model prog w) _ (match jZ o_ o_ (-1) (n:Int)with|(d,g)=>pure (d,(-1:Int),iX d g (-1))) _ _ s;have i:jZ o_ o_ (-1) (n:Int)=((n:Int) - 1,-1):=rfl;rw[i]
 have j:iX ((n:Int) - 1) (-1) (-1)=n:=by
  unfold iX
  lia
 show wpAny (model prog w) _ (pure _) _ _ s;rw[j];exact Sc h
theorem QV(d:IsTup s.heap t a)(l:s.heap.IsSliceOf e .none .none^.int (-1) n)(f:a.size<=sizeLine)
  (h:Q (.ref s.heap.objs.size) {s with heap:=s.heap.push {cls:=.type "tuple",data:=.seq a.toList.reverse.toArray}}):wpAny (model prog w) A (getItem (.ref t)^.ref e) Q E s:=by
 let#[o,g,i,p]:=id l;have j:s.TypeIs (.ref e) "slice":=#[o,g,i]
 have c:sizeOk^.seq a.toList.reverse.toArray:=by
  show a.toList.reverse.toArray.size<=sizeLine
  simpa using f
 unfold getItem
 (try with_reducible refine gU ?_); (first|refine Cn^Sc ?_|skip)
 refine Cn^mM d.typeIs (by cbv)^Cn^iP (name:=gu "__getitem__") d.typeIs gP^jD gP d.typeIs lZ ?_^lr _ _;show wpAny (model prog w) _ (kN^.ref t >>=_) _ _ s;refine Cn^tupleItemsOf_ d^Cn^jI j ?_; rw[if_pos^by cbv]
 refine Cn^Np l ?_;have k:¬(((a.size:Int) - 1==0&&(-1:Int)==1&&a.size==a.size)=p_):=by simp
 show wpAny (model prog w) _ (if((a.size:Int) - 1==0&&(-1:Int)==1&&a.size==a.size)=p_ then _ else _) _ _ s;rw[if_neg k,GB]
 first
  |exact Cn (m:=i9 _)^iA (Sc #[_,rfl,Sc h]) c
  |omega
  |grind
  |grind
theorem KG(a:Array Db):slicePick a o_ o_^P3 (-1)=a.toList.reverse.toArray:=by
 unfold slicePick;have b:sliceBounds o_ o_ (P3 (-1)) _=((a.size:Int) - 1,-1,-1):=rfl;rw[b];simp only[sliceRange];rw[←GB,lq]
 congr 1
 have c:(if -1 > 0 then if(a.size:Int) - 1 < -1 then(-1 - ((a.size:Int) - 1)+-1 - 1) / -1 else 0 else if(a.size:Int) - 1 > -1 then((a.size:Int) - 1 - -1 - -1 - 1) / - -1 else 0).toNat=a.size:=by
  grind
 rw[c];refine Jg λk _=>?_
 grind
end
section
variable {e st:Expr}
def dR(K:Frag):V->Hp->VK->Prop:=λx H Q=>(∃a b,x=.ref a/\SqL K H a b/\∀p,H p=o_->Q (.ref p)^Al H p^.lst b.reverse)\/∃a b,x=.ref a/\SqT K H a b/\∀p,H p=o_->Q (.ref p)^Al H p^.tup b.reverse
def dI(K:Frag)(te tst:TE):TE:=λa H Q=>te a H λx b=>tst a b λi H2=>i=.int (-1)/\dR K x H2 Q
theorem YV(D:PE X e te)(l:PE X st tst):PE X (.Subscript e (.Slice o_ o_ (P3 st) p2) pos)^dI X.K te tst:=by
 intro j s k H Q I h;refine Subscript_^thn (D j s k H _ I h) λv E zz=>?_;let#[x,F,G,z,J]:=zz;refine wpAny_Slice ?_;rw[evalPart_none,evalPart_some];refine Sc^Sc^thn (l j E k F _ G J) λO c zz=>?_;let#[i,L,M,N,m]:=zz;let#[rfl,m]:=m;let#[t,rfl]:=N;have d:Inv X j k L {c with heap:=c.heap.push {cls:=.type "slice",data:=.fields #[ .none,.none,.int (-1) t]}}:=M.kept (t':=c.toks) λb B q=>Ev _ q;have C:({c with heap:=c.heap.push {cls:=.type "slice",data:=.fields #[ .none,.none,.int (-1) t]}}:Go).heap.IsSliceOf c.heap.objs.size .none .none^.int (-1) t:=ni ..;show wpAny (model X.prog X.w) X.A (subscriptTail e (.Slice o_ o_ (P3 st) p2) v^.ref c.heap.objs.size) (EP X j k Q) X.xe {c with heap:=c.heap.push {cls:=.type "slice",data:=.fields #[ .none,.none,.int (-1) t]}}
 rcases m with⟨a,n,rfl,p,q⟩|⟨a,n,rfl,p,q⟩
 .cases z
  let#[u,r,f,y]:=d.list p;have g:=r.length;refine tail_any (ops:=[.ref a,.ref c.heap.objs.size]) f.isList.typeIs mN.lookup ?_ (by with_unfolding_all rfl);refine wpAny_getItem_list_slice f.isList C .none .none (.int (-1) t) (by cbv) ?_ (by rw[fk]; omega);rw[KG];refine#[.ref _,_,d.laid (t':=c.toks) (o:=.lst n.reverse) (λb B q=>Ev _ q) (On _) ?_,rfl,q _^d.hok.fresh^On _];exact#[by rw[jB]; exact y,_,0,r.reverse,UF _ rfl]
 .cases z
  let#[u,r,f,y]:=d.tuple p;have g:=r.length;refine tail_any (ops:=[.ref a,.ref c.heap.objs.size]) f.typeIs gP.lookup ?_ (by with_unfolding_all rfl);refine QV f C (by rw[fk]; omega) ?_;refine#[.ref _,_,d.laid (t':=c.toks) (o:=.tup n.reverse) (λb B q=>Ev _ q) (On _) ?_,rfl,q _^d.hok.fresh^On _];exact#[by rw[jB]; exact y,_,r.reverse,qR.new _ _]
def Wu(K:Frag):V->s_ Int->s_ Int->Hp->VK->Prop:=λx c d H Q=>∃a b,x=.ref a/\SqT K H a b/\(HT.sIx b.length 0 c=0/\HT.sIx b.length b.length d=b.length)/\Q (.ref a) H
theorem U9:SlR X^Wu X.K:=by
 intro k s l H x v m n o p t Q I d e f g h;let#[a,u,rfl,i,w,q]:=h;subst d;let#[j,r,b,y]:=I.tuple i;have c:=r.length.symm;exact#[_,_,gP.lookup,b.typeIs,Md b e f g (by simp_all) #[.ref a,H,I,rfl,q]]
end
section

def Sq(K:Frag):R2:=λx y H Q=>∃a b c,x=.ref a/\y=.ref b/\SqT K H a []/\SqT K H b c/\Q (.ref b) H
theorem TR:OpR X (binaryOp .Add)^Sq X.K:=by
 intro M s N H x y v u Q I l m h;let#[a,b,O,rfl,rfl,o,p,q]:=h;subst l;subst m;let#[r,t,w,_]:=I.tuple o;let#[g,P,z,_]:=I.tuple p;cases t;let#[#[A,B,i,C],j,D,n,E]:=id w;let#[#[k,G,d,J],c,e,L,f]:=id z;subst D E e f;exact concat_meets #[_,j,rfl] #[_,c,rfl] md seq_tuple_add PySem.F.slot_tuple_add PySem.F.entry_tuple_add (PySem.F.args_tuple_add_2 _ _) (tuple_addW0 a b _ _ n L B _ C _^by rfl) #[j,c,#[.ref b,H,I,rfl,q]]
def bI(b:Bool):Int:=if b=p_ then 1 else 0
def cm(g:Int->Int->Int):R2:=λx y H Q=>∃k j,x=.bl k/\y=.int j/\Q (.int^g (bI k) j) H
def fA(g:Int->Int->Int):R2:=λx y H Q=>∃i k,x=.int i/\y=.bl k/\Q (.int^g i^bI k) H
theorem op_add_bi:OpR X (binaryOp .Add) (cm λi j=>i+j):=by
 intro c s d H x y v u Q I a b h;let#[k,j,rfl,rfl,q]:=h;subst a;let#[t,rfl]:=b;exact PySem.IntBool.add_bool_int #[.int _,H,I.tok _,#[_,rfl],q]
theorem op_sub_bi:OpR X (binaryOp .Sub) (cm λi j=>i - j):=by
 intro c s d H x y v u Q I a b h;let#[k,j,rfl,rfl,q]:=h;subst a;let#[t,rfl]:=b;exact PySem.IntBool.sub_bool_int #[.int _,H,I.tok _,#[_,rfl],q]
theorem Qo:OpR X (binaryOp .Sub) (fA λi j=>i - j):=by
 intro c s d H x y v u Q I a b h;let#[i,k,rfl,rfl,q]:=h;let#[t,rfl]:=a;subst b;exact PySem.IntBool.sub_int_bool #[.int _,H,I.tok _,#[_,rfl],q]
def Ws:r_ V->Hp->VK->Prop:=λa H Q=>(∃i,a=[.int i]/\i.natAbs.log2<1920/\Q (.str^toString i) H)\/∃b,a=[.bl b]/\Q (.str (if b then "True" else "False")) H
theorem Rb:CL X (.type "str") Ws:=by
 intro f s a H c d Q I r h
 rcases h with h|⟨b,rfl,q⟩
 .exact MH _ s a H c d Q I r h
 .let#[u,rfl,e]:=vals1 r
  subst e;exact PySem.P.str_of_bool #[.str _,H,I.tok _,#[_,rfl],q]
theorem SM:∀{c:r_ String}{a:r_ Db},qQ (c.map V.ty) a->a=c.map gR
 |[],a,b=>by cases b; rfl
 | T::r,a,b=>by
  cases b with
  |cons e d=>
   simp only[gJ,←SM d]
   congr 1
theorem MI:CL X (.builtin "isinstance") (λd H Q=>∃(x:V) (t:String) (p:Ch) (k:r_ String) (b:Bool),d=[x,.ref p]/\FN X.K H x^.type t/\t∈["NoneType","bool","int","str","tuple","list"]/\H p=P3^.tup^k.map V.ty/\PySem.W.kitAny X.K (.type t)^k.map gR=P3 b/\Q (.bl b) H):=by
 intro E s F H d R Q I r h;let#[x,t,p,k,b,rfl,ty,m,G,e,q]:=h;let#[u,S,rfl,g,J]:=vals2 r;subst J;let#[_,v,L,#[#[M,T,A,U],j,B,n,C,_]]:=(show qv X.prog X.w H s.heap p^.tup^k.map V.ty from I.hok p _ G);simp only at B C;subst B C;have N:v=k.map gR:=SM L;subst N;have c:∀D,EP X E F Q (.bool b) {s with toks:=D}:=λD=>#[.bl b,H,I.tok _,rfl,q];cases ty with
 |non=>cases(show u=gO from g); exact PySem.W.kia_tup PySem.W.kitx_none I.kIn iQ j e (λz=>nomatch z) c
 |bl y=>cases(show u=ke y from g); exact PySem.W.kia_tup PySem.W.kitx_bool I.kIn iQ j e (λz=>nomatch z) c
 |int i=>let#[t,q]:=(show ∃t,u=nY i t from g); subst q; exact PySem.W.kia_tup PySem.W.kitx_int I.kIn iQ j e (λz=>nomatch z) c
 |str y=>let#[t,q]:=(show ∃t,u=nZ y t from g); subst q; exact PySem.W.kia_tup PySem.W.kitx_str I.kIn iQ j e (λz=>nomatch z) c
 |flt y=>simp at m
 |@lst a d f=>
  cases(show u=fj a from g);let#[_,_,n,_,l]:=(show qv X.prog X.w H s.heap a^.lst d from I.hok a _ f);exact PySem.W.kia_tup PySem.W.kitx_list I.kIn #[_,l,rfl] j e (λz=>nomatch z) c
 |@frz a O d f=>
  cases(show u=fj a from g);let#[_,_,_,n,_,l]:=(show qv X.prog X.w H s.heap a^.frz O^.lst d from I.hok a _ f);exact PySem.W.kia_tup PySem.W.kitx_list I.kIn #[_,l,rfl] j e (λz=>nomatch z) c
 |@tup a d f=>
  cases(show u=fj a from g);let#[_,_,_,p]:=(show qv X.prog X.w H s.heap a^.tup d from I.hok a _ f);let#[o,l,P,_]:=p;exact PySem.W.kia_tup PySem.W.kitx_tuple I.kIn #[o,l,P] j e (λz=>nomatch z) c
 |dK f=>simp at m
 |dF f=>simp at m
 |dT f=>simp at m
end
end L2
namespace Dp
open L2
section
variable {K:Frag}{X:Cx}
def BO(d e:D)(P:D->Prop):Prop:=match d,e with
 |.int i,.int j=>P^.int (i+j)
 |.bl k,.int j=>P^.int (bI k+j)
 |.str i,.str j=>i.length+j.length<=sizeLine/\P^.str (i++j)
 |.tup i,.tup j=>i.length+j.length<=sizeLine/\P^.tup (i++j)
 |.lst i,.lst j=>i.length+j.length<=sizeLine/\P^.lst (i++j)
 |_,_=>False
def W4(K:Frag):R2:=λx y H Q=>Ss K x y H Q\/(cm λi j=>i+j) x y H Q\/Sq K x y H Q
theorem AX:OpR X (binaryOp .Add)^W4 X.K:=op_addU.or^op_add_bi.or TR
set_option tactic.hygienic true in
theorem Ac:D_ X.K .sh (W4 X.K) BO:=λU M H d e x y P Q c h f g w q=>by
 unfold BO at w
 split at w
 .exact .inl^MQ U M H (.int _) (.int _) x y P Q c h f g w q
 .rename_i k j
  exact .inr^.inl #[k,j,f,g,q _ H (.int _) .refl rfl w]
 .exact .inl^MQ U M H _ (.str _) x y P Q c h f g w q
 .rename_i i j
  cases i with
  |nil=>
   let#[a,r,rfl,n,o]:=f.tup;let#[b,l,rfl,m,p]:=g.tup;cases(o);exact .inr^.inr #[a,b,l,rfl,rfl,n.sq,m.sq,q _ H (.tup j) .refl #[b,l,rfl,m,p]^by simp_all]
  |cons s i=>exact .inl^MQ U M H _ (.tup j) x y P Q c h f g #[(by simp_all),w] q
 .exact .inl^MQ U M H (.lst _) (.lst _) x y P Q c h f g w q
 simp_all
def XN(d e:D)(P:D->Prop):Prop:=match d,e with
 |.int i,.int j=>P^.int (i - j)
 |.bl k,.int j=>P^.int (bI k - j)
 |.int i,.bl k=>P^.int (i - bI k)
 |_,_=>False
def Wq:R2:=λx y H Q=>(HL λi j=>.int (i - j)) x y H Q\/(cm λi j=>i - j) x y H Q\/(fA λi j=>i - j) x y H Q
theorem DM:OpR X (binaryOp .Sub) Wq:=op_sub.or^op_sub_bi.or Qo
set_option tactic.hygienic true in
theorem EX:D_ K .sh Wq XN:=λU M H d e x y P Q a f b c w q=>by
 unfold XN at w
 split at w
 .exact .inl^UZ U M H _ _ x y P Q a f b c w q
 .rename_i k j
  exact .inr^.inl #[k,j,b,c,q _ H (.int _) .refl rfl w]
 .rename_i i k
  exact .inr^.inr #[i,k,b,c,q _ H (.int _) .refl rfl w]
 simp_all
def XQ(a:r_ D)(P:D->Prop):Prop:=match a with
 |[.int i]=>i.natAbs.log2<1920/\(gu^toString i).length<=sizeLine/\P^.str^toString i
 |[.bl b]=>P^.str (if b then "True" else "False")
 |_=>False
set_option tactic.hygienic true in
theorem ZP:Dr K .sh Ws XQ:=by
 intro U M H e f P Q d g c w q;unfold XQ at w
 split at w
 .rename_i i
  let#[v,rfl,a]:=DY c;rw[a.int];exact .inl #[i,rfl,w.1,q _ H (.str _) .refl #[rfl,w.2.1] w.2.2]
 .rename_i b
  let#[v,rfl,a]:=DY c;rw[a.bl];refine .inr #[b,rfl,q _ H (.str _) .refl #[rfl,?_] w];cases b <;>(decide)
 simp_all
def FL(d:D)(a b:s_ Int)(P:D->Prop):Prop:=match d with
 |.str z=>P^.str^Txt.slice z a b
 |.lst c=>P^.lst^cutD c a b
 |.tup c=>P^.tup^cutD c a b
 |_=>False
def aX(K:Frag):V->s_ Int->s_ Int->Hp->VK->Prop:=λx a b H Q=>aU x a b H Q\/aW K x a b H Q\/aV K x a b H Q\/Wu K x a b H Q
theorem DA:SlR X^aX X.K:=sl_U.or^sl_list.or^sl_tup.or U9
theorem P_(c d:s_ Int)(h:Ats K M H a b):Ats K M H (cutD a c d)^Nd b c d:=by
 delta cutD Nd;rw[h.length];exact(h.drop _).take _
set_option tactic.hygienic true in
theorem Bv:fH K .sh (aX K) FL:=by
 intro U M H d x c f P Q h n i w q;unfold FL at w
 split at w
 .rename_i z
  exact .inl #[z,i.str.1,i.str.2,q _ H (.str^Txt.slice z c f) .refl #[rfl,f_ (Txt.slice_le z c f) i.str.2] w]
 .rename_i l
  let#[a,b,rfl,_,j,g]:=i;exact .inr^.inl #[a,b,rfl,.inl j,λp k=>q _ _ (.lst _) (Ab k) ((C_ (U:=U) k^P_ c f g).zj h^by simp_all) w]
 .rename_i l
  let#[a,b,rfl,j,g]:=i.tup
  by_cases m:HT.sIx b.length 0 c=0/\HT.sIx b.length b.length f=b.length
  .refine .inr^.inr^.inr #[a,b,rfl,j.sq,m,?_]
   have e:cutD l c f=l:=by
    unfold cutD;rw[←g.length,m.1,m.2,nF,mo,g.length,lC]
   rw[e]at w;exact q _ H (.tup l) .refl #[a,b,rfl,j,g] w
  .exact .inr^.inr^.inl #[a,b,rfl,j.sq,m,λp k=>q _ _ (.tup _) (Ab k) (C9 h k^P_ c f g) w]
 simp_all
def Z7(f a:DW):DW:=λn c P=>f n c λd g=>a g c λi e=>i=.int (-1)/\match d with
 |.lst b=>P (.lst b.reverse) e
 |.tup b=>P (.tup b.reverse) e
 |_=>False
theorem Ow{a B:gA}(e:DE X a I wa)(o:DE X B m c):DE X (.Subscript a (.Slice o_ o_ (P3 B) b) pos) .sh^Z7 wa c:=by
 let#[t,J,L]:=e;let#[u,N,O]:=o;refine#[_,YV J N,λC M H n E F P Q R w q=>?_];refine L C M H n E F _ _ R w λv S d T r W Y p=>?_;have s:=R.step r W;have Z:=Y.qw R.dom R.vM;refine O C M S T E F _ _ s p λi H2 z G f x r2 b=>?_;have h:=s.step f x;have j:=Z.qq (s.qq f) f R.uV;let#[rfl,b]:=b;exists Lw r2;cases d with
 |lst y=>
  let#[a,k,rfl,_,e,A]:=j;refine .inl #[a,k,rfl,.inl e,λp l=>?_];have g:qW H2^Al H2 p^.lst k.reverse:=Ab l;exact q _ _ (.lst y.reverse) G ((r.trans f).trans g.ext) (x.grow g) ((C_ (U:=C.V) l A.reverse).zj h.dom^by intro z; cases z) b
 |tup y=>
  let#[a,k,rfl,e,A]:=j.tup;refine .inr #[a,k,rfl,e.sq,λp l=>?_];have g:qW H2^Al H2 p^.tup k.reverse:=Ab l;exact q _ _ (.tup y.reverse) G ((r.trans f).trans g.ext) (x.grow g) (C9 h.dom l A.reverse) b
 |_=>exact b.elim
def YR(d:D):Prop:=match d with
 |.dic _ _=>False
 |.fdi _ _=>False
 |.dit _ _=>False
 |_=>True
def Z9(a b:String)(c:DW):DW:=λn e P=>c n e λd f=>YR d/\P (.bl (NN (Ux d) a||NN (Ux d) b)) f
theorem Q_(d:KR K a)(e:KR K b)(c:t∈["NoneType","bool","int","str","tuple","list","dict"]):PySem.W.kitAny K (.type t) [.type a,.type b]=P3 (NN t a||NN t b):=by
 unfold PySem.W.kitAny;rw[d.ans t c];cases NN t a with
 |true=>rfl
 |false=>
  unfold PySem.W.kitAny;rw[e.ans t c];cases NN t b <;>rfl
theorem P8(U:KR X.K h)(V:KR X.K i)(W:DE X a T N)(Y:Gl X "isinstance")(Z:X.mg "isinstance"=o_)(m:Gl X c)(o:X.mg c=o_)(r:bootBuiltins c=P3^.type h)
  (s:Gl X b) (u:X.mg b=o_) (x:bootBuiltins b=P3^.type i)
  (y:c ≠ "__name__":=by decide) (z:(c==("__debug__":Str))=q_:=by decide) (A:b ≠ "__name__":=by decide) (B:(b==("__debug__":Str))=q_:=by decide)
  (O:starEach [a,.Tuple [.Name c f,.Name b e] j k] X.env=(q_,eval a X.env)::starEach [.Tuple [.Name c f,.Name b e] j k] X.env:=by rfl)
  (D:starEach [.Tuple [.Name c f,.Name b e] j k] X.env=[(q_,eval (.Tuple [.Name c f,.Name b e] j k) X.env)]:=by rfl)
  (E:starEach [.Name c f,.Name b e] X.env=(q_,eval (.Name c f) X.env)::starEach [.Name b e] X.env:=by rfl) (F:starEach [.Name b e] X.env=[(q_,eval (.Name b e) X.env)]:=by rfl)
  (G:(backTo pos^starEach [.Tuple [.Name c f,.Name b e] j k] X.env).any (·.1)=q_:=by rfl):DE X (.Call (.Name "isinstance" p) [a,.Tuple [.Name c f,.Name b e] j k] [] pos) .sh^Z9 h i N:=by
 let#[t,h1,h2]:=W;have I:PE X (.Name c f)^tC^.ty h:=IL m o r rfl y z;have J:PE X (.Name b e)^tC^.ty i:=IL s u x rfl A B;refine#[_,C4 MI Y Z (by decide +kernel) (A4 h1 (A4 (OO^A4 I (A4 J B4 F) E) B4 D) O) (by cbv) (by cbv) O G,λC M H n ρ σ P Q R w q=>?_];refine h2 C M H n ρ σ _ _ R w λv S d n1 e1 f1 r1 p=>?_;refine#[(by cbv:2<=sizeLine),λtp L=>?_];have g:qW S^Al S tp^.tup [.ty h,.ty i]:=Ab L;have tv:=(r1.qw R.dom R.vM).qq g.qq (g.ext) R.uV;let#[hk,p]:=p;have l:Ux d∈["NoneType","bool","int","str","tuple","list"]:=by cases d <;>first|exact hk.elim|simp[Ux]
 exists v,Ux d,tp,[h,i],_,rfl,PF tv,l,AQ,Q_ U V^PJ d;exact q _ _ (.bl _) n1 (e1.trans g.ext) (f1.grow g) rfl p
end
end Dp
namespace Nt
open L2 Dp
def Ee:W2:=λa n P=>∃m:Int,a=[.fd,.sh^.int m]/\1<=m/\m<1073741824/\1<=n/\∀r:Int,0<=r->r<m->P (.int r) (n - 1)
def eR:W2:=λa n P=>∃s:Int,a=[.fd,.sh^.int s]/\1<=n/\∀r:Int,1<=r->r<=1000000->P (.int r) (n - 1)
def cs(x:Str):r_ Nat:=x.cps.toList
theorem Dk(x:Str):(cs x).length=x.length:=iW
theorem Fy(h:cs x=cs y):x=y:=by
 let#[a]:=x;unfold cs at h
 simp_all
theorem CF(x y:Str):cs (x++y)=cs x++cs y:=PySem.W.KT.app_list x y
theorem Xa(a:0<=j)(b:j<=(x.length:Int)):cs^Txt.slice x o_^P3 j=(cs x).take j.toNat:=by
 have e:x.cps.toList.length=x.length:=by rw[show x.cps.toList.length=x.length from Dk x]
 rw[eq_of_beq^slice_closes_to #[a,by lk]];show((x.cps.toList.drop _).take _)=(x.cps.toList).take _
 simp_all
theorem ZJ(a:0<=i)(b:i<=j)(c:j<=(x.length:Int)):cs^Txt.slice x (P3 i)^P3 j=((cs x).drop i.toNat).take (j - i).toNat:=by
 have e:x.cps.toList.length=x.length:=by rw[show x.cps.toList.length=x.length from Dk x]
 rw[eq_of_beq^slice_closes #[a,b,by lk]];rfl
def D7(x:Str):Prop:=1<=x.length/\x.length<=8/\∀c∈cs x,97<=c/\c<=122
def rising(a:r_ Str):Prop:=a.Pairwise λx y=>cs x<cs y
theorem Tc(a b:r_ Nat):ltCps a b=decide (a<b):=ltCps_eq a b
theorem HQ:∀(l:r_ Str) (p:Str),risingS p l=p_->(p::l).Pairwise λa b=>¬cs b<cs a
 |[],p,_=>km _ _
 |x::r,p,h=>by
  have c:(!ltCps _ _&&risingS x r)=p_:=h;rw[ZB,Bool.not_eq_true',Tc,decide_eq_false_iff_not]at c;have e:=HQ r x c.2;refine gm.mpr #[λy d=>?_,e]
  rcases TW.mp d with rfl|d
  .exact c.1
  .exact List.le_trans c.1^(gm.mp e).1 y d
theorem FR(h:sortedS l=p_)(nd:l.Nodup):rising l:=by
 have c:l.Pairwise λa b=>¬cs b<cs a:=by
  cases l with
  |nil=>simp_all
  |cons x r=>exact HQ r x h
 exact(c.and nd).imp λ{a b} #[d,e]=>jc λf=>e^Fy^List.le_antisymm d f
theorem PN:∀(l:r_ Nat) (i j:Nat),i<j->i<l.length->l.take i<l.take j
 |[],_,_,_,h=>absurd h^Nat.not_lt_zero _
 |c::r,0,j+1,_,_=>List.nil_lt_cons _ _
 |c::r,i+1,j+1,a,b=>List.cons_lt_cons_iff.mpr^.inr #[rfl,PN r i j (by lk)^by simp_all]
theorem Km(I:Nat->Nat->r_ D->r_ Slot->Prop)(g:∀n a c,I 0 n a c->P a n)
  (e:∀(k:Nat) (d:D) (n:Nat) (a:r_ D) (c:r_ Slot) (o:r_ D->Nat->r_ Slot->Prop),I (k+1) n a c->(∀f i l,I k i f l->o f i l)->b d c λp=>m n p λy q=>o (a++[y]) q p):
  ∀(j a:r_ D) (n:Nat) (c:r_ Slot),I j.length n a c->Dx b Gp m P j a n c
 |[],a,n,c,h=>g n _ c h
 |d::j,a,n,c,h=>e _ d n _ c _ h λf i l r=>Km I g e j _ i _ r
theorem B0(a:Int)(n:Nat):(Ci a n).length=n:=by unfold Ci; simp_all
theorem GA(h:d∈Ci a n):∃k:Nat,k<n/\d=.int (a+k):=by
 let#[k,b,rfl]:=Rs.mp h;exact#[k,hV.mp b,rfl]
end Nt
namespace L2
theorem Ye{K:Frag}:PySem.W.specialIn K (.builtin "object.__class__") "__get__"=P3^P3^.builtin "getset_descriptor.__get__":=by kernel_rfl
theorem TX{K:Frag}:PySem.W.takesIn K^.builtin "object.__class__"=P3 p_:=by kernel_rfl
section
variable {K:Frag}
theorem XC.hd(c:XC K nm C U):PySem.W.hasDictIn K C=p_:=by
 let#[a,b,_,d,_]:=c.cls;unfold PySem.W.hasDictIn
 simp_all
theorem XC.mro(c:XC K nm C U)(v:Db):PySem.W.mroIn K C v=P3^(fj C::fj U::Cy).contains v:=by
 let#[d,a,b,_]:=c.cls;unfold PySem.W.mroIn;rw[a,Option.bind_some,b]; rfl
theorem XC.name(c:XC K n1 C U)(d:XC K n2 C U'):n1=n2:=by
 let#[f,g,_,_,h]:=c.cls;let#[a,b,_,_,e]:=d.cls
 simp_all
theorem XC.nameU(c:XC K n1 C U)(d:XC K n2 U U'):n2="ThinError":=by
 let#[q,N,i,j,b,k,f,l,m,n,o,p,r,s,e]:=c.up;let#[g,a,_,_,h]:=d.cls;unfold PySem.W.clsIn at a;simp only[e]at a
 grind
theorem XC.ty(c:XC K nm C U):(PySem.W.clsIn K C).isSome=p_/\PySem.W.typeIn K^.ref C=P3^.type "type":=by
 let#[q,N,d,f,a,g,b,h,i,j,k,l,m,e]:=c.obj;refine#[by unfold PySem.W.clsIn; rw[e]; rfl,?_];unfold PySem.W.typeIn
 simp_all
theorem XC.kit(c:XC K n1 C U)(d:XC K n2 D U')(h:n2 ≠ "ThinError"):PySem.W.kitOne K (.ref C)^.ref D=P3 (decide (n1=n2)):=by
 unfold PySem.W.kitOne
 by_cases e:C=D
 .subst e
  simp only[c.name d];simp
 .have a:n1≠n2:=λz=>by
   subst z;have q:=c.at_.symm.trans d.at_
   simp_all
  have b:U≠D:=λz=>by subst z; exact h^c.nameU d
  rw[if_neg^by simp[e]];show(if((PySem.W.clsIn K D).isSome&&PySem.W.typeIn K _==P3 _)=p_ then PySem.W.subIn K _ _ else o_)=_;rw[if_pos^by simp only[d.ty.1,d.ty.2]; rfl];show PySem.W.mroIn K C^.ref D=_;rw[c.mro,Hf]
  simp_all
theorem XC.kitV(c:XC K n1 C U):PySem.W.kitOne K (.ref C)^.type "ValueError"=P3 p_:=by
 show PySem.W.mroIn K C _=_;rw[c.mro];grind[Cy]
end
section
variable {K:Frag}{fill expr:Bool}
theorem Wa(X:K.In s.heap)(c:XC K nm C U)(I:PySem.W.InstAt s.heap x ox C od)
  (h:wpAny (model prog w) A.in1 (iU.«object.__getattribute__» #[[.ref x,.str name tk],[]]) (λa d=>match a with|.done (.ret v)=>wpAny (model prog w) A (handedOut v) Q E d|_=>False) (λ_ _=>False) s):
  wpAny (model prog w) A (getAttrBy (.ref x) (.str name tk) fill expr) Q E s:=by
 have e:=PySem.F.excAttr_ValueError;have f:(jU "BaseException.__getattribute__"==jU "object.__getattribute__")=q_:=by decide +kernel
 have i:(onTheHeap^fj C&&jU "BaseException.__getattribute__"==jU "object.__getattribute__")=q_:=by rw[f]; rfl
 have g:(expr&&onTheHeap^jU "BaseException.__getattribute__")=q_:=by cases expr <;>rfl
 have b:PySem.W.Looks (model prog w) s.heap (isInstance (.ref x)^.type "BaseException") p_:=by
  refine I.type.andThen^PySem.W.looks_mroIn X ?_;rw[c.mro]; simp[Cy]
 refine gU^Cn^I.type.here^Cn^(PySem.W.looks_findIn X c.ga).here ?_;show wpAny _ _ (if(onTheHeap^fj C&&jU _==jU _)=p_ then _ else getAttrByItsOwn _ _ _ _ _ _) _ _ _;refine Cn^(PySem.W.looks_findIn X c.gt).here^Cn^lA^gU ?_;delta callGetattribute boundAndCalled;simp only[g,e.ga.bind^.ref x];refine Cn^Sc^i8^jb e.ga.plain PySem.F.entry_bexc_ga^@PySem.W.check_slot (model prog w) _ _ s _ "BaseException" "__getattribute__" (.ref x) [.str name tk] [] _ (by decide +kernel) (by decide +kernel) b (PySem.F.args_bexc_ga _ _)^gQ h (λa d z=>?_) λ_ _ z=>z.elim
 rcases a with(_|_|_|_)|_ <;>first|exact z|exact z.elim
theorem Xp(X:K.In s.heap)(c:XC K nm C U)(I:PySem.W.InstAt s.heap x ox C od)(a:PySem.W.findObj K C od name=P3^.value v)(b:PySem.W.handedIn v=p_)(h:Q v {s with toks:=s.toks+1}):
  wpAny (model prog w) A (getAttr (.ref x) name expr) Q E s:=by
 refine Cn^wpAny_mkText^Wa X c I ?_;refine Cn^Sc^Cn^Sc^Cn^PySem.W.Looks.here I.type^Cn^PySem.W.Looks.here (PySem.W.looks_find X I a)^Sc ?_;show wpAny _ _ _ _ _ _;rw[PySem.W.handedOut_of b]; exact Sc h
theorem R6(X:K.In s.heap)(c:XC K nm C U)(I:PySem.W.InstAt s.heap x ox C od)(b:PySem.W.findObj K C od name=P3^.bind g a)(d:PySem.W.handedIn v=p_)
  (h:∀{A:gE}{R:Db->Go->Prop},R v {s with toks:=s.toks+1}->wpAny (model prog w) A (call g [a,.ref x,.ref C]) R (λ_ _=>False) {s with toks:=s.toks+1}) (q:Q (P3 v) {s with toks:=s.toks+1}):
  wpAny (model prog w) A (getAttr? (.ref x) name) Q E s:=by
 refine Cn^wpAny_mkText^Cn^lA^Wa X c I ?_;unfold iU.«object.__getattribute__»;refine Cn^Sc^Cn^Sc^Cn^PySem.W.Looks.here I.type^Cn^PySem.W.Looks.here (PySem.W.looks_find X I b) ?_;refine Cn^gU^h^Sc ?_;show wpAny _ _ _ _ _ _;rw[PySem.W.handedOut_of d]; exact Sc^Sc q
end
section
variable {K:Frag}
theorem XC.kitX(c:XC K nm C U):PySem.W.KitX K (.ref a) (.ref C) (λh=>∃i b,PySem.W.InstAt h a i C b) where
 ty:=λ_ _ _ #[_,_,I]=>I.type
 it:=λ_ _ X _=>by
  let#[q,N,l,m,d,o,f,p,t,u,v,x,y,e]:=c.obj;intro L M O P k q;exact Cn (wpAny_loadPart (k _ _^X _ _ e)^Sc q)
 ne:=λh tp B D n R X g=>by
  let#[q,N,l,m,d,o,f,p,t,u,v,x,y,e]:=c.obj;refine gj.mpr λz=>?_;have F:C=tp:=Value.ref.inj^beq_iff_eq.mp z;subst F;have S:=congrArg Obj.data^fu^(X _ _ e).symm.trans g
  simp_all
 ca:=λ{j w A E Q s} X J k=>by
  let#[i,b,I]:=J
  have G:PySem.W.findObj K C b "__class__"=P3^.bind (.builtin "getset_descriptor.__get__")^.builtin "object.__class__":=by
   let#[T,H,_]:=c.cls;unfold PySem.W.findObj;simp only[H,c.ca];simp[Ye,TX]
  exact R6 X c I G rfl (λr=>i8^PySem.W.class_get X I (c.mro _) r) k
end
section

theorem XT.inst(e:XT C dx a u)(I:Inv X zG σ H s)(g:H a=P3 u)(hd:∀d,dx=P3 d->∃o,s.heap.get? d=P3 o):∃h b,PySem.W.InstAt s.heap a h C b:=by
 let#[j,k,rfl,l]:=e;let#[c,_]:=(I.hok a _ g);cases dx with
 |none=>exact#[_,o_,c,rfl,rfl,trivial]
 |some d=>
  let#[o,i]:=hd d rfl;exact#[_,P3 o,c,rfl,rfl,i]
theorem Vp(I:Inv X zG σ H s)(i:H a=P3 u)(j:XT C (P3 d) a u)(k:H d=P3^.ext^XF d m)(c:XC X.K nm C U)(n:F2 X.K C f)(l:m.lookup f=P3 v)
  (h:∀u e,Inv X zG σ H e->RelV v u->Q u e):wpAny (model X.prog X.w) A (getAttr (.ref a) f b) Q E s:=by
 let#[z,B,rfl,D]:=j;let#[o,_]:=(I.hok a _ i);let#[#[F,p,r,G,_],_]:=(I.hok d _ k);let#[J,q,t]:=Kp p;let#[x,y,g]:=zM.some_of (by rw[←l]; exact r f);exact Xp I.kIn c #[o,rfl,rfl,q] (PySem.W.findObj_own c.hd n rfl (by rw[t,y])) (RI g)^h x _ (I.tok _) g
end
def fN(K:Frag)(e:TE)(f:Str):TE:=λg H Q=>e g H λx b=>∃a C U d u h c v,x=.ref a/\b a=P3 u/\XT C (P3 d) a u/\b d=P3^.ext^XF d c/\XC K h C U/\F2 K C f/\c.lookup f=P3 v/\Q v b
section

theorem az(b:PE X e ta)(g:attributeBase e f X.env^eval e X.env=eval e X.env):PE X (.Attribute e f pos)^fN X.K ta f:=by
 intro y s i H Q I h;refine WM g^thn (b _ s i H _ I h) λu z zz=>?_;let#[x,j,k,m,a,C,U,d,A,B,D,v,ex,o,p,r,c,n,l,q]:=zz;subst ex;obtain rfl:u=fj a:=m;exact Vp k o p r c n l λE F t w=>#[v,j,t,w,q]
theorem Nl:CL X (.builtin "isinstance") (λi H Q=>∃a C U g u j y c b,i=[.ref a,y]/\H a=P3 u/\XT C g a u/\(∀d,g=P3 d->∃k,H d=P3^.ext^XF d k)/\XC X.K j C U/\(y=.ty c/\PySem.W.kitOne X.K (.ref C)^.type c=P3 b\/∃D,y=.ref D/\PySem.W.kitOne X.K (.ref C)^.ref D=P3 b)/\Q (.bl b) H):=by
 intro F s G H i L Q I r h;let#[a,C,U,g,u,j,y,c,b,rfl,p,t,v,l,x,q]:=h;let#[z,m,rfl,A,n]:=vals2 r;cases(show z=fj a from A)
 have J:=t.inst I p λd e=>by
  let#[k,B]:=v d e;let#[#[M,#[o,_,_,N,_],_],_]:=(show qv X.prog X.w H s.heap d _ from I.hok d _ B)
  simp_all
 rcases x with⟨rfl,e⟩|⟨D,rfl,e⟩
 .cases(show m=gR c from n)
  exact PySem.W.kia_one l.kitX I.kIn J e (by grind) λE=>#[.bl b,H,I.tok _,rfl,q]
 .cases(show m=fj D from n)
  exact PySem.W.kia_one l.kitX I.kIn J e (by grind) λE=>#[.bl b,H,I.tok _,rfl,q]
end
end L2
namespace Dp
open L2
def fF(M:Ch->Prop)(H:Hp)(a:s_ Ch)(b:r_ Str)(c:r_ V):Prop:=a=o_/\b=[]/\c=[]\/∃d,a=P3 d/\¬M d/\H d=P3^.ext^XF d^b.zip c
abbrev PX:=Str->r_ Str->r_ D->Nat->Prop
abbrev WX:=r_ Slot->Nat->(D->Nat->Prop)->PX->Prop
def vU(K:Frag)(F:s_ (Ch×Ch))(U M:Ch->Prop)(H:Hp)(h:PX)(E:XK):Prop:=∀d C i b c e f a g,Ext U H a->qk K F M a g->XC K d C i->fF M a f b e->b.length=c.length->Ats K M a c e->h d b c g->E (.ref C) f a
def dQ(K:Frag)(h:Kd)(W:WX)(i:Nat):Sp:=λb H Q E=>b.length=i/\∃(F:s_ (Ch×Ch)) (U c M:Ch->Prop) (n:Nat) (e:r_ Slot) (P:D->Nat->Prop) (f:PX),Zf K F U c M H n e b/\W e n P f /\
 (∀v a d g,Ext U H a->qk K F M a g->VR K c M H a h v d->P d g->Q v a)/\vU K F U M H f E
section
variable {K:Frag}
theorem Rel.setS(R:Rel K C M H n ρ σ)(x:s.vW=q_)(y:∀d,s≠.br d)(h:qO K C.F C.V M H s o):Rel K C M H n (ρ.set i s)^σ.set i o:=by
 have b:∀(j:Nat) (t:Slot),(ρ.set i s)[j]?=P3 t->t.vW=p_->ρ[j]?=P3 t/\((σ.set i o)[j]?).getD o_=(σ[j]?).getD o_:=λj t q w=>by
  rcases EQ q with⟨_,_,rfl⟩|⟨f,q⟩
  .rw[x]at w; cases w
  .exact#[q,Fd f]
 refine#[by simp only[jA,jA]; exact R.len,R.sub,R.dom,R.ext,R.fU,R.uV,R.vM,R.feed,λj s q=>?_,R.pin,λj e a q c=>?_,λj s a q o c=>?_,λj k s t a g m c r u v=>?_,λp z=>?_]
 .rcases EQ q with⟨rfl,A,rfl⟩|⟨f,q⟩
  .rw[OD^by simp only[←R.len]; exact A]
   exact h
  .rw[Fd f]
   exact R.sl j s q
 .rcases EQ q with⟨_,_,e⟩|⟨f,q⟩
  .exact absurd e.symm^y _
  .rw[Fd f]at c
   exact R.br0 j e a q c
 .let#[g,e]:=b j s q o
  rw[e]at c;exact R.new j s a g o c
 .let#[B,D]:=b j s g m
  let#[E,l]:=b k t c r;rw[D]at u;rw[l]at v;exact R.two j k s t a B m E r u v
 .let#[G,I,J,L]:=R.kept p z
  refine#[G,I,J,λj e q=>?_];let#[g,l]:=b j _ q rfl;rw[l];exact L j e g
end
def Z2(d:Fm->Prop)(X:Cx)(e:Kd)(f:gz)(w:AZ):Prop:=∃t,PS X f t/\∀(C:Fm) (M:Ch->Prop) (H:Hp) (n:Nat) (a:r_ Slot) (b:L2.St) (c:E2) (E:Ends),d C->Rel X.K C M H n a b->Gm X.K C e c E->w c n a->t E b H
def Ny(d:Fm->Prop)(X:Cx)(e:Kd)(f:r_ gz)(w:AZ):Prop:=∃t,PSs X f t/\∀(C:Fm) (M:Ch->Prop) (H:Hp) (n:Nat) (a:r_ Slot) (b:L2.St) (c:E2) (E:Ends),d C->Rel X.K C M H n a b->Gm X.K C e c E->w c n a->t E b H
section
variable {st:Stmt}
theorem UD(h:DS X κ st u):Z2 Φ X κ st u:=let #[t,a,b]:=h; #[t,a,λC M H n c d e E _=>b C M H n c d e E]
theorem L8(h:MV X κ rest u):Ny Φ X κ rest u:=let #[t,a,b]:=h; #[t,a,λC M H n c d e E _=>b C M H n c d e E]
theorem FF(e:Z2 Φ X κ st u)(f:Ny Φ X κ rest v):Ny Φ X κ (st::rest)^BV u v:=by
 let#[t,g,h]:=e;let#[k,i,j]:=f;exact#[_,BG g i,λC M H n a b c E d R L w=>h C M H n a b {c with nx:=v c} _ d R #[λM H n a b R w=>j C M H n a b c E d R L w,L.rt,L.bk,L.ct] w]
theorem Ez(a:Z2 Φ X κ st u):Ny Φ X κ [st] u:=by
 let#[t,b,c]:=a;exact#[t,Cz b,c]
theorem Oq(l:DT X c wA)(m:Ny Φ X κ a u)(o:Ny Φ X κ b v):Z2 Φ X κ (.If c a b pos)^CZ wA u v:=by
 let#[t,q,r]:=l;let#[B,s,x]:=m;let#[y,z,A]:=o;refine#[_,Pa q s z,λC M H n d e f E g R L w=>?_];refine r C M H n d e _ _ R w λb h i j k p=>?_;cases b with
 |true=>exact x C M h i d e f E g (R.step j k) L p
 |false=>exact A C M h i d e f E g (R.step j k) L p
end
def cX(P:f7)(w:gB)(K:Frag)(b:Str->s_ Db)(a:fz)(c:Str)(d:r_ Str)(k:Nat):Prop:=∃C U,XC K c C U/\b c=P3^.ref C /\
 ((d=[]/\PySem.W.findIn K (.ref C) "__init__"=P3^P3^.builtin "ValueError.__init__")\/∃e g f fd h i j,d=[e,g]/\PySem.W.findIn K (.ref C) "__init__"=P3^P3^.ref f/\PySem.W.typeIn K^.ref f=P3^.type "function"/\qV P w K b a Ef k f fd [h,i,j]^Iw C e g/\Binds K fd [h,i,j] [])
def LO(d:Str)(a:r_ Str)(b:Dq):E2->PX->Nat->r_ Slot->Prop:=λ_ e n g=>b n g λc f=>(a=[]/\c.length<=100/\e d [] [] f)\/(a.length=2/\c.length=2/\e d a c f)
abbrev Xi:=E2->PX->Nat->r_ Slot->Prop
def cy(X:Cx)(e:Kd)(f:gz)(w:Xi):Prop:=∃t,Zy X f t/\∀(C:Fm) (M:Ch->Prop) (H:Hp) (n:Nat) (a:r_ Slot) (b:L2.St) (c:E2) (E:Ends) (R:XK) (d:PX),Rel X.K C M H n a b->Gm X.K C e c E->vU X.K C.F C.U M H d R->w c d n a->t E R b H
def cZ(X:Cx)(e:Kd)(f:r_ gz)(w:Xi):Prop:=∃t,Zg X f t/\∀(C:Fm) (M:Ch->Prop) (H:Hp) (n:Nat) (a:r_ Slot) (b:L2.St) (c:E2) (E:Ends) (R:XK) (d:PX),Rel X.K C M H n a b->Gm X.K C e c E->vU X.K C.F C.U M H d R->w c d n a->t E R b H
theorem vU.step{K:Frag}(h:vU K F U M H b E)(e:Ext U H a):vU K F U M a b E:=λc C d f g i j k l m=>h c C d f g i j k l^e.trans m
section
variable {st:Stmt}
theorem UC(a:cy X κ st u):cZ X κ [st] u:=by
 let#[t,b,c]:=a;exact#[t,Sz b,c]
theorem HD(G:cX X.prog X.w X.K X.mg X.base nm ks k)(I:qj (k+1) X.A)(J:Gl X nm)(ha:WW X (e::es) was)(a:(nm==("__debug__":Str))=q_:=by decide)(N:starEach (e::es) X.env=(q_,eval e X.env)::starEach es X.env:=by rfl)(b:(backTo cpos^starEach es X.env).any (·.1)=q_:=by rfl)
  (c:(e::es).length<=sizeLine:=by decide):cy X κ (.Raise (P3^.Call (.Name nm p) (e::es) [] cpos) o_ pos)^LO nm ks was:=by
 let#[C,U,h,O,G]:=G;let#[t,P,Q]:=ha
 rcases G with⟨rfl,s⟩|⟨S,T,f,fd,p0,p1,p2,rfl,s,hf,F,hb⟩
 .refine#[_,OK h s I.hd J O P a N b,λC0 M H n u x D2 E R Pr r L l w=>?_]
  refine Q C0 M H n u x _ _ r w λV W Y y i j m p=>?_
  rcases p with⟨_,c,p⟩|⟨z,_⟩
  .exact#[by simp only[m.length,PySem.sizeLine_eq]; lk,l nm C U [] [] [] o_ W y i j h (.inl #[rfl,rfl,rfl]) rfl rfl p]
  .cases z
 .refine#[_,OJ h s hf F hb I J O P a N b,λC0 M H n u x D2 E R Pr r L l w=>?_]
  refine Q C0 M H n u x _ _ r w λV W Y y i j m p=>?_
  rcases p with⟨z,_⟩|⟨_,c,p⟩
  .cases z
  .have Z:=m.length
   simp only[c]at Z
   match V,Z with
   | [B,D],_=>
    refine#[B,D,rfl,λd hd=>?_];have g:=Ab (o:=.ext^XF d [(S,B),(T,D)]) hd
    have nd:¬M d:=λz=>by
     let#[o,q]:=(r.step i j).dom d z;rw[hd]at q; cases q
    exact l nm C U [S,T] Y [B,D] (P3 d) _ y (i.trans g.ext) (j.grow g) h (.inr #[d,rfl,nd,AQ]) c.symm (m.qq g.qq) p
theorem Fv(hx:HG (Rq X.prog X.w) X R)(q:vU X.K F0 l m o b R)(c:∀C,j C->C.F=F0/\C.U=l/\C.M0=m/\C.H0=o)(h:cy X κ st w):Z2 j X κ st (λg=>w g b):=by
 let#[t,s,u]:=h;refine#[_,Qf hx s,λC M H n x y g E A r L w=>?_];let#[rfl,rfl,rfl,rfl]:=c C A;refine u C M H n x y g E R b r L (λnm B D ks G I J i N e f O xd P Q p=>?_) w;have a:qZ M i _ i:=qZ.less r.sub;refine q nm B D ks G I J i N (r.ext.trans e) (f.qq a λ_ _ _ z=>z) O ?_ P (Q.qq a) p
 rcases xd with z|⟨d,S,T,V⟩
 .exact .inl z
 .exact .inr #[d,S,λz=>T^r.sub d z,V]
def fK(X:Cx)(e:gA)(κ:Kd)(w:Nat->r_ Slot->(D->Nat->Prop)->PX->Prop):Prop:=∃t,eW X e t/\∀(C:Fm) (M:Ch->Prop) (H:Hp) (n:Nat) (b:r_ Slot) (c:L2.St) (P:D->Nat->Prop) (Q:VK) (R:XK) (f:PX),Rel X.K C M H n b c->vU X.K C.F C.U M H f R->w n b P f->
 (∀v a d g,Ext C.U H a->qk X.K C.F M a g->VR X.K C.V M H a κ v d->P d g->Q v a)->t R c H Q
def Zo(P:f7)(w:gB)(K:Frag)(c:Str->s_ Db)(a:fz)(x:Str)(k:Nat)(b:r_ Str)(κ:Kd)(W:WX):Prop:=
 ∃f fd,qV P w K c a (Rq P w) k f fd b^dQ K κ W b.length/\c x=P3^.ref f/\keepIn K^.ref f=p_/\Binds K fd b []/\∀d n P e,W d n P e->d.length=b.length
def Xv(W:WX)(was:Ro):Nat->r_ Slot->(D->Nat->Prop)->PX->Prop:=λn a P b=>was n a λc d=>W c d P b
theorem UH{was:Ro}(G:Zo X.prog X.w X.K X.mg X.base x k m h W)(o:qj k X.A)(s:Gl X x)(u:Rz X (e::es) was)
  (c:(x==("__debug__":Str))=q_:=by decide) (y:starEach (e::es) X.env=(q_,eval e X.env)::starEach es X.env:=by rfl) (g:(backTo pos^starEach es X.env).any (·.1)=q_:=by rfl):
  fK X (.Call (.Name x p) (e::es) [] pos) h (Xv W was):=by
 let#[f,fd,G,z,B,D,E]:=G;let#[t,F,I]:=u;refine#[_,S8 G o s z B D F c y g,λC M H n J L P Q R N r l w q=>?_];refine I C M H n J L _ _ r w λvs H1 O S a i j p=>?_;have b:=r.step a i;exact#[(Paired.length j).trans^E _ _ _ _ p,_,_,_,M,S,O,P,N,#[b.dom,b.fU,b.uV,b.vM,i,j],p,λv H2 d T U V Y Z=>q v H2 d T (a.trans U) V (VR.back a Y) Z,l.step a]
abbrev Zr:=E2->Str->r_ Str->r_ D->Nat->r_ Slot->Prop
def DH(X:Cx)(κ:Kd)(h:r_ kP)(w:Zr):Prop:=∃t,PH X h t/\∀(C:Fm) (M:Ch->Prop) (H:Hp) (n:Nat) (b:r_ Slot) (c:L2.St) (d:E2) (E:Ends) (nm:Str) (e i:Ch) (ks:r_ Str) (a:r_ D) (f:r_ V) (g:s_ Ch),
 Rel X.K C M H n b c->Gm X.K C κ d E->XC X.K nm e i->fF M H g ks f->ks.length=a.length->Ats X.K M H a f->w d nm ks a n b->t E e g c H
def cz(c:Xi)(d:Zr):AZ:=λa n b=>c a (λnm ks e f=>d a nm ks e f b) n b
theorem Y4(d:X.stack=X.env::X.outer)(g:X.env.frame=P3 X.env.locals)(hx:∀e s,X.xe e s->False)(o:cZ X κ a h)(q:DH X κ (b::hs) i):
  DS X κ (.Try a (b::hs) [] [] pos) (cz h i):=by
 let#[t,u,x]:=o;let#[N,y,z]:=q;exact#[_,YN d g hx u y,λC M H n j k l E r L w=>x C M H n j k l E _ _ r L (λnm m A ks B D F G I e f J xd K hs p=>#[m,rfl,z C M G I j k l E nm m A ks B D F (r.step e f) L J xd K hs p]) w]
def Xt:Zr:=λ_ _ _ _ _ _=>False
theorem Y9:DH X κ [] Xt:=#[_,YS,λ_ _ _ _ _ _ _ _ _ _ _ _ _ _ _ _ _ _ _ _ _ w=>w.elim]
def Wf(e:Str)(i:Nat)(h:Ch->AZ)(j:Zr):Zr:=λb nm ks f n g=>if nm=e\/e="ThinError" then ∀a,h a {nx:=λc d=>b.nx c^d.set i .no,rt:=b.rt,bk:=λc d=>b.bk c^d.set i .no,ct:=λc d=>b.ct c^d.set i .no} n^g.set i^.ex a nm ks f else j b nm ks f n g
theorem WA(hN:X.N.Nodup)(hi:X.N[i]?=P3 y)(hl:X.env.scope.names.lookup y=P3 .local)(hg:Gl X f)(hm:X.mg f=P3^.ref J)(hK:nsIn X.K mainGlobals f=P3^P3^.ref J)
  (Q:f="ThinError"/\Z1 X.K J\/f ≠ "ThinError"/\∃U,XC X.K f J U) (R:X.stack=X.env::X.outer) (S:X.env.frame=P3 X.env.locals)
  (T:∀a,MV (X.vQ^X.A.mark^P3^.ref a) κ (h::b)^P a) (hr:DH X κ x Z) (hd:(f==("__debug__":Str))=q_:=by decide):
  DH X κ (.ExceptHandler (P3^.Name f np) (P3 y) (h::b) pos::x) (Wf f i P Z):=by
 let#[th,b1,b2]:=hr;have V:∀a,∃t,PSs (X.vQ^X.A.mark^P3^.ref a) (h::b) t/\∀(C:Fm) (M:Ch->Prop) (H:Hp) (n:Nat) (B:r_ Slot) (O:L2.St) (k:E2) (E:Ends),Rel X.K C M H n B O->Gm X.K C κ k E->P a k n B->t E O H:=T;refine#[_,VL (ts:=λa=>(V a).choose) hN hi hl hg hm (Q.elim (λz=>z.2) fun#[_,U,c]=>c.isX) R S (λa=>(V a).choose_spec.1) b1 hd,λC M H n B O k E nm Cc W ks ds vs dx r L m xd D x w=>#[nm,W,m,?_]];unfold Wf at w
 by_cases e:nm=f\/f="ThinError"
 .rw [if_pos e]at w
  refine .inl #[?_,λa u fa xt=>?_]
  .rcases Q with⟨z,_⟩|⟨z,U,c⟩
   .subst z
    have q:=m.atU.symm.trans hK;cases q;exact .inr rfl
   .rcases e with e|e
    .subst e
     have q:=m.at_.symm.trans hK;cases q;exact .inl rfl
    .exact absurd e z
  .have g:qW H^Al H a u:=Ab fa
   have r1:=r.step (g.ext)^r.feed.grow g;have na:¬M a:=λz=>by let#[o,q]:=r.dom a z; rw[fa]at q; cases q
   have nd:∀{d:Ch}{o:HO},H d=P3 o->Al H a u d=P3 o:=λ{d o} q=>g.all d o q;refine(V a).choose_spec.2 C M (Al H a u) n (B.set i^.ex a nm ks ds) _ {nx:=λj l=>k.nx j^l.set i .no,rt:=k.rt,bk:=λj l=>k.bk j^l.set i .no,ct:=λj l=>k.ct j^l.set i .no} _ (r1.setS rfl (λ_ z=>by cases z) #[rfl,Cc,W,dx,u,vs,m,#[na,AQ],xt,?_,D,x.qq g.qq]) #[λF G j l zZ I q=>?_,L.rt,λF G j l zZ I q=>?_,λF G j l zZ I q=>?_]^w a
   .rcases xd with z|⟨d,Y,n1,h1⟩
    .exact .inl z
    .exact .inr #[d,Y,n1,nd h1]
   .exact L.nx F G j _ _ (I.setS (s:=.no) rfl (λ_ z=>by cases z) trivial) q
   .exact L.bk F G j _ _ (I.setS (s:=.no) rfl (λ_ z=>by cases z) trivial) q
   .exact L.ct F G j _ _ (I.setS (s:=.no) rfl (λ_ z=>by cases z) trivial) q
 .rw[if_neg e]at w
  have Y:nm≠f:=λz=>e^.inl z;have e2:f ≠ "ThinError":=λz=>e^.inr z
  rcases Q with⟨z,_⟩|⟨_,U,c⟩
  .exact absurd z e2
  .refine .inr #[λz=>?_,λz=>?_,b2 C M H n B O k E nm Cc W ks ds vs dx r L m xd D x w]
   .subst z
    exact Y^m.name c
   .subst z
    exact e2^m.nameU c
end
end Dp
namespace L2
def HX(A:gE)(H:Hp):Prop:=∃a C b u,A.handled=P3^.ref a/\H a=P3 u/\XT C b a u
structure fG (P:f7) (w:gB) (K:Frag) (tg:gA) (J:It) (fp:List Ch) (it:Ch) (tn:Nat->fz->Prop):Prop where
 mem:it∈fp
 obj:∀i h,tn i h->∀b∈fp,∃o,h.get? b=P3 o/\∀v,o.data≠.cell v
 keep:∀i h h',tn i h->(∀b∈fp,∀o,h.get? b=P3 o->h'.get? b=P3 o)->tn i h'
 item:∀(X:Cx),X.prog=P->X.w=w->X.K=K->HX X.A X.H₀->∀(i:Nat) (zG:List (Ch×Obj)) (s:Go) (σ:St) (H:Hp) (E:Db->Go->Prop),Inv X zG σ H s->(∀b∈fp,FO X zG H b)->tn i s.heap->J.go i H->
  wpAny (model P w) X.A (pyNext^.ref it) (λr s1=>∃u,r=P3 u /\
   wpAny (model P w) X.A (letOwnedTupleGo tg (.ref it) u) (λ_ s2=>∃x H',Inv X zG σ H' s2/\RelV x u/\J.yld i H x H'/\tn (i+1) s2.heap/\∀b∈fp,H' b=o_) E s1) E s
 done:∀(X:Cx),X.prog=P->X.w=w->X.K=K->HX X.A X.H₀->∀(i:Nat) (zG:List (Ch×Obj)) (s:Go) (σ:St) (H:Hp) (E:Db->Go->Prop),Inv X zG σ H s->(∀b∈fp,FO X zG H b)->tn i s.heap->J.stop i H->
  wpAny (model P w) X.A (pyNext^.ref it) (λr s1=>r=o_/\Inv X zG σ H s1) E s
 self:∀(A:gE) (i:Nat) (s:Go) (Q:Db->Go->Prop) (E:Db->Go->Prop),tn i s.heap->Q (.ref it) s->wpAny (model P w) A (pyIter^.ref it) Q E s
end L2
namespace Dp
open L2
end Dp
namespace L2
structure qM (k:Nat) (A:gE):Prop where
 dp:A.depth+3*k+5<recursionLimit
 un:A.units+16*k+200<cLine
 gd:A.guards=P3 []
theorem qM.mono(r:qM k A)(h:j<=k):qM j A:=#[by have:=r.dp; lk,by have:=r.un; lk,r.gd]
theorem qM.room(r:qM k A):qj k {A with handled:=o_}:=#[rfl,r.dp,r.un,r.gd]
theorem qj.held(r:qj k A)(e:s_ Db):qM k^A.mark e:=#[r.dp,r.un,r.gd]
theorem qM.deeper(r:qM (k+1) A)(a:Env):qM k^A.deeper a:=let q:=r.room.deeper a; #[q.dp,q.un,q.gd]
structure Nx (P:f7) (w:gB) (K:Frag) (mg:Str->Option Db) (base:fz) (k:Nat) (f:Ch) (fd:gX) (ps:List Str) (sp:Sp):Prop where
 len:∀vs H Q E,sp vs H Q E->vs.length=ps.length
 run:∀(A:gE) (outer:List Env) (s:Go) (H:Hp) (args:Args) (us:List Db) (vs:List V) (Q:VK) (E:XK),qM k A->HX A H->vG P w K mg base A outer s H->lc s fd args^ps.zip us->qQ vs us->sp vs H Q E->
  codeAny (model P w) A (.call (.ref f) args) (CR Ef outer P w H s Q E) s
theorem Fun.okH{K:Frag}{h:gz}(F:Fun K x a h f fd)(S:BJ N L^AK h)(len:∀l H Q E,O l H Q E->l.length=L.length)
  (p:∀(d:Db) (A:gE) (c:r_ Env) (s:Go) (H:Hp) (l:r_ V) (Q:VK) (E:XK),qM k^A.deeper^envOfC a (AK h) s.heap.objs.size f d->HX A H->O l H Q E->
   ∃t,PSs ((Dh Ef P w K C g N a (AK h) f d A c s H E).vQ^A.deeper^envOfC a (AK h) s.heap.objs.size f d) (A9 h) t/\t {nx:=λ_ m=>Q .non m,rt:=Q} (start N l) H):Nx P w K C g (k+1) f fd L O:=by
 let#[oc,od,kV,a0,pm,an,d,ct,a1,rfl,lk,R]:=F.ex;refine#[len,λA c s H Z us l Q E hr hx j hb r D=>?_];have hl:=len _ _ _ _ D;have KX:K.In s.heap:=j.mod.kin.keeps λb o e=>(j.bs b o e).1;have T:s.heap.NoLimit:=j.mod.nolimit.keeps λb o e=>(j.bs b o e).1
 have z:∀y∈L.zip us,(AK h).names.lookup y.1=P3 .local\/((AK h).names.lookup y.1=P3 .cell/\((cellsFrom (s.heap.objs.size+1) (AK h).names []).lookup y.1).isSome=p_):=fun#[n,v] hy=>by
  rcases S.par n (kT hy).1 with q|q
  .exact .inl q
  .exact .inr #[q,PySem.W.cellsFrom_some _ _ _^.inl q]
 refine codeAny_call_function hr.room.depth (KX _ _ lk) rfl S.co S.gen rfl (PySem.W.codeRec_of KX R) (hb _ _ _ _ ?_);refine mC S.kind z λa2 he U x1=>?_;subst he;refine#[T.keeps x1.toInCall.keep,codeAny_func ?_];let#[t,ht,hq]:=p d A c s H l Q E (hr.deeper _) hx D;have I0:Inv (Dh Ef P w K C g N a (AK h) f d {A with handled:=o_} c s H E) [] (start N l) H U:=Kw S rfl #[j.frames,j.mod,j.bs,j.bsz,j.vZ,j.frf,j.hok,j.bare] hl r x1;have I:Inv ((Dh Ef P w K C g N a (AK h) f d A c s H E).vQ^A.deeper^envOfC a (AK h) s.heap.objs.size f d) [] (start N l) H U:=I0.vQ (A:=A.deeper^envOfC a (AK h) s.heap.objs.size f d)^nL j.frames;refine gQ (ht [] U (start N l) H _ I hq) (λfl X B=>?_) λe X B=>gh B
 have G:∀{M:St}{m:Hp}{v:V}{u:Db},Inv ((Dh Ef P w K C g N a (AK h) f d A c s H E).vQ^A.deeper^envOfC a (AK h) s.heap.objs.size f d) [] M m X->RelV v u->Q v m->CE c P w H s Q u X:=
  λ{M m v u} J Y q=>#[v,m,J.os,J.bare,J.base,J.hok,Y,q]
 cases fl with
 |ret u=>
  let#[v,M,m,J,Y,q]:=B;exact G J Y q
 |next=>
  let#[M,m,J,q]:=B;exact G (v:=V.non) (u:=gO) J rfl q
 |brk=>
  let#[_,_,_,q]:=B;exact gh q
 |cont=>
  let#[_,_,_,q]:=B;exact gh q
section

def YA(A:gE)(sp:Sp)(t:TA):TE:=λb H Q=>t b H λc a=>HX A a/\sp c a Q E0
theorem TJ(F:Nx X.prog X.w X.K X.mg X.base k f fd ps sp)(l:qM k X.A)(m:Gl X x)(n:X.mg x=P3^.ref f)(o:keepIn X.K^.ref f=p_)(v:Binds X.K fd ps [])
  (y:PA X (e::es) t) (d:(x==("__debug__":Str))=q_:=by decide) (z:starEach (e::es) X.env=(q_,eval e X.env)::starEach es X.env:=by rfl) (g:(backTo pos^starEach es X.env).any (·.1)=q_:=by rfl):
  PE X (.Call (.Name x p) (e::es) [] pos) (YA X.A sp t):=by
 intro B s C H Q I h;refine hU^Dy I m n ?_ d;refine PySem.W.callWith_K (h₀:=X.base) I.ok.mod.kin o (thn (y pos B s C H _ I h) λa i zz=>?_) z g;let#[j,D,c,r,E,q]:=zz;refine #[c.kIn,?_];have G:(a++[]).length=ps.length:=by simp only[gM,←r.length]; exact F.len _ _ _ _ q
 have J:qQ j (a++[]):=by simp_all
 refine i8^jj (F.run X.A X.stack i D #[a,[]] (a++[]) j Q E0 l E c.env0 (v i a c.kIn G) J q) λr M b=>?_;cases r with
 |error e=>exact gh b
 |ok L=>
  cases L with
  |ret u=>exact c.after b
  |next=>exact gh b
  |brk=>exact gh b
  |cont=>exact gh b
end
end L2
namespace Dp
open L2
section

def Wi(i:Nat):Nat->r_ Slot->(Slot->Nat->Prop)->Prop:=λn b P=>match b[i]? with
 |some (.ex a nm c d)=>P (.ex a nm c d) n
 |_=>False
set_option tactic.hygienic true in
theorem bv(i:Nat)(d:X.N[i]?=P3 x:=by rfl)(e:QK X.env.scope x:=by first|exact gi rfl|exact iE (gi rfl)|exact iE (iE rfl))(b:(x==("__debug__":Str))=q_:=by decide)
  (c:(x==("__classdict__":Str))=q_:=by decide):cf X (.Name x pos)^Wi i:=by
 refine#[_,ES d e b c,λC M H n l m P Q R w q=>?_];unfold Wi at w
 split at w
 .rename_i a nm g h b
  let#[j,k]:=R.sl i _ b;exact#[_,getD_some j,q _ H (.ex a nm g h) n (Ext.refl _ _) R.feed #[#[rfl,k],rfl] w]
 simp_all
def e7(i:Nat)(f:Str):DW:=λn a P=>match a[i]? with
 |some (.ex _ _ b c)=>∃d,(b.zip c).lookup f=P3 d/\P d n
 |_=>False
theorem Ig{K:Frag}:∀{b:r_ Str}{c:r_ D}{a:r_ V},Ats K M H c a->(b.zip c).lookup f=P3 d->∃v,(b.zip a).lookup f=P3 v/\At K M H d v
 |[],c,a,h,e=>by simp at e
 |k::b,[],a,h,e=>by simp at e
 |k::b,j::c,a,h,e=>by
  let#[v,r,rfl,l,g]:=h;simp only[kZ,jE]at e ⊢
  split at e
  .grind
  .exact Ig g e
set_option tactic.hygienic true in
theorem XZ(j:f∈(["word","number","row"]:r_ Str))(o:X.N[i]?=P3 x:=by rfl)(c:QK X.env.scope x:=by first|exact gi rfl|exact iE (gi rfl)|exact iE (iE rfl))(e:(x==("__debug__":Str))=q_:=by decide)
  (g:(x==("__classdict__":Str))=q_:=by decide) (r:attributeBase (.Name x p) f X.env^eval (.Name x p) X.env=eval (.Name x p) X.env:=by rfl):DE X (.Attribute (.Name x p) f pos) .sh^e7 i f:=by
 refine#[_,az (ES o c e g) r,λC M H n E F P Q R w q=>?_];unfold e7 at w
 split at w
 .rename_i a nm G I e
  let#[d,l,w]:=w;let#[s,k,U,J,u,L,b,#[m,t],y,z,O,A]:=R.sl i _ e
  rcases z with⟨_,rfl,_⟩|⟨B,rfl,S,h⟩
  .simp at l
  .let#[v,D,c]:=Ig A l
   have m:F2 X.K k f:=by
    simp only[TW,ft,or_false]at j
    rcases j with rfl|rfl|rfl
    .exact b.nw
    .exact b.nn
    .exact b.nr
   exact#[.ref a,getD_some s,a,k,U,B,u,nm,_,v,rfl,t,y,h,b,m,D,q v H d n (Ext.refl _ _) R.feed c w]
 .exact w.elim
def Z3(i:Nat)(a:Str):DW:=λn b P=>match b[i]? with
 |some (.ex _ nm _ _)=>P (.bl (decide (nm=a))) n
 |_=>False
def Wd(i:Nat):DW:=λn a P=>match a[i]? with
 |some (.ex _ _ _ _)=>P (.bl p_) n
 |_=>False
set_option tactic.hygienic true in
theorem ZC{b:Str}{D U:Ch}(t:b ≠ "ThinError")(xd:XC X.K b D U)(c:Gl X b)(e:X.mg b=P3^.ref D)(y:Gl X "isinstance")(A:X.mg "isinstance"=o_)(B:X.N[i]?=P3 x:=by rfl)(E:QK X.env.scope x:=by first|exact gi rfl|exact iE (gi rfl)|exact iE (iE rfl))(g:(x==("__debug__":Str))=q_:=by decide)
  (h:(x==("__classdict__":Str))=q_:=by decide) (j:(b==("__debug__":Str))=q_:=by decide) (o:starEach [.Name x p1,.Name b p2] X.env=(q_,eval (.Name x p1) X.env)::starEach [.Name b p2] X.env:=by rfl) (k:starEach [.Name b p2] X.env=[(q_,eval (.Name b p2) X.env)]:=by rfl) (l:(backTo pos^starEach [.Name b p2] X.env).any (·.1)=q_:=by rfl):
  DE X (.Call (.Name "isinstance" p) [.Name x p1,.Name b p2] [] pos) .sh (Z3 i b):=by
 refine#[_,C4 Nl y A (by decide +kernel) (A4 (ES B E g h) (A4 (Ph (v:=.ref D) c e rfl j) B4 k) o) (by cbv) (by cbv) o l,λC M H n T V P Q R w q=>?_];unfold Z3 at w
 split at w
 .rename_i a nm W Y g
  let#[F,G,I,J,u,Z,r,#[na,L],O,S,hl,hs]:=R.sl i _ g;refine#[.ref a,getD_some F,a,G,I,J,u,nm,.ref D,"",_,rfl,L,O,λd s=>?_,r,.inr #[D,rfl,r.kit xd t],q _ H (.bl _) n (Ext.refl _ _) R.feed rfl w]
  rcases S with⟨z,_⟩|⟨dd,z,_,m⟩
  .grind
  .rw[z]at s; injection s with s;subst s; exact#[_,m]
 simp_all
set_option tactic.hygienic true in
theorem WE(c:Gl X "ValueError")(e:X.mg "ValueError"=o_)(r:Gl X "isinstance")(s:X.mg "isinstance"=o_)(t:X.N[i]?=P3 x:=by rfl)(y:QK X.env.scope x:=by first|exact gi rfl|exact iE (gi rfl)|exact iE (iE rfl))(g:(x==("__debug__":Str))=q_:=by decide)
  (h:(x==("__classdict__":Str))=q_:=by decide) (m:starEach [.Name x p1,.Name "ValueError" p2] X.env=(q_,eval (.Name x p1) X.env)::starEach [.Name "ValueError" p2] X.env:=by rfl) (j:starEach [.Name "ValueError" p2] X.env=[(q_,eval (.Name "ValueError" p2) X.env)]:=by rfl) (k:(backTo pos^starEach [.Name "ValueError" p2] X.env).any (·.1)=q_:=by rfl):
  DE X (.Call (.Name "isinstance" p) [.Name x p1,.Name "ValueError" p2] [] pos) .sh (Wd i):=by
 refine#[_,C4 Nl r s (by decide +kernel) (A4 (ES t y g h) (A4 (IL (v:=.ty "ValueError") c e PyProof.Rows.Boot.«ValueError» rfl) B4 j) m) (by cbv) (by cbv) m k,λC M H n J K P Q R w q=>?_];unfold Wd at w
 split at w
 .rename_i a nm L O g
  let#[A,B,D,E,u,S,o,#[T,F],G,I,U,V]:=R.sl i _ g;refine#[.ref a,getD_some A,a,B,D,E,u,nm,.ty "ValueError","ValueError",p_,rfl,F,G,λd b=>?_,o,.inl #[rfl,o.kitV],q _ H (.bl _) n (Ext.refl _ _) R.feed rfl w]
  rcases I with⟨z,_⟩|⟨W,z,_,l⟩
  .rw[z]at b; cases b
  .rw[z]at b; injection b with b;subst b; exact#[_,l]
 .exact w.elim
def Zp(P:f7)(w:gB)(K:Frag)(c:Str->s_ Db)(a:fz)(x:Str)(k:Nat)(b:r_ Str)(κ:Kd)(W:W2):Prop:=
 ∃f fd,Nx P w K c a k f fd b^Qa K κ W b.length/\c x=P3^.ref f/\keepIn K^.ref f=p_/\Binds K fd b []/\∀d n P,W d n P->d.length=b.length
def Xw(a:Ch)(i:Nat)(W:W2)(b:Ro):DW:=λn c P=>(∃nm d e,c[i]?=P3^.ex a nm d e)/\b n c λg h=>W g h P
theorem UM(i:Nat)(s:X.A.handled=P3^.ref a)(G:Zp X.prog X.w X.K X.mg X.base x k r κ W)(y:qM k X.A)(z:Gl X x)(g:Rz X (e::es) b)
  (h:(x==("__debug__":Str))=q_:=by decide) (B:starEach (e::es) X.env=(q_,eval e X.env)::starEach es X.env:=by rfl) (j:(backTo pos^starEach es X.env).any (·.1)=q_:=by rfl):
  DE X (.Call (.Name x p) (e::es) [] pos) κ (Xw a i W b):=by
 let#[f,fd,G,D,E,I,J]:=G;let#[t,L,N]:=g;refine#[_,TJ G y z D E I L h B j,λC M H n O S P Q R w q=>?_];let#[#[nm,ks,ds,T],w]:=w;refine N C M H n O S _ _ R w λvs H1 Y Z l m o p=>?_;have c:=R.step l m;let#[ea,Cc,U',dx,u,a0,xc,#[na,g],xt,_]:=c.sl i _ T;refine#[#[a,Cc,dx,u,s,g,xt],(Paired.length o).trans^J _ _ _ p,C.F,C.U,C.V,M,Z,Y,P,#[c.dom,c.fU,c.uV,c.vM,m,o],p,λv H2 d n2 e2 f2 r2 p2=>?_];exact q v H2 d n2 (l.trans e2) f2 (VR.back l r2) p2
end
theorem d8{K:Frag}{g:gz}(F:Fun K x b g f fd)(S:BJ N i^AK g)(G:i.length<=N.length)
  (I:∀(c:Db) (A:gE) (a:r_ Env) (s:Go) (H:Hp) (E:XK),qM k^A.deeper^envOfC b (AK g) s.heap.objs.size f c->HX A H->MV ((Dh Ef P w K y e N b (AK g) f c A a s H E).vQ^A.deeper^envOfC b (AK g) s.heap.objs.size f c) m (A9 g) B)
  (hW:∀l n j,l.length=i.length->W l n j->B {nx:=λn _=>m=.sh/\j .non n,rt:=j} n (l++fq (N.length - i.length) .no)):
  Nx P w K y e (k+1) f fd i (Qa K m W i.length):=by
 refine F.okH S (λC H Q E h=>h.1) λc A a s H C Q E J L h=>?_;let#[hl,O,U,T,M,n,l,j,D,hw,q]:=h;let#[t,V,X]:=I c A a s H E J L;exists t,V;have el:C.length=l.length:=Paired.length D.2.2.2.2.2;have R:=Gz (N:=N) D (by lk);refine X #[M,O,U,T,H,[],[]] M H n _ _ {nx:=λn _=>m=.sh/\j .non n,rt:=j} _ R #[λM1 o r zR zK u p=>?_,λv o d r Y Z r1 p=>q v o d r Y Z r1 p,λ_ _ _ _ _ _ z=>z.elim,λ_ _ _ _ _ _ z=>z.elim] ?_
 .let#[hk,p]:=p
  subst hk;exact q .non o .non r u.ext (u.feed.qq (qZ.less u.sub) λ_ _ _ z=>z) rfl p
 simp_all
theorem fnX{K:Frag}{m:gz}{wb:PX->AZ}(F:Fun K x a m f fd)(S:BJ N i^AK m)(L:i.length<=N.length)
  (O:∀(c:Db) (A:gE) (b:r_ Env) (s:Go) (H:Hp) (E:XK) (g:PX) (r:s_ (Ch×Ch)) (U M:Ch->Prop),vU K r U M H g E->qj k^A.deeper^envOfC a (AK m) s.heap.objs.size f c->
   Ny (λC=>C.F=r/\C.U=U/\C.M0=M/\C.H0=H) (Dh (Rq P w) P w K I e N a (AK m) f c A b s H E) o (A9 m) (wb g))
  (hW:∀u n j g,u.length=i.length->W u n j g->wb g {nx:=λn _=>o=.sh/\j .non n,rt:=j} n (u++fq (N.length - i.length) .no)):
  qV P w K I e (Rq P w) (k+1) f fd i (dQ K o W i.length):=by
 let#[oc,od,kV,T,pm,an,c,ct,V,rfl,X,y]:=F.ex;refine XI X y S (λY H Q E h=>h.1) λA b s H Y Q E Z h=>?_;let#[hl,r,U,V',M,n,u,j,g,J,hw,q,l]:=h;let#[t,t1,t2]:=O c A _ s H E g r U M l Z;exists t,t1;have el:=Paired.length J.2.2.2.2.2;have R:=Gz (N:=N) J (by lk);refine t2 _ M H n _ _ {nx:=λn _=>o=.sh/\j .non n,rt:=j} _ #[rfl,rfl,rfl,rfl] R #[λM1 B D zR zK G p=>?_,λv B d D e1 f1 r1 p=>q v B d D e1 f1 r1 p,λ_ _ _ _ _ _ z=>z.elim,λ_ _ _ _ _ _ z=>z.elim] ?_
 .let#[hk,p]:=p
  subst hk;exact q .non B .non D G.ext (G.feed.qq (qZ.less G.sub) λ_ _ _ z=>z) rfl p
 simp_all
end Dp
namespace So
open PySem.W
section

def KN(O:KeyOrd)(key:Nat->O.α)(p:Array Nat)(i:Nat):O.α:=key^p.getD i 0
def Srt(O:KeyOrd)(key:Nat->O.α)(p:Array Nat)(k:Nat):Prop:=∀i j,i<=j->j<k->O.kle (KN O key p i)^KN O key p j
def cS(O:KeyOrd)(key:Nat->O.α)(p:Array Nat)(k:Nat):Prop:=∀i j,i<=j->j<k->O.kle (KN O key p j)^KN O key p i
def Xl(O:KeyOrd)(key:Nat->O.α)(N:Nat)(cmp:Nat->Nat->(Bool->Go->Prop)->Go->Prop)(s:Go):Prop:=∀(i j:Nat) (C:Bool->Go->Prop),i<N->j<N->C (O.blt (key i)^key j) s->cmp i j C s
def Bd(N:Nat)(p:Array Nat):Prop:=0<N/\∀x∈p,x<N
theorem Vr(p:Array Nat)(i:Nat):p.getD i 0=(p[i]?).getD 0:=by
 simp
theorem Bd.get(h:Bd N p)(i:Nat):p.getD i 0<N:=by
 rw[Vr];cases e:p[i]? with
 |none=>exact h.1
 |some x=>exact h.2 x^Array.mem_of_getElem? e
theorem Bd.perm(h:Bd N p)(b:a.Perm p):Bd N a:=#[h.1,λx c=>h.2 x^b.mem_iff.mp c]
theorem E7(h:p[i]?=q[j]?):KN O key p i=KN O key q j:=by
 unfold KN
 simp_all
theorem LL(f:a<p.size)(hd:d<=a)(k:Nat):
  KN O key (bubble p a d) k=if k=a - d then KN O key p a else if a - d<k/\k<=a then KN O key p (k - 1)else KN O key p k:=by
 have e:=getElem?_bubble f d hd k
 by_cases b:k=a - d
 .rw[if_pos b]at e ⊢; exact E7 e
 .rw[if_neg b]at e ⊢
  by_cases c:a - d<k/\k<=a
  .rw[if_pos c]at e ⊢; exact E7 e
  .rw[if_neg c]at e ⊢; exact E7 e
theorem HH(b:j<=p.size)(k:Nat):KN O key (kas_rev p i j) k=if i<=k/\k<j then KN O key p (i+j - 1 - k)else KN O key p k:=by
 have e:=getElem?_mirror_all (i:=i) b k
 by_cases a:i<=k/\k<j
 .rw[if_pos a]at e ⊢; exact E7 e
 .rw[if_neg a]at e ⊢; exact E7 e
theorem Bw(a:j<=p.size)(b:∀k,i<=k->k<j->KN O key p k=KN O key p (j - 1))(k:Nat):KN O key (kas_rev p i j) k=KN O key p k:=by
 rw[HH a]
 grind
theorem Cd(p:Array Nat)(i j:Nat):(kas_rev p i j).Perm p:=mirror_perm _ _ _ _
theorem yes{a b:KasT c}(h:a.kasWp cmp Q s):(if p_=p_ then a else b).kasWp cmp Q s:=by simp_all
theorem no{b a:KasT c}(h:a.kasWp cmp Q s):(if q_=p_ then b else a).kasWp cmp Q s:=by simp_all
theorem O5(q:Xl O key N cmp s)(d:Bd N p):∀(f n:Nat),1<=n->n+f=nrem->Srt O key p n->
  (∀m,n<=m->m<=nrem->Srt O key p m->(m=nrem\/O.klt (KN O key p m)^KN O key p (m - 1))->G m s)->(kas_asc p f n).kasWp cmp G s
 |0,n,_,e,b,h=>h n (On _) (by lk) b^.inl^by omega
 | f+1,n,w,e,b,h=>by
  show cmp (p.getD n 0) (p.getD (n - 1) 0) (λc r=>(if c=p_ then KasT.ret n else kas_asc p f (n+1)).kasWp cmp G r) s;refine q _ _ _ (d.get n) (d.get _) ?_;cases a:O.blt (key^p.getD n 0)^key^p.getD (n - 1) 0 with
  |true=>exact yes^h n (On _) (by lk) b^.inr a
  | false=>
   refine no^O5 q d f (n+1) (by lk) (by lk) (λi j g x=>?_) λm y t u v=>h m (by lk) t u v
   by_cases k:j<n
   .exact b i j g k
   .have l:j=n:=by lk
    subst l
    by_cases o:i=j
    .subst o; exact iY _
    .exact lD (b i (j - 1) (by lk)^by lk) a
theorem IW(D:Xl O key N cmp s):∀(f:Nat) (p:Array Nat) (n q:Nat),p.Perm p0->Bd N p->l<=p.size->1<=n->n+f=l->cS O key p n->q+1<=n->
  (∀i,n - (q+1)<=i->i<n->KN O key p i=KN O key p (n - 1))->
  (∀g m v,g.Perm p0->Bd N g->g.size=p.size->n<=m->m<=l->cS O key g m->v+1<=m->(∀i,m - (v+1)<=i->i<m->KN O key g i=KN O key g (m - 1))->G (g,m,v) s)->(kas_desc f p n q).kasWp cmp G s
 |0,p,n,q,C,u,Q,Y,e,x,R,E,h=>h p n q C u rfl (On _) (by lk) x R E
 | f+1,p,n,q,C,u,Q,Y,e,x,R,E,h=>by
  show cmp (p.getD n 0) (p.getD (n - 1) 0) (λc S=>(if c=p_ then(if q > 0 then kas_desc f (kas_rev p (n - (q+1)) n) (n+1) 0 else kas_desc f p (n+1) 0)
   else .ask (p.getD (n - 1) 0) (p.getD n 0) λd=>if d=p_ then .ret (p,n,q)else kas_desc f p (n+1) (q+1)).kasWp cmp G S) s
  refine D _ _ _ (u.get n) (u.get _) ?_;cases o:O.blt (key^p.getD n 0)^key^p.getD (n - 1) 0 with
  | true=>
   have Z:O.klt (KN O key p n)^KN O key p (n - 1):=o
   have r:∀T:Array Nat,(∀k,KN O key T k=KN O key p k)->cS O key T (n+1):=by
    intro T W i j y hj;simp only[W,W]
    by_cases z:j<n
    .exact x i j y z
    .have A:j=n:=by lk
     subst A
     by_cases B:i=j
     .subst B; exact iY _
     .exact lD (ku Z)^x i (j - 1) (by lk)^by lk
   refine yes ?_;have U:n<=p.size:=by lk
   by_cases F:q > 0
   .rw[if_pos F]
    refine IW D f _ (n+1) 0 ((Cd _ _ _).trans C) (u.perm^Cd _ _ _) (by simp only[kas_rev_size]; exact Q) (by lk) (by lk) (r _^Bw U E) (by lk) (λi a b=>by congr 1; lk) λg m v H I J X K L M P=>h g m v H I (J.trans^kas_rev_size _ _) (by lk) K L M P
   .rw[if_neg F]
    exact IW D f _ (n+1) 0 C u Q (by lk) (by lk) (r _ λ_=>rfl) (by lk) (λi a b=>by congr 1; lk) λg m v H I J X K L M P=>h g m v H I J (by lk) K L M P
  | false=>
   refine no ?_;show cmp (p.getD (n - 1) 0) (p.getD n 0) (λd S=>(if d=p_ then KasT.ret (p,n,q)else kas_desc f p (n+1) (q+1)).kasWp cmp G S) s;refine D _ _ _ (u.get _) (u.get n) ?_;cases t:O.blt (key^p.getD (n - 1) 0)^key^p.getD n 0 with
   |true=>exact yes (h p n q C u rfl (On _) (by lk) x R E)
   | false=>
    have w:KN O key p n=KN O key p (n - 1):=nX (O:=O) t o;refine no^IW D f p (n+1) (q+1) C u Q (by lk) (by lk) (λi j y hj=>?_) (by lk) (λi a b=>?_) λg m v H I J X K L M P=>h g m v H I J (by lk) K L M P
    .by_cases z:j<n
     .exact x i j y z
     .have A:j=n:=by lk
      subst A
      by_cases B:i=j
      .subst B; exact iY _
      .rw[w]; exact x i (j - 1) (by lk)^by lk
    .rw[show n+1 - 1=n by lk]
     by_cases V:i=n
     .subst V; rfl
     .rw[w]; exact E i (by lk)^by lk
theorem Mh(e:Xl O key N cmp s)(f:p.Perm p0)(d:Bd N p)(r:a<=p.size)(g:1<=n)(t:n<=a)(k:cS O key p n)
  (h:∀m b,b.Perm p0->Bd N b->b.size=p.size->1<=m->m<=a->Srt O key b m->G (m,b) s):(kas_tail3 n a p).kasWp cmp G s:=by
 unfold kas_tail3;simp only[KasT.kasWp_bind];have c:n<=p.size:=by lk
 refine O5 e (d.perm^Cd _ _ _) _ n g (by omega) (λi j l u=>?_) λm v o q _=>h m _ ((Cd _ _ _).trans f) (d.perm^Cd _ _ _) (kas_rev_size _ _) (by lk) o q;rw[HH c,HH c,if_pos^by lk,if_pos^by lk];exact k _ _ (by omega)^by omega
theorem Hc(k:Xl O key N cmp s)(E:p.Perm p0)(F:Bd N p)(H:c<=p.size)(K:n+1<=c)(I:cS O key p (n+1))
  (h:∀m d,d.Perm p0->Bd N d->d.size=p.size->1<=m->m<=c->Srt O key d m->G (m,d) s):(kas_descPart n c p).kasWp cmp G s:=by
 unfold kas_descPart;simp only[KasT.kasWp_bind];refine IW (p0:=p0) k (c - (n+1)) p (n+1) 0 E F H (by lk) (by omega) I (by lk) (λi a b=>by grind) λd m l y z A L B C M D=>?_;have f:m<=d.size:=by lk
 show(if l > 0 then kas_tail3 m c^kas_rev d (m - (l+1)) m else kas_tail3 m c d).kasWp cmp G s
 by_cases g:l > 0
 .rw[if_pos g]
  refine Mh k ((Cd _ _ _).trans y) (z.perm^Cd _ _ _) (by simp only[kas_rev_size]; omega) (by lk) B (λi j o J=>?_) λq e r t u v w x=>h q e r t (u.trans^(kas_rev_size _ _).trans A) v w x;simp only[Bw f D,Bw f D];exact C i j o J
 .rw[if_neg g]
  exact Mh k y z (by omega) (by lk) B C λq e r t u v w x=>h q e r t (u.trans A) v w x
theorem UQ(y:Xl O key N cmp s)(z:p.Perm p0)(e:Bd N p)(H:nrem<=p.size)(W:1<=nrem)
  (h:∀m o,o.Perm p0->Bd N o->o.size=p.size->1<=m->m<=nrem->Srt O key o m->G (m,o) s):(kas_count nrem p).kasWp cmp G s:=by
 unfold kas_count;simp only[KasT.kasWp_bind];refine O5 (nrem:=nrem) y e (nrem - 1) 1 (On _) (by lk) (λi j q I=>by have:i=j:=(by lk); subst this; exact iY _) λn r t b A=>?_
 by_cases f:n=nrem
 .rw[if_pos^by simpa using f]
  exact h n p z e rfl r t b
 .rw [if_neg^by simpa using f]
  have u:O.klt (KN O key p n)^KN O key p (n - 1):=A.resolve_left f
  by_cases v:n > 1
  .rw[if_pos v]
   show cmp (p.getD 0 0) (p.getD (n - 1) 0) (λc J=>(if c=p_ then KasT.ret (n,p)else kas_descPart n nrem^kas_rev p 0 n).kasWp cmp G J) s;refine y _ _ _ (e.get _) (e.get _) ?_;cases g:O.blt (key^p.getD 0 0)^key^p.getD (n - 1) 0 with
   |true=>exact yes (h n p z e rfl r t b)
   | false=>
    have d:O.kle (KN O key p (n - 1))^KN O key p 0:=g;have w:n<=p.size:=by lk
    have a:∀k,0<=k->k<n->KN O key p k=KN O key p (n - 1):=by
     intro k _ K;have L:=b 0 k (by lk) K;have M:=b k (n - 1) (by lk) (by lk);exact nX M^lD d L
    refine no^Hc y ((Cd _ _ _).trans z) (e.perm^Cd _ _ _) (by simp only[kas_rev_size]; exact H) (by lk) (λi j q I=>?_) λP B Q R S T U V=>h P B Q R (S.trans^kas_rev_size _ _) T U V;simp only[Bw w a,Bw w a]
    by_cases C:j<n
    .rw[a i (by lk)^by lk,a j (by lk) C]; exact iY _
    .have D:j=n:=by lk
     subst D
     by_cases l:i=j
     .subst l; exact iY _
     .rw[a i (by lk)^by lk]; exact ku u
  .rw[if_neg v]
   have x:n=1:=by lk
   subst x;refine Hc y z e H (by lk) (λi j q I=>?_) h
   by_cases l:i=j
   .subst l; exact iY _
   .have E:i=0:=by lk
    have F:j=1:=by lk
    subst E; subst F
    exact ku u
theorem JE(m:Xl O key N cmp s)(g:Bd N p)(j:Srt O key p k)
  (h:∀l,l<=k->(∀i,i<l->O.kle (KN O key p i)^KN O key p k)->(∀i,l<=i->i<k->O.klt (KN O key p k)^KN O key p i)->G l s):∀(f l r:Nat),l<=r->r<=k->r - l<=f->
  (∀i,i<l->O.kle (KN O key p i)^KN O key p k)->(∀i,r<=i->i<k->O.klt (KN O key p k)^KN O key p i)->(kas_place p k f l r).kasWp cmp G s
 |0,l,r,n,d,t,b,c=>by
  have:l=r:=by lk
  subst this;exact h l d b c
 | f+1,l,r,n,d,t,b,c=>by
  unfold kas_place
  by_cases e:l≥r
  .rw[if_pos e]
   have:l=r:=by lk
   subst this;exact h l d b c
  .rw[if_neg e]
   refine m _ _ _ (g.get _) (g.get _) ?_;cases a:O.blt (key^p.getD k 0)^key^p.getD ((l+r) / 2) 0 with
   |true=>
    have o:O.klt (KN O key p k)^KN O key p ((l+r) / 2):=a;exact yes^JE m g j h f l ((l+r) / 2) (by lk) (by lk) (by omega) b λi q u=>KeyOrd.klt_of_klt_of_kle o^j _ _ q u
   |false=>
    have o:O.kle (KN O key p ((l+r) / 2))^KN O key p k:=a;exact no^JE m g j h f ((l+r) / 2+1) r (by lk) (by omega) (by omega) (λi q=>lD (j i ((l+r) / 2) (by lk)^by lk) o) c
theorem E5(y:Xl O key N cmp s)(h:∀r,r.Perm p0->Srt O key r n->G r s):∀(f:Nat) (p:Array Nat) (k:Nat),p.Perm p0->Bd N p->n<=p.size->k+f=n->Srt O key p k->(kas_bin f p k).kasWp cmp G s
 |0,p,k,t,u,z,e,d=>h p t^by simp only[←e]; exact d
 | f+1,p,k,t,u,z,e,d=>by
  rw[show kas_bin (f+1) p k=(kas_place p k k 0 k).bind λl=>kas_bin f (bubble p k (k - l)) (k+1)from rfl,KasT.kasWp_bind];refine JE y u d (λl A v w=>?_) k 0 k (T0 _) (On _) (by lk) (λi B=>by lk) λi a b=>by lk
  have g:k<p.size:=by lk
  refine E5 y h f _ (k+1) ((bubble_perm _ _ _).trans t) (u.perm^bubble_perm _ _ _) (by simp only[bubble_size]; exact z) (by lk) λi j x C=>?_;rw[LL g^by lk,LL g^by lk,show k - (k - l)=l by lk]
  by_cases m:i=l
  .rw[if_pos m]
   by_cases c:j=l
   .rw[if_pos c]; exact iY _
   .rw[if_neg c,if_pos^by lk]
    exact ku^w (j - 1) (by lk)^by lk
  .rw [if_neg m]
   by_cases o:l<i/\i<=k
   .rw[if_pos o,if_neg^by lk,if_pos^by lk]
    exact d (i - 1) (j - 1) (by lk)^by lk
   .rw[if_neg o]
    by_cases c:j=l
    .rw[if_pos c]; exact v i^by lk
    .rw[if_neg c]
     by_cases q:l<j/\j<=k
     .rw[if_pos q]
      exact d i (j - 1) (by lk)^by lk
     .rw[if_neg q]
      exact d i j x^by lk
theorem sort_ok(b:1<=n)(c:Xl O key n cmp s)(h:∀p,p.Perm^gK^gG n->Srt O key p n->G p s):(kas_sort n).kasWp cmp G s:=by
 unfold kas_sort;simp only[KasT.kasWp_bind];have f:Bd n^gK^gG n:=#[b,λx k=>by simp_all];have g:(gK^gG n).size=n:=by simp
 refine UQ c (m7 _) f (by lk) b λm d e i l o q j=>?_
 by_cases a:m<n
 .rw[if_pos a,show max m 1=m by lk]
  exact E5 c h _ d m e i (by lk) (by lk) j
 .rw[if_neg a]
  exact h d e^by grind
end
end So
namespace L2
open PySem.W
def Yh:Key->Key->Bool
 |.inl i,.inl j=>decide (i<j)
 |.inr x,.inr y=>decide (x.cps.toList<y.cps.toList)
 |.inl _,.inr _=>p_
 |.inr _,.inl _=>q_
def A6:r_ Key->r_ Key->Bool
 |[],[]=>q_
 |[],_::_=>p_
 |_::_,[]=>q_
 |x::a,y::b=>if x=y then A6 a b else Yh x y
theorem Of:∀x:Key,Yh x x=q_
 |.inl i=>decide_eq_false^Int.lt_irrefl i
 |.inr x=>decide_eq_false^jg _
theorem Q0:∀x y z:Key,Yh x y=p_->Yh y z=p_->Yh x z=p_
 |.inl i,.inl j,.inl k,a,b=>decide_eq_true^Int.lt_trans (of_decide_eq_true a)^of_decide_eq_true b
 |.inr i,.inr j,.inr k,a,b=>decide_eq_true^List.lt_trans (of_decide_eq_true a)^of_decide_eq_true b
 |.inl i,.inl j,.inr k,_,_=>rfl
 |.inl i,.inr j,.inr k,_,_=>rfl
 |.inl i,.inr j,.inl k,_,h=>by cases h
 |.inr i,.inl j,_,h,_=>by cases h
 |.inr i,.inr j,.inl k,_,h=>by cases h
theorem Q1:∀x y:Key,Yh x y=q_->Yh y x=q_->x=y
 |.inl i,.inl j,c,d=>congrArg _^by have a:=of_decide_eq_false c; have b:=of_decide_eq_false d; lk
 |.inr x,.inr y,c,d=>by
  have e:=List.le_antisymm (of_decide_eq_false d)^of_decide_eq_false c;let#[u]:=x
  simp_all
 |.inl i,.inr j,h,_=>by cases h
 |.inr i,.inl j,_,h=>by cases h
theorem Bn:∀x:r_ Key,A6 x x=q_
 |[]=>rfl
 |x::a=>by unfold A6; rw[if_pos rfl]; exact Bn a
theorem B7:∀x y z:r_ Key,A6 x y=p_->A6 y z=p_->A6 x z=p_
 |[],[],_,h,_=>by cases h
 |[],_::_,[],_,h=>by cases h
 |[],_::_,_::_,_,_=>rfl
 |_::_,[],_,h,_=>by cases h
 |_::_,_::_,[],_,h=>by cases h
 | x::f,y::g,z::i,a,b=>by
  unfold A6 at a b ⊢
  by_cases d:x=y
  .subst d
   rw[if_pos rfl]at a
   by_cases c:x=z
   .subst c
    rw[if_pos rfl]at b ⊢;exact B7 f g i a b
   simp_all
  .rw[if_neg d]at a
   by_cases c:y=z
   .grind
   .rw[if_neg c]at b
    have e:=Q0 x y z a b
    by_cases j:x=z
    .subst j
     rw[Of]at e;cases e
    simp_all
theorem B8:∀x y:r_ Key,A6 x y=q_->A6 y x=q_->x=y
 |[],[],_,_=>rfl
 |[],_::_,h,_=>by cases h
 |_::_,[],_,h=>by cases h
 | x::c,y::d,a,b=>by
  unfold A6 at a b
  by_cases e:x=y
  .subst e
   rw[if_pos rfl]at a b;rw[B8 c d a b]
  .rw[if_neg e]at a
   rw[if_neg λz=>e z.symm]at b;exact absurd (Q1 x y a b) e
def Qn:KeyOrd:=#[r_ Key,A6,Bn,B7,λa b c h=>by
 cases e:A6 a b with
 |true=>exact .inl rfl
 |false=>
  cases d:A6 b a with
  |true=>exact .inr^B7 b a c d h
  |false=>rw[←B8 a b e d]; exact .inr h,B8]
theorem FA:∀x y:r_ Key,CO x y=p_->Ei x y=A6 x y
 |[],[],_=>rfl
 |[],_::_,_=>rfl
 |_::_,[],_=>rfl
 | x::b,y::c,h=>by
  have a:(Kg x y&&CO b c)=p_:=h;simp only[ZB]at a;unfold Ei A6
  by_cases e:x=y
  .rw[if_pos e,if_pos e]; exact FA b c a.2
  .rw[if_neg e,if_neg e]
   cases x with
   |inl i=>cases y with
    |inl j=>rfl
    |inr z=>cases a.1
   |inr i=>cases y with
    |inl j=>cases a.1
    |inr z=>rfl
section

theorem Tf:∀(a c:r_ Key) (k l:r_ Db) (i:Nat),qQ (a.map kOf) k->qQ (c.map kOf) l->CO a c=p_->a.length+j=c.length+h->Q (Ei a c) s->
  KatLex prog w A b (decide (h<j)) Q (k.zip l) i s
 |[],[],k,l,i,o,p,_,g,q=>by
  cases o;cases p;refine kat_nil ?_;rw[show decide (h<j)=q_ from decide_eq_false^by simp only[hZ]at g; lk];exact q
 |[],m::c,k,l,i,o,p,_,g,q=>by
  cases o;simp only[List.zip_nil_left];refine kat_nil ?_;rw[show decide (h<j)=p_ from decide_eq_true^by simp only[hZ,eq]at g; lk];exact q
 |n::a,[],k,l,i,o,p,_,g,q=>by
  cases p;rw[List.zip_nil_right];refine kat_nil ?_;rw[show decide (h<j)=q_ from decide_eq_false^by simp only[hZ,eq]at g; lk];exact q
 | n::a,m::c,k,l,i,o,p,F,g,q=>by
  have d:(Kg n m&&CO a c)=p_:=F;simp only[ZB]at d;have f:Q (if n=m then Ei a c else cr n m) s:=q;cases o with
  | @cons _ u _ r t G=>
   cases p with
   | @cons _ v _ B C H=>
    simp only[kZ];have D:n=m->KatLex prog w A b (decide (h<j)) Q (r.zip B) (i+1) s:=λe=>Tf a c r B (i+1) G H d.2 (by simp only[eq]at g; lk) (by rw[if_pos e]at f; exact f);cases n with
    | inl x=>
     cases m with
     |inr y=>cases d.1
     | inl y=>
      let#[I,rfl]:=t;let#[J,rfl]:=C;refine kat_cons^wpAny_eqBool_int ?_
      by_cases e:x=y
      .rw[show(x==y)=p_ by simpa using e]
       exact kat_yes^D^by rw[e]
      .rw[show(x==y)=q_ by simpa using e]
       refine kat_no ?_;rw[if_neg λz=>e^Sum.inl.inj z]at f;cases K:(b&&i==0)with
       |true=>exact oneLt_int f
       |false=>exact kat_one _ _^m_ (show PySem.W.BoolBack Q (.bool (decide (x<y))) s from f)
    | inr x=>
     cases m with
     |inl y=>cases d.1
     | inr y=>
      let#[I,rfl]:=t;let#[J,rfl]:=C;refine kat_cons^wpAny_eqBool_str ?_
      by_cases e:x=y
      .rw[show decide (x=y)=p_ by simpa using e]
       exact kat_yes^D^by rw[e]
      .rw[show decide (x=y)=q_ by simpa using e]
       refine kat_no ?_;rw[if_neg λz=>e^im z]at f;cases K:(b&&i==0)with
       |true=>exact oneLt_str f
       |false=>exact kat_one _ _^PySem.P.lt_str (show PySem.W.BoolBack Q (.bool (decide (x.cps.toList<y.cps.toList))) s from f)
structure QL (h:fz) (ks:List Db) (keys:List^List Key):Prop where
 at_:∀(i:Nat) (ns:List Key),keys[i]?=P3 ns->∃a o its n,ks[i]?=P3^.ref a/\h.get? a=P3 o/\o.cls=.type "tuple"/\o.data=.seq its n/\qQ (ns.map kOf) its.toList
 len:ks.length=keys.length
 same:∀x∈keys,∀y∈keys,CO x y=p_
 ne:∀x∈keys,x≠[]
def ci:Key->String
 |.inl _=>"int"
 |.inr _=>"str"
theorem firsts:∀(g:r_ Db) (b:r_^r_ Key) (T:String),g.length=b.length->(∀(i:Nat) (u:r_ Key),b[i]?=P3 u->∃a o c n,g[i]?=P3^.ref a/\h.get? a=P3 o/\o.cls=.type "tuple"/\o.data=.seq c n/\qQ (u.map kOf) c.toList)->
  (∀x∈b,∃k r,x=k::r/\ci k=T)->∃j:r_ Db,KatTups h g j/\j.length=b.length/\∀v∈j,typeOf v=pure^.type T
 |[],[],T,_,_,_=>#[[],trivial,rfl,λv l=>by cases l]
 |[],_::_,T,m,_,_=>by cases m
 |_::_,[],T,m,_,_=>by cases m
 | k::g,x::b,T,m,z,B=>by
  let#[j,F,G,H]:=firsts g b T (by simpa using m) (λi u e=>by
   let#[a,o,c,n,p,r]:=z (i+1) u (by simpa using e);exact#[a,o,c,n,by simpa using p,r]) λy I=>B y^TM _ I
  let#[a,o,c,n,p,J,K,L,q]:=z 0 x rfl;have p:k=.ref a:=by simpa using p
  subst p;let#[k,r,rfl,C]:=B x Op;rw[gJ]at q;cases d:c.toList with
  |nil=>simp only[d]at q; cases q
  | cons f M=>
   simp only[d]at q;cases q with
   | cons D N=>
    refine#[f::j,KatTups.cons J K L (by rw[←Array.getElem?_toList,d]; rfl) F,by simp only[eq,eq,G],λv l=>?_]
    rcases TW.mp l with rfl|l
    .cases k with
     |inl i=>let#[t,rfl]:=D; subst C; rfl
     |inr i=>let#[t,rfl]:=D; subst C; rfl
    .exact H v l
theorem Ka(K:QL s.heap c keys)(h2:2<=c.length)(h:∀p,p.Perm^gK^gG c.length->So.Srt Qn (λi=>keys.getD i []) p c.length->G p s):
  wpAny (model prog w) A (keyKind' c.toArray) (λN P=>(kas_sort c.length).kasWp (kas_ask prog w A N c) G P) (λ_ _=>False) s:=by
 obtain⟨f,I,Q⟩:∃f I,keys=f::I:=by
  cases e:keys with
  |nil=>have:=K.len; rw[e]at this; simp only[hZ]at this; lk
  |cons x r=>exact#[x,r,rfl]
 have J:f∈keys:=by rw[Q]; exact Op
 obtain⟨m,R,S⟩:∃k r,f=k::r:=by
  cases e:f with
  |nil=>exact absurd e^K.ne f J
  |cons k r=>exact#[k,r,rfl]
 have y:∀x∈keys,∃k r,x=k::r/\ci k=ci m:=λx L=>by
  cases e:x with
  |nil=>exact absurd e^K.ne x L
  | cons k r=>
   exists k,r,rfl;have b:=K.same x L f J;simp only[e,S]at b;have b:(Kg k m&&CO r R)=p_:=b;simp only[ZB]at b;cases k with
   |inl i=>cases m with
    |inl j=>rfl
    |inr j=>cases b.1
   |inr i=>cases m with
    |inl j=>cases b.1
    |inr j=>rfl
 let#[fs,z,B,T]:=firsts c keys (ci m) K.len K.at_ y;refine kat_kind z (by simp only[B,←K.len]; lk) (λv U=>by simp only[T v U]; exact Looks.now) (by simp) ?_;refine So.sort_ok (O:=Qn) (key:=λi=>keys.getD i []) (by lk) (λi j C V W X=>?_) h;have g:i<keys.length:=by rw[←K.len]; exact V
 have l:j<keys.length:=by rw[←K.len]; exact W
 let#[a,o,q,n,Y,Z,e3,e4,M]:=K.at_ i keys[i] (FM g);let#[a',o',d,n',D,F,a0,H,t]:=K.at_ j keys[j] (FM l);unfold kas_ask;rw[show c.getD i gO=.ref a by rw[gN,Y]; rfl,show c.getD j gO=.ref a' by rw[gN,D]; rfl];have b:=K.same _ (gH g) _^gH l;refine kat_lt Z e4 F H (Tf keys[i] keys[j] _ _ 0 M t b ?_ ?_)
 .have l1:=M.length
  have l2:=t.length;have l3:(keys[i].map kOf).length=keys[i].length:=No ..;have l4:(keys[j].map kOf).length=keys[j].length:=No ..;have l5:q.toList.length=q.size:=iW;have l6:d.toList.length=d.size:=iW;lk
 .rw[FA _ _ b]
  have z:keys.getD i []=keys[i]:=by rw[gN,FM g]; rfl
  have B:keys.getD j []=keys[j]:=by rw[gN,FM l]; rfl
  have u:C (A6 (keys.getD i [])^keys.getD j []) s:=X;simp only[z,B]at u;exact u
theorem F9(e:argsOk "sorted" #[[v],c])(f:∀x,argsOk "list.sort" #[[.ref x],c])
  (k:wpAny (model prog w) A.in1 (collect v) (λg a=>g.length<=sizeLine/\wpAny (model prog w) A.in1.in1 (iU.«list.sort» #[[.ref a.heap.objs.size],c]) (λb i=>b=.done^.ret .none/\Q (.ref a.heap.objs.size) i) E {a with heap:=a.heap.push^seqObj "list" g.toArray 0}) E s):
  wpAny (model prog w) A (call (.builtin "sorted") [v] c) Q E s:=call_function_entry_kw kind_sorted plain_sorted entry_sorted e^Cn^Sc^Cn^gQ k (λg a h=>Cn^mH (Cn^gU^wpAny_call_entry_kw PyProof.Rows.slot_list_sort #[_,UF _ rfl,rfl] PyProof.Rows.entry_list_sort (gQ h.2 (λb i j=>#[_,j.1,Sc #[_,rfl,j.2]]) λ_ _ x=>x)^f _) h.1) λ_ _ x=>x
def Du(h:fz)(D:Ch)(a:r_ Db):fz:=((h.update D^gs λ_=>(#[]:Array Db)).push^seqObj "tuple" a.toArray 0).push^seqObj "list" #[] 0
theorem Gx(c:b≠D)(e:h.get? b=P3 o):(Du h D a).get? b=P3 o:=
 Ev _ (Ev _^(fm _ _^gf c).trans e)
theorem Iy(d:h.get? D=P3^seqObj "list" c.toArray n):∃a,(Du h D c).get? D=P3^seqObj "list" #[] a/\(h.update D^gs λ_=>(#[]:Array Db)).get? D=P3^seqObj "list" #[] a:=by
 obtain⟨a,b⟩:∃a,(h.update D _).get? D=P3^seqObj _ _ a:=#[_,jw d _];exact#[a,Ev _^Ev _ b,b]
theorem NE{G:Array Nat->Prop}(r:s.heap.get? D=P3^seqObj "list" a.toArray n)(t:a.length<64)
  (u:2<=a.length->wpAny (model prog w) A (keyKind' a.toArray) (λJ k=>(kas_sort a.length).kasWp (kas_ask prog w A J a) (λp v=>v={s with heap:=Du s.heap D a}/\G p) k) (λ_ _=>False) {s with heap:=Du s.heap D a})
  (L:a.length<2->G^gK^gG a.length) (l:∀(p:Array Nat) (y:fz) (c:Nat),p.size=a.length->G p->(∀b o,b≠D->s.heap.get? b=P3 o->y.get? b=P3 o)->y.get? D=P3^seqObj "list" (gK^p.toList.map λi=>a.getD i gO) c->P (.done^.ret .none) {s with heap:=y}):
  wpAny (model prog w) A (iU.«list.sort» #[[.ref D],[]]) P E s:=by
 let#[V,d,z]:=Iy r
 have m:∀(p:Array Nat),p.size=a.length->G p->P (.done^.ret .none) {s with heap:=(Du s.heap D a).update D^gs λ_=>gK^p.toList.map λi=>a.getD i gO}:=λp q B=>by
  obtain⟨C,F⟩:∃C,((Du s.heap D a).update D^gs λ_=>gK^p.toList.map λi=>a.getD i gO).get? D=P3^seqObj "list" (gK^p.toList.map λi=>a.getD i gO) C:=#[_,jw d λ_=>gK^p.toList.map λi=>a.getD i gO];exact l p _ C q B (λb o K e=>(fm _ _^gf K).trans^Gx K e) F
 rw[list_sort_plain];refine Cn (lR r rfl ?_);refine Cn (jV r rfl ?_ (by rw[fk,gn]; omega) (T0 _));refine Cn (lj z rfl ?_);refine Cn (wpAny_newTuple ?_^by show a.length<=_; rw[gn]; omega);refine Cn^mH ?_^T0 _;refine gU ?_;show wpAny (model prog w) A _ P E {s with heap:=Du s.heap D a}
 dsimp only
 by_cases H:a.length<2
 .have f:a.toArray.size<2:=by rw[fk]; exact H
  rw[if_pos f,if_pos f];refine Cn^Sc ?_;rw[StateT.run_pure];refine Cn^Sc ?_
  dsimp only
  refine Cn (lj d rfl ?_);have h:(gK^gG a.length).size=a.length:=by simp
  have g:(arrOf^SortSt.mk' general' (a.toArray.zip a.toArray) #[] 7 o_).map (·.2)=gK ((gK^gG a.length).toList.map λi=>a.getD i gO):=by
   refine kat_snds rfl ?_;have e:=kas_range^a.toArray.zip a.toArray;rw[show(a.toArray.zip a.toArray).size=a.length by simp]at e;exact e.symm
  rw[g];refine Cn (jV d rfl ?_ (T0 _) (by rw[fk,No,iW,h,gn]; lk));simp only[bne_self_eq_false,ig,if_false];exact Sc^m _ h^L H
 .have f:¬a.toArray.size<2:=by rw[fk]; exact H
  rw[if_neg f,if_neg f];refine Cn^gQ (u^by lk) (λJ W u=>?_) λ_ _ x=>x.elim
  refine Cn (gQ (kat_run (Q:=λj k=>∃p:Array Nat,p.size=a.length/\arrOf j=p.map^kas_item^a.toArray.zip a.toArray/\failedOf j=o_/\k={s with heap:=Du s.heap D a}/\G p)
   rfl (by lk) t (λN j k O R S T=>#[N,O,R,S,T]) u) ?_ λ_ _ e=>e)
  rintro⟨⟨⟩,j⟩ k ⟨p,q,I,U,rfl,B⟩
  dsimp only
  have g:=kat_snds rfl I;have h:(gK^p.toList.map λi=>a.getD i gO).size=a.length:=by simp only[fk,No,iW,q]
  rw[g];refine Cn (lj d rfl ?_);refine Cn (jV d rfl ?_ (T0 _) (f_ (me h)^by rw[gn]; lk));rw[U];simp only[bne_self_eq_false,ig,if_false];exact Sc^m p q B
theorem Q2(U:s.heap.get? D=P3^seqObj "list" a.toArray n)(Y:a.length<64)(J:r_ Db->Go->Prop)(h:Ch)(M:h=s.heap.objs.size+1)
  (h0:∀r,(Du s.heap D a).get? D=P3^seqObj "list" #[] r->J [] {s with heap:=Du s.heap D a})
  (z:∀(d:r_ Db) (g:Go) (e:Nat) (v:Db),J d g->g.heap.get? h=P3^seqObj "list" d.toArray e->a[d.length]?=P3 v->wpAny (model prog w) A (call f [v]) (λk l=>l.heap.get? h=P3^seqObj "list" d.toArray e/\J (d++[k]) {l with heap:=l.heap.update h (gs (·.push k))}) (λ_ _=>False) g)
  (N:∀(r:Nat),(Du s.heap D a).get? D=P3^seqObj "list" #[] r->∀(d:r_ Db) (g:Go),J d g->d.length=a.length->g.heap.get? D=P3^seqObj "list" #[] r/\∃G:Array Nat->Prop,
   (2<=a.length->wpAny (model prog w) A (keyKind' d.toArray) (λκ O=>(kas_sort a.length).kasWp (kas_ask prog w A κ d) (λp l=>l=g/\G p) O) (λ_ _=>False) g)/\(a.length<2->G^gK^gG a.length) /\
   ∀(p:Array Nat) (V:fz) (c:Nat),p.size=a.length->G p->(∀b o,b≠D->b≠h->g.heap.get? b=P3 o->V.get? b=P3 o)->V.get? D=P3^seqObj "list" (gK^p.toList.map λi=>a.getD i gO) c->(∃o,V.get? h=P3 o)->P (.done^.ret .none) {g with heap:=V}):
  wpAny (model prog w) A (ksk_tree D f q_) P E s:=by
 let#[r,R,Z]:=Iy U;have u:((s.heap.update D^gs λ_=>(#[]:Array Db)).push^seqObj "tuple" a.toArray 0).objs.size=h:=by simp only[size_push',Heap.size_update,M]
 have hD:D<s.heap.objs.size:=Tk U;have S:D≠h:=by simp only[M]; exact f9^iV hD
 have a0:(Du s.heap D a).get? h=P3^seqObj "list" #[] 0:=by rw[←u]; exact UF _ rfl
 unfold ksk_tree;refine Cn (lR U rfl ?_);refine Cn (jV U rfl ?_ (by rw[fk,gn]; omega) (T0 _));refine Cn (lj Z rfl ?_);refine Cn (wpAny_newTuple ?_^by show a.length<=_; rw[gn]; omega);refine Cn^mH ?_^T0 _;refine gU ?_;show wpAny (model prog w) A (ksk_rest D f q_ a.toArray r^.ref ((s.heap.update D^gs λ_=>(#[]:Array Db)).push^seqObj "tuple" a.toArray 0).objs.size) P E {s with heap:=Du s.heap D a};rw[u];unfold ksk_rest;refine Cn^kE ?_
 first
  |rw[List.forIn_toArray]
  |(rw[←Array.forIn_toList]; simp only[List.toList_toArray])
  |rw[←Array.forIn_toList]
 refine Cn^ksk_fold (I:=λi g=>∃d e,jG d=i/\J d g/\g.heap.get? h=P3^seqObj "list" d.toArray e) a 0 _ #[[],0,rfl,h0 r R,a0] (λj x g hx hI=>?_) λg hI=>?_
 .let#[d,e,t,hJ,C]:=hI
  have hj:j<a.length:=(XV.mp hx).1;have t:d.length=j:=by lk
  refine Cn^lA^gQ (z d g e x hJ C^by rw[t]; exact hx) (λk l F=>?_) λ_ _ hF=>hF.elim;have ea:(gK d).push k=gK (d++[k]):=by simp
  obtain⟨H,K⟩:∃H,(l.heap.update h (gs (·.push k))).get? h=P3^seqObj "list" (gK (d++[k])) H:=#[_,by simp only[←ea]; exact jw F.1 (·.push k)]
  try dsimp only
  refine Cn (jV F.1 rfl ?_ (by simp only[fk,gn]; omega) (f_ (me (Array.size_push ..))^by rw[fk,gn]; omega));exact Sc #[rfl,d++[k],H,by simp only[fh,gC]; lk,F.2,K]
 .let#[d,e,t,hJ,C]:=hI
  have t:d.length=a.length:=by lk
  let#[a5,G,g2,g1,g3]:=N r R d g hJ t
  try dsimp only
  refine Cn (lR C rfl ?_)
  have y:∀(W:SortSt) (p:Array Nat),p.size=a.length->G p->(arrOf W).map (·.2)=gK (p.toList.map λi=>a.getD i gO)->failedOf W=o_->wpAny (model prog w) A (ksk_tail D q_ r (.ref h) W) P E g:=λW p X hg T hf=>by
   have a6:(gK^p.toList.map λi=>a.getD i gO).size=a.length:=by simp only[fk,No,iW,X]
   obtain⟨ck,a7⟩:∃ck,(g.heap.update h^gs λ_=>(#[]:Array Db)).get? h=P3^seqObj "list" #[] ck:=#[_,jw C λ_=>#[]];have L:(g.heap.update h^gs λ_=>(#[]:Array Db)).get? D=P3^seqObj "list" #[] r:=(fm _ _^gf S).trans a5;obtain⟨H,K⟩:∃H,((g.heap.update h^gs λ_=>(#[]:Array Db)).update D^gs λ_=>gK^p.toList.map λi=>a.getD i gO).get? D=P3^seqObj "list" (gK^p.toList.map λi=>a.getD i gO) H:=#[_,jw L λ_=>gK^p.toList.map λi=>a.getD i gO];unfold ksk_tail
   try dsimp only
   rw[T];refine Cn (jV C rfl ?_ (by simp only[fk,gn]; lk) (T0 _));refine Cn^jy ?_;refine Cn (lj L rfl ?_);refine Cn (jV L rfl ?_ (T0 _) (f_ (me a6)^by rw[gn]; lk));simp only[hf];simp only[bne_self_eq_false,ig,if_false];refine Sc^g3 p _ H X hg (λb o a8 a9 e=>(fm _ _^gf a8).trans^(fm _ _^gf a9).trans e) K #[_,(fm _ _ S).trans a7]
  unfold ksk_end
  try dsimp only
  simp only[ig,if_false]
  by_cases h2:a.length<2
  .have m:a.toArray.size<2:=by rw[fk]; exact h2
   rw[if_pos m,if_pos m];refine Cn^Sc ?_;simp only[StateT.run_pure];refine Cn^Sc ?_
   try dsimp only
   refine y _ (gK^gG a.length) (by simp) (g1 h2) (kat_snds t ?_) rfl;have er:=kas_range^d.toArray.zip a.toArray;rw[show(d.toArray.zip a.toArray).size=a.length by simp[t]]at er;exact er.symm
  .have m:¬a.toArray.size<2:=by rw[fk]; exact h2
   rw[if_neg m,if_neg m];refine Cn^gQ (g2^by lk) (λκ s0 C=>?_) λ_ _ x=>x.elim
   refine Cn (gQ (kat_run (Q:=λq O=>∃p:Array Nat,p.size=a.length/\arrOf q=p.map^kas_item^d.toArray.zip a.toArray/\failedOf q=o_/\O=g/\G p)
    t (by lk) Y (λp' q O a1 a2 a3 a4=>#[p',a1,a2,a3,a4]) C) ?_ λ_ _ e=>e)
   rintro⟨⟨⟩,q⟩ O ⟨p,X,b0,hf,rfl,hg⟩
   try dsimp only
   exact y q p X hg (kat_snds t b0) hf
end
section

structure Rn (X:Cx) (zG:List (Ch×Obj)) (D:Ch):Prop where
 new:X.s₀.heap.objs.size<=D
 loc:D≠X.env.locals
 cell:∀x c,X.env.cells.lookup x=P3 c->c≠D
 pin:∀p∈X.pn++zG,p.1≠D
 fs:D∉X.fs
theorem Inv.mine(I:Inv X zG σ H s)(h:s.heap.objs.size<=D):Rn X zG D:=by
 refine#[f_ I.sz h,λz=>?_,λx c e z=>?_,λp a z=>?_,I.nofs h]
 .have:=I.lt
  rw[←z]at this;exact absurd this^kg.mpr h
 .let#[v,o,b,_]:=I.cell x c e
  have:=Tk b
  rw[z]at this;exact absurd this^kg.mpr h
 .let#[e,_]:=I.pin p a
  have:=Tk e
  rw[z]at this;exact absurd this^kg.mpr h
structure zF (K:Frag) (H:Hp) (vs:List V) (keys:List^List Key):Prop where
 len:vs.length=keys.length
 at_:∀(i:Nat) (ns:List Key),keys[i]?=P3 ns->∃a,vs[i]?=P3^.ref a/\SqT K H a (ns.map kOf)
 same:∀x∈keys,∀y∈keys,CO x y=p_
 ne:∀x∈keys,x≠[]
def LK(keys:r_^r_ Key)(a:r_ Nat):Prop:=a.Perm^gG keys.length/\∀i j,i<=j->j<keys.length->A6 (keys.getD (a.getD j 0) [])^keys.getD (a.getD i 0) []=q_
theorem zF.qI(I:Inv X zG σ H s)(r:qQ c d)(k:zF X.K H c keys)(f:∀b o,s.heap.get? b=P3 o->h'.get? b=P3 o):QL h' d keys:=by
 refine#[λi g e=>?_,r.length.symm.trans k.len,k.same,k.ne];let#[a,h,j]:=k.at_ i g e;let#[u,l,m]:=r.get h;subst m;let#[p,w,#[o,q,t,n,v],_]:=I.tuple j;exact#[a,o,_,n,l,f a o q,t,v,by simp_all]
theorem Gs:∀{a:r_ V}{b:r_ Db},qQ a b->∀i:Nat,RelV (a.getD i .non)^b.getD i gO
 |_,_,.nil,i=>by simp[RelV]
 |_,_,.cons r t,0=>by simpa using r
 |_,_,.cons r t,i+1=>by simpa using Gs t i
theorem Ik(h:∀i,RelV (f i)^g i):∀a:r_ Nat,qQ (a.map f)^a.map g
 |[]=>.nil
 |i::a=>.cons (h i)^Ik h a
theorem getD_list(p:Array Nat)(i:Nat):p.getD i 0=p.toList.getD i 0:=by simp
theorem TQ(b:keys.length=n)(c:p.Perm^gK^gG n)(d:So.Srt Qn (λi=>keys.getD i []) p n):LK keys p.toList:=by
 subst b;refine#[Array.perm_iff_toList_perm.mp c,λi j a e=>?_];have h:=d i j a e;unfold So.KN at h;rw[getD_list,getD_list]at h;exact h
theorem Qb(I:Inv X zG σ H s)(r:qQ d f)(B:d.length<64)(k:zF X.K H d keys)
  (q:∀(v:r_ Nat) (l:Ch),LK keys v->H l=o_->Q (.ref l)^Al H l^.lst^v.map λi=>d.getD i .non):
  wpAny (model X.prog X.w) z (iU.«list.sort» #[[.ref s.heap.objs.size],[]]) (λm C=>m=.done^.ret .none/\EP X zG σ Q (.ref s.heap.objs.size) C) A {s with heap:=s.heap.push^seqObj "list" f.toArray 0}:=by
 have x:=r.length;have t:keys.length=f.length:=k.len.symm.trans x;refine NE (G:=λp=>p.Perm _/\So.Srt Qn (λi=>keys.getD i []) p f.length) (n:=0) (UF _ rfl) (by lk) (λD=>?_) (λL=>#[m7 _,λi j E M=>?_]) λp h' c N y g F=>#[rfl,?_]
 .refine Ka (keys:=keys) (k.qI I r λb o e=>?_) D λp a b=>#[rfl,a,b]
  exact Gx (f9^Tk e)^Ev _ e
 .have:i=j:=by lk
  subst this;exact iY _
 .have J:H s.heap.objs.size=o_:=I.fresh
  have u:(p.toList.map λi=>d.getD i .non).length=f.length:=by simp_all
  refine#[.ref s.heap.objs.size,Al H s.heap.objs.size^.lst _,I.laid (t':=s.toks) (λb o e=>g b o (f9^Tk e)^Ev _ e) (On _) #[by simp only[u,←x,gn]; lk,_,c,Ik (Gs r) p.toList,F],rfl,q _ _ (TQ t y.1 y.2) J]
theorem Nf(e:IsTup s.heap l b.toArray)
  (h:Q b {s with heap:=(s.heap.push^seqObj "list" #[] 0).update s.heap.objs.size (gs (·++b.toArray))}) (g:b.length<=sizeLine):
  wpAny (model c w) A (collect^.ref l) Q E s:=by
 let#[o,i,j,n,k]:=id e;unfold collect;refine Cn^wpAny_runValue^h8 entry_proto_collect' ?_;show wpAny _ _ (do again (.builtin "list.__iadd__" #[[←newList [],.ref l],[]])) _ _ s;refine Cn^mH^Sc #[ju _ (by decide +kernel),h8 entry_list_iadd' ?_];show wpAny _ _ (jL (.ref s.heap.objs.size) (.ref l)^.ref s.heap.objs.size) _ _ {s with heap:=s.heap.push^seqObj "list" #[] 0};unfold jL;have d:(s.heap.push^seqObj "list" #[] 0).get? l=P3 o:=Ev _ i;refine Cn^jI (T:="tuple") #[o,d,j] ?_;have m:(gR "tuple"==gR "tuple")=p_:=by rfl
 rw[if_pos^by rw[m]; simp];refine Cn^lR d k ?_;refine Cn (lR (xs:=#[]) (n:=0) (UF _ rfl) rfl ?_);rw[if_neg^by simp];refine Cn (jV (xs:=#[]) (n:=0) (UF _ rfl) rfl ?_ (T0 _) (by show(#[]++b.toArray).size<=sizeLine+1; simp only[Array.size_append,fk,hZ]; lk));refine Sc ?_
 show wpAny (model c w) A (do
   let o ←load s.heap.objs.size
   match o.data with
   |.seq xs _=>pure xs.toList
   |_=>unsupported "internal:collect") Q E {s with heap:=(s.heap.push^seqObj "list" #[] 0).update s.heap.objs.size (gs (·++b.toArray))}
 refine Cn^wpAny_load (jw (UF _ rfl) _) ?_;show wpAny _ _ (pure ((#[]:Array Db)++b.toArray).toList) Q E _;rw[show((#[]:Array Db)++b.toArray).toList=b by simp];exact Sc h
theorem Nh{h:fz}(e:h.get? b=P3 o):((h.push^seqObj "list" #[] 0).update h.objs.size^gs g).get? b=P3 o:=
 (fm _ _^gf^f9^Tk e).trans (Ev _ e)
theorem Ng(I:Inv X zG σ H s)(h:SqK g X.K H p c)(q:∀i j,qQ c i->c.length<=sizeLine->Inv X zG σ H j->Q i j):
  wpAny (model X.prog X.w) k (collect^.ref p) Q l s:=by
 cases g with
 |true=>
  let#[d,r,f,a]:=I.list h;exact collect_list f.isList (q _ _ r a^I.kept λb o e=>Nh e)^by rw[←r.length]; exact a
 |false=>
  let#[d,r,f,a]:=I.tuple h;exact Nf f (q _ _ r a^I.kept λb o e=>Nh e)^by rw[←r.length]; exact a
def Sl(K:Frag):r_ V->Hp->VK->Prop:=λc H Q=>∃(d:Bool) (p:Ch) (a:r_ V) (keys:r_^r_ Key),c=[.ref p]/\SqK d K H p a/\a.length<64/\zF K H a keys /\
 ∀(b:r_ Nat) (l:Ch),LK keys b->H l=o_->Q (.ref l)^Al H l^.lst^b.map λi=>a.getD i .non
theorem Fz:CL X (.builtin "sorted")^Sl X.K:=by
 intro zG s σ H k d Q I r h;let#[l,p,m,b,rfl,e,a,f,q]:=h;let#[u,rfl,g]:=vals1 r;subst g;exact F9 (args_sorted1 _) (λx=>args_list_sort _)^Ng I e λd n c i j=>#[by rw[←c.length]; exact i,Qb j c a f q]
end
section

theorem VD(hc:X.calm=p_)(N':r_ Str)(js:r_^s_ Nat)(hi:PI X tg iter wi)
  (hB:Ge sc X.env.scope X.N N' js=p_) (hN:X.N.Nodup) (a0:X.N[i]?=P3 x) (hx:Loc X.env.scope x)
  (a1:swapsWith (.ListComp elt [#[tg,iter,ifs,0]] sc pos) (P3^.Name x pos') spos.line X.env=pure p_)
  (hs:∀x,foldedSetIterable iter X.env x=pure x:=by intro _; rfl)
  (hf:X.fn x=p_\/X.env.scope.names.lookup x=P3 .local:=by first|exact .inl rfl|exact .inr rfl|assumption):
  PS X (.Assign [.Name x pos'] (.ListComp elt [#[tg,iter,ifs,0]] sc pos) spos) (Mi (SU X sc N' js tg elt ifs wi)^HW i):=by
 intro M s Z H D I h;have O:zq X sc N' js:=zq.of hB;let#[P,t,a2,R]:=Jn (scope:=sc) (env:=X.env) λx hx=>I.ok.has x^O.free x hx;rw[exec_Assign_Name_used _ _ _ _ a1];refine Cn^kM^Cn ?_;show wpAny _ _ (do let _ ←comprehension (.ListComp elt [#[tg,iter,ifs,0]] sc pos) sc X.env _ (newList []) q_ (eval iter X.env)^P3^assign (.Name x pos') X.env) _ _ s
 refine Cn (gQ (wpAny_comprehension_free (Q:=λ_ p=>SP X M D .next p) (use:=P3^assign (.Name x pos') X.env) rfl hs t O.kind O.names (thn (hi M s Z H _ I h) λv s1 h1=>thn h1 λa5 c h2=>?_))
  (λ_ p hq=>Sc^Sc hq) λ_ _ e=>e)
 let#[it,fp,tn,J,H2,e,G,T,u,f2,hq]:=h2;subst e
 have B:X.K.lookup c.heap.objs.size=o_:=by
  cases q:X.K.lookup c.heap.objs.size with
  |none=>rfl
  |some o=>exact absurd (Tk^G.kIn _ _ q)^gS _
 let#[g,tt,te,W,hg,ht,he,#[m0,w0],hW]:=hq c.heap.objs.size (G.hok.fresh^On _) B P (c.heap.objs.size+1) c H2 fp;refine iA^wpAny_newFunctionEnv O.cell (by intro y hy; simp at hy) (λj f d=>?_) O.kind
 dsimp only at f d ⊢
 generalize C:c.heap.push {cls:=.type "list",dict:=o_,data:=.seq ([]:r_ Db).toArray}=Hh at f d ⊢;have k:Hh.objs.size=c.heap.objs.size+1:=by rw[←C,iT]
 have S:∀b∈fp,b<c.heap.objs.size:=λb l=>by
  let#[o,e,_]:=T.obj _ _ u b l;exact Tk e
 have U:∀b o,c.heap.get? b=P3 o->j.get? b=P3 o:=λb o e=>d.extBut b o (by rw[k]; exact f9^iV^Tk e)^Ev _ (C▸Ev _ e);have hD:∃n,j.get? c.heap.objs.size=P3 {cls:=.type "list",data:=.seq #[] n}:=#[_,d.extBut _ _ (by rw[k]; exact f9^mh _)^Ev _ (C▸UF _ rfl)]
 have I3:∀L,Inv (Ap X sc N' P (c.heap.objs.size+1) c H2 fp) [] (Cp js Z) (Al H2 c.heap.objs.size^.lst []) {c with heap:=j,toks:=L}:=λL=>
  NQ G hc O a2 R f2 (λb l=>let #[o,e,_]:=T.obj _ _ u b l; #[o,e]) (by rw[←k]; exact f) U hD
 have V:tn 0 j:=T.keep _ _ _ u λb l o e=>U b o e
 have a3:∀b∈fp,Al H2 c.heap.objs.size (.lst []) b=o_:=λb l=>by
  rw[AL^f9^S b l];exact(f2 b l).1
 have r:∀L,codeAny (model X.prog X.w) X.A (.compLoop (.ListComp elt [#[tg,iter,ifs,0]] sc pos) 0 (.ref it) (.ref c.heap.objs.size)^compEnvC sc P (c.heap.objs.size+1) X.env)
   (compPost (model X.prog X.w) X.A X.xe (P3^assign (.Name x pos') X.env) (λ_ p=>SP X M D .next p) (.ref c.heap.objs.size) (c.heap.objs.size+1)) {c with heap:=j,toks:=L}:=λL=>by
  refine K9 (W:=W) (m0:=m0) (Q:=λv H1=>HW i v Z H1 λzN H2=>D.nx zN H2) G f2 S (gq _) T hg ht he hW (λzZ H' p J' q'=>?_) (I3 L) V a3 w0;let#[m,hn,_]:=J'.loc;have Y:H' (c.heap.objs.size+1)=o_:=J'.free;have I4:Inv X M Z H' p:=Jb (h':=p.heap) G f2 (gq _) J' λb _=>rfl;let#[g1,g2,g3,g4,g5,g6]:=G.vT (b:=c.heap.objs.size+1) (gq _) Y;show wpAny (model X.prog X.w) X.A (assign (.Name x pos') X.env^.ref c.heap.objs.size) (λ_ E=>∃m,E.heap.Ns (c.heap.objs.size+1) m/\∀h',ji (c.heap.objs.size+1) E.heap h'->SP X M D .next {E with heap:=h'}) X.xe p;refine wpAny_assign_Name (Ke (v:=.ref c.heap.objs.size) I4 hN a0 hx rfl (λs5 I5 zz=>?_) hf);let#[a,F,ha]:=zz
  have na:c.heap.objs.size+1≠a:=by
   rcases ha with rfl|ha
   .exact g2
   .exact λz=>g5 _ _ ha z.symm
  refine#[m,hn.sameBut F na,λh' a4=>?_];exact#[_,H',I5.turned (t':=s5.toks) (it:=c.heap.objs.size+1) (λb o l e=>a4.extBut b o l e) Y g2 g4 g5 g6,q']
 rw[show(newEnv sc Hh.objs.size X.env.globals P X.env.qual o_ .none (P3 X.env) builtinsNs).locals=c.heap.objs.size+1 from k];show codeAny (model X.prog X.w) X.A (.compStart (.ListComp elt [#[tg,iter,ifs,0]] sc pos) 0 (.ref it) (.ref c.heap.objs.size)^compEnvC sc P (c.heap.objs.size+1) X.env) _ _;exact codeAny_compStart_list (r _)^T.self _ 0 _ _ _ V^r _
end
end L2
namespace Dp
open L2
section

theorem UR(hc:X.calm=p_)(N':r_ Str)(js:r_^s_ Nat)(hi:Xj X tg iter src)(hg:∀L C s H O,DG (Ap X sc N' L C s H O) tg b)(ht:∀L C s H O,Zs (Ap X sc N' L C s H O) ifs tt)(he:∀L C s H O,DE (Ap X sc N' L C s H O) elt zT te)
  (hB:Ge sc X.env.scope X.N N' js=p_) (hk:zT≠.tp:=by intro z; cases z)
  (hs:∀x,foldedSetIterable iter X.env x=pure x:=by intro _; rfl):∃wi,PI X tg iter wi/\∀(C:Fm) (M:Ch->Prop) (H:Hp) (n:Nat) (ρ:r_ Slot) (σ:L2.St) (P:D->Nat->Prop) (Q:VK),Rel X.K C M H n ρ σ->FP js src b tt te n ρ P->
   (∀v r d S,Ext C.U H r->qk X.K C.F M r S->VR X.K C.V M H r .fr v d->P d S->Q v r)->SU X sc N' js tg elt ifs wi σ H Q:=by
 let#[wi,a1,a2]:=hi;refine#[wi,a1,λC M H n ρ σ P Q R w q=>?_];refine a2 C M H n ρ σ _ _ R w λJ T u n1 A f1 y w1=>?_;let#[b3,w1]:=w1;have R1:=R.step A f1;intro l hl b5 L Ca s0 H0 O;let#[g,g1,g2]:=hg L Ca s0 H0 O;let#[tc,c1,c2]:=ht L Ca s0 H0 O;let#[tx,x1,x2]:=he L Ca s0 H0 O
 have a4:¬C.U l:=λz=>by
  let#[o,z]:=R1.udom l z;rw[hl]at z; cases z
 generalize W:(λb=>M b\/b=l)=M';have a6:M' l:=by rw[←W]; exact .inr rfl
 have M'of:∀b,M b->M' b:=λb z=>by rw[←W]; exact .inl z
 have a3:∀b,M' b->M b\/b=l:=λb z=>by rw[←W]at z; exact z
 have b0:∀b,C.V b\/b=l->M' b:=λb z=>z.elim (λz=>M'of b^R1.vM b z) λz=>by rw[z]; exact a6
 have b4:js.length=N'.length:=E4 (zq.of hB).cap
 exists g,tc,tx,λi m zZ r=>m=u.length - i/\i<=u.length/\∃S zY k G,Rel X.K #[M',C.F,C.U,λb=>C.V b\/b=l,T,[],[]] M' r S zY zZ/\r l=P3^.lst G/\Ats X.K M' r k G/\k.length<=i/\qZ M T M' r /\
   Dx b tt te (λk n2=>P (.lst k) n2) (u.drop i) k S zY,g1,c1,x1,#[u.length,by rfl,T0 _,n1,GP js ρ,[],[],?_]
 .have I:qW T^Al T l^.lst []:=Ab hl
  have Y:qZ M T M'^Al T l^.lst []:=#[λb o e _=>I.all b o e,λb z=>(a3 b z).elim .inl λz=>.inr (by rw[z]; exact hl),λb G e=>I.all b _ e];refine#[#[?_,λa z=>z,λa z=>?_,I.ext,R1.fU,λa z=>.inl^R1.uV a z,b0,f1.qq Y λf o _ e=>I.all f.1 o e,?_,λp hp=>absurd hp^by simp,λi d a q z=>Po R1.sl q z,λi s a q o _=>absurd o (by rw[EV q]; decide),λi j s t a q o _ _ _ _=>absurd o (by rw[EV q]; decide),λp hp=>absurd hp^by simp],AQ,rfl,T0 _,Y,w1]
  .unfold GP Cp
   rw[No,No]
  .rcases a3 a z with z|z
   .let#[o,z]:=R1.dom a z
    exact#[o,I.all a o z]
   .subst z
    exact#[_,AQ]
  .refine NG R1.sl Y λd v h=>h.same Y (λa o _ e=>I.all a o e) λa e n1 z=>z.elim n1 λz=>?_
   subst e;let#[o,w]:=h.lies;rw[z,hl]at w;cases w
 .rintro i m zZ r ⟨rfl,hi,S,zY,k,G,R',a7,Z,a8,Y,w'⟩
  by_cases a0:i<u.length
  .have ed:u.drop i=u[i]::u.drop (i+1):=g_ a0
   rw[ed]at w';let#[go,yl]:=(y i M' r Y R'.ext R'.dom).1 u[i] (FM a0);refine .inr #[go,λx H2 hy=>?_];let#[I,hx]:=yl x H2 hy;have b1:=R'.step I.ext^R'.feed.grow I;refine g2 _ M' H2 S zY zZ u[i] x _ _ b1 hx w' λzP zV R3 w3=>?_;refine c2 _ M' H2 S zP zV _ _ R3 w3 λc H4 n4 e4 f4 w4=>?_;have R4:=R3.step e4 f4;have p4:qZ M' r M' H4:=I.qq.trans^R3.qq e4;have l4:H4 l=P3^.lst G:=e4.keep (I.all _ _ a7) a4;cases c with
   |false=>exact#[u.length - (i+1),by lk,rfl,a0,n4,zP,k,G,R4,l4,Z.qq p4,by lk,Y.trans p4,w4]
   | true=>
    refine x2 _ M' H4 n4 zP zV _ _ R4 w4 λyv H5 d5 n5 e5 f5 r5 w5=>?_;have B:=R4.step e5 f5;have p5:qZ M' H4 M' H5:=R4.qq e5;have l5:H5 l=P3^.lst G:=e5.keep l4 a4;have b2:=r5.zj R4.dom hk;have a5:=(Z.qq p4).qq p5;have pu:qZ M' H5 M'^Al H5 l^.lst (G++[yv]):=E_ a6 l5;have b6:G.length=k.length:=Z.length;refine#[G,l5,by simp only[gn]; lk,u.length - (i+1),by lk,rfl,a0,n5,zP,k++[d5],G++[yv],?_,AQ,(a5.append^Ats.one b2).qq pu,by simp only[fh,gC]; lk,(Y.trans p4).trans^p5.trans pu,w5];refine#[B.len,B.sub,λa z=>?_,λb o e=>?_,B.fU,B.uV,B.vM,?_,λj s hs=>?_,λp hp=>absurd hp^by simp,B.br0,B.new,B.two,λp hp=>absurd hp^by simp]
    .by_cases ha:a=l
     .subst ha; exact#[_,AQ]
     .rw[AL ha]; exact B.dom a z
    .let#[o',q1,q2]:=B.ext b o e
     by_cases hb:b=l
     .subst hb
      have e':T b=P3 o:=e;rw[hl]at e'; cases e'
     .exact#[o',by rw[AL hb]; exact q1,q2]
    .refine f5.qq pu λf o hf e=>?_
     rw[AL λz=>a4^by simp only[←z]; exact R1.fU f hf];exact e
    .have E:=B.sl j s hs
     cases s with
     |no=>trivial
     |sh d=>let#[v,A,h2]:=E; exact#[v,A,h2.qq pu]
     |ex a nm ks u=>let#[A,h2]:=E; exact#[A,h2.qq pu]
     | br d=>
      let#[v,A,h2]:=E;refine#[v,A,h2.same pu (λa o z e=>?_) λ_ _ z=>z];subst z;let#[o3,w]:=B.br0 j d a hs A
      have a8:a≠l:=λz=>by
       have w':T a=P3 o3:=w;rw[z,hl]at w'; cases w'
      rw[AL a8]; exact e
     |ow d=>
      let#[a,A,h2,_]:=E;exact absurd h2 (B.new j _ a hs rfl A).1
     |lt a d=>
      let#[A,h2,_]:=E;exact absurd h2 (B.new j _ a hs rfl A).1
     |fd=>exact E
  .have e:i=u.length:=by lk
   subst e;rw[jl]at w';refine .inl #[(y _ M' r Y R'.ext R'.dom).2 (On _),?_];have eb:Ext C.U T r:=R'.ext;have a9:qZ M' r M r:=qZ.less M'of;refine q _ r (.lst k) S (A.trans eb) (R'.feed.qq a9 λ_ _ _ z=>z) (VR.back A ?_) w';exact#[l,rfl,hl,G,a7,by rw[W]; exact Z]
theorem L9(r:X.N.Nodup)(j:X.N[i]?=P3 x)(hx:Loc X.env.scope x)(l:X.calm=p_)(e:r_ Str)(h:r_^s_ Nat)(t:Xj X tg iter src)(u:∀f C s H g,DG (Ap X sc e f C s H g) tg b)(y:∀f C s H g,Zs (Ap X sc e f C s H g) ifs tt)(A:∀f C s H g,DE (Ap X sc e f C s H g) elt zT te)
  (m:Ge sc X.env.scope X.N e h=p_) (k:swapsWith (.ListComp elt [#[tg,iter,ifs,0]] sc pos) (P3^.Name x a) c.line X.env=pure p_:=by rfl) (B:zT≠.tp:=by intro z; cases z)
  (o:∀x,foldedSetIterable iter X.env x=pure x:=by intro _; rfl)
  (D:X.fn x=p_\/X.env.scope.names.lookup x=P3 .local:=by first|exact .inl rfl|exact .inr rfl|assumption):DS X q (.Assign [.Name x a] (.ListComp elt [#[tg,iter,ifs,0]] sc pos) c)^CY i^FP h src b tt te:=by
 let#[T,F,G]:=UR l e h t u y A m B o;exact#[_,VD l e h F m r j hx k o D,λC M H n I J U E R L w=>G C M H n I J _ _ R w λv K d O P Q S p=>L.nx M K O _ _ ((R.step P Q).set^S.zj R.dom^by simp_all) p]
end
end Dp
namespace L2
def ao:R2:=λy x H Q=>∃a o,x=.ref a/\zy H a y o/\Q (.bl o.isSome) H
def W3:R2:=λy x H Q=>∃a o,x=.ref a/\zy H a y o/\Q (.bl (!o.isSome)) H
def aq:R2:=λx y H Q=>∃a v,x=.ref a/\zy H a y^P3 v/\Q v H
theorem OQ(b:qj k X.A):OpR X (compareOp .In) ao:=by
 intro f s h H y x i u Q I c d #[a,j,ex,g,q];subst ex;obtain rfl:u=fj a:=d;exact eI (Jc b) I g c λl e=>#[.bl _,H,e,rfl,q]
theorem E9(b:qj k X.A):OpR X (compareOp .NotIn) W3:=by
 intro f s h H y x i u Q I c d #[a,j,ex,g,q];subst ex;obtain rfl:u=fj a:=d;exact WI (Jc b) I g c λl e=>#[.bl _,H,e,rfl,q]
end L2
namespace Dp
open L2
def BI:r_ Key->r_ D->Key->s_ D
 |a::b,d::c,k=>if a=k then P3 d else BI b c k
 |_,_,_=>o_
section
variable {K:Frag}
set_option tactic.hygienic true in
theorem F7:∀{ks:r_ Key}{b:r_ D}{a:r_ V},Ats K M H b a->
  match BI ks b k with
  |some z=>∃v,Eg (ks.zip a) k=P3 v/\At K M H z v
  |none=>Eg (ks.zip a) k=o_
 |[],b,a,h=>by exact rfl
 |c::ks,[],a,h=>by cases h; exact rfl
 | c::ks,d::b,a,h=>by
  let#[v,r,rfl,f,g]:=h;have i:=F7 (k:=k) (ks:=ks) g;unfold BI
  by_cases e:c=k
  .rw[if_pos e]
   refine#[v,?_,f];show Eg ((c,v)::ks.zip r) k=P3 v;rw[Ej e]
  .have:Eg ((c,v)::ks.zip r) k=Eg _ k:=Ek e
   simp_all
def keyOf:D->s_ Key
 |.int i=>P3^.inl i
 |.str x=>P3^.inr x
 |_=>o_
theorem C7(e:keyOf d=P3 k)(h:AtT K U M H d v):v=kV k:=by
 cases d with
 |int i=>injection e with e;subst e; exact h
 |str x=>injection e with e;subst e; exact h.str.1
 |_=>cases e
def Jk:D->s_ (r_ Key×r_ D)
 |.dic a b=>P3 (a,b)
 |.fdi a b=>P3 (a,b)
 |_=>o_
theorem Jj(e:Jk d=P3 (g,i))(h:AtT K U M H d x):∃a b,x=.ref a/\Rd H a^.dK^g.zip b/\Ats K M H i b:=by
 cases d with
 |dic j k=>cases e; let#[a,b,rfl,_,c,_,f]:=h; exact#[a,b,rfl,.inl c,f]
 |fdi j k=>cases e; let#[a,b,rfl,#[o,_,c],_,f]:=h; exact#[a,b,rfl,.inr #[o,c],f]
 |_=>cases e
theorem IV(e:Rd H a^.dK b):zy H a (kV k)^Eg b k:=.inl #[_,k,e,rfl,rfl]
def RO(a:Bool)(e d:D)(P:D->Prop):Prop:=∃b c k,Jk d=P3 (b,c)/\keyOf e=P3 k/\P^.bl (if a then !(BI b c k).isSome else(BI b c k).isSome)
def GS(d e:D)(P:D->Prop):Prop:=∃a b k z,Jk d=P3 (a,b)/\keyOf e=P3 k/\BI a b k=P3 z/\P z
theorem Ua:D_ K .sh ao^RO q_:=λU M H e d y x P Q b o f g w q=>by
 let#[ks,i,k,j,l,w]:=w;let#[a,p,rfl,m,n]:=Jj j g;refine#[a,_,rfl,by rw[C7 l f]; exact IV m,q _ H (.bl _) .refl rfl ?_];have h:=F7 (k:=k) (ks:=ks) n;cases c:BI ks i k with
 |none=>simp_all
 |some z=>rw[c]at h w; let#[v,r,_]:=h; simp_all
theorem Gk:D_ K .sh W3^RO p_:=λU M H e d y x P Q b o f g w q=>by
 let#[ks,i,k,j,l,w]:=w;let#[a,p,rfl,m,n]:=Jj j g;refine#[a,_,rfl,by rw[C7 l f]; exact IV m,q _ H (.bl _) .refl rfl ?_];have h:=F7 (k:=k) (ks:=ks) n;cases c:BI ks i k with
 |none=>simp_all
 |some z=>rw[c]at h w; let#[v,r,_]:=h; simp_all
theorem ZV:D_ K .sh aq GS:=λU M H d e x y P Q b p c f w q=>by
 let#[ks,r,k,z,g,i,j,w]:=w;let#[a,s,rfl,l,m]:=Jj g c;have h:=F7 (k:=k) (ks:=ks) m;simp only[j]at h;let#[v,n,o]:=h;exact#[a,v,rfl,by simp only[C7 i f,←n]; exact IV l,q v H z .refl o w]

theorem By(g:qj k X.A)(h:DE X a zU wa)(i:DE X b zO wb)(j:Zi b:=by intro _ _; rfl):DE X (.Subscript a b pos) .sh^Am GS wa wb:=by
 let#[o,c,d]:=h;let#[p,e,f]:=i;exact#[_,Lg (Jc g) c e j,λC M H n l m P Q R w q=>E5 ZV d f C M H n l m P Q R w q]
end
def Wh(i:Nat)(w:DW):AZ:=λe n c=>∃a:Int,c[i]?=P3^.sh^.int a/\w n c λd f=>∃b:Int,d=.int b/\e.nx f^c.set i^.sh^.int (a+b)
theorem V2(k:X.N.Nodup)(l:X.N[i]?=P3 x)(hx:Loc X.env.scope x)(m:DE X e j g)
  (o:X.fn x=p_\/X.env.scope.names.lookup x=P3 .local:=by first|exact .inl rfl|exact .inr rfl|assumption):DS X h (.AugAssign (.Name x c) .Add e pos)^Wh i g:=by
 let#[t,q,r]:=m;refine#[_,YQ k l hx q Yt o,λC M H n s u G E R L w=>?_];let#[a,y,w]:=w;let#[v,f,z]:=R.sl i _ y;cases(z);refine#[_,getD_some f,r C M H n s u _ _ R w λv A d B f D F p=>?_];let#[b,rfl,p]:=p;exact#[a,b,rfl,Lw F,L.nx M A B _ _ ((R.step f D).set (d:=.int _) rfl) p]
end Dp
namespace L2
open PySem.W
section

theorem Inv.adopt2(I:Inv X zG σ H s)(m:Rn X zG D)(h:H D=o_)(i:Rn X zG e)(j:H e=o_)(l:D≠e)(k:∀b u,b≠D->b≠e->s.heap.get? b=P3 u->h'.get? b=P3 u)(new:qv X.prog X.w (Al H D o) h' D o):Inv X zG σ (Al H D o) {s with heap:=h'}:=by
 have a:∀b,b∉[D,e]->b≠D/\b≠e:=λb d=>#[λz=>d (by rw[z]; exact Op),λz=>d^by rw[z]; exact TM _ (Re.mpr rfl)]
 refine I.step (g':=s.gens) (d':=s.drawn) (t':=s.toks) (ch:=[D,e]) (λb g=>?_) (λb u _ _ d q _=>k b u (a b d).1 (a b d).2 q) (λb u _ _ d q _=>#[u.slots,k b u (a b d).1 (a b d).2 q]) (λb u d q n=>?_)
  (λb u d q=>#[u,k b u (a b d).1 (a b d).2 q]) (λb p q=>?_) (λb u v q=>?_) (λb B q=>#[#[],?_]) (λC t=>?_) (λb u q=>?_) I.bare
 .rcases TW.mp g with rfl|g
  .exact#[.inr m.new,m.loc,m.cell,m.pin]
  .rw[Re.mp g]
   exact#[.inr i.new,i.loc,i.cell,i.pin]
 .rw[AL (a b d).1]; exact n
 .rw[AL^Ak q h]; exact q
 .rw[AL^Ak q h]; exact q
 .rw[AL^Ak q h,q]; rfl
 .let#[u,x,y,A,r]:=t
  exact#[u,x,y,k _ u (gf m.loc) (gf i.loc) A,r]
 .by_cases g:b=D
  .subst g; rw[AQ]at q; injection q with q;subst q; exact new
  .rw[AL g]at q
   refine(I.hok b u q).vX (λc v d f=>k c v ?_ ?_ f) (λc f=>by rw[AL^Ak f h]; exact f) λc p f=>by rw[AL^Ak f h]; exact f
   .grind
   lia
def X5(K:Frag)(e:Sp)(f:TE):TE:=λσ H Q=>f σ H λx c=>∃(g:Bool) (l:Ch) (b:r_ V) (keys:r_^r_ Key) (J:r_ V->Hp->Prop),x=.ref l/\SqK g K c l b/\b.length<64/\J [] c /\
 (∀a H2 v,J a H2->b[a.length]?=P3 v->e [v] H2 (λk h=>J (a++[k]) h) E0) /\
 ∀a H2,J a H2->a.length=b.length->zF K H2 a keys/\∀(d:r_ Nat) (l:Ch),LK keys d->H2 l=o_->Q (.ref l)^Al H2 l^.lst^d.map λi=>b.getD i .non
theorem S_(F:qV X.prog X.w X.K X.mg X.base Ef k f fd [pn] sp)(hr:qj (k+2) X.A)(hg:Gl X "sorted")(hm:X.mg "sorted"=o_)
  (a9:Gl X fn) (b0:X.mg fn=P3^.ref f) (hb:Binds X.K fd [pn] []) (he:PE X e te) (hs:starEach [e] X.env=[(q_,eval e X.env)]:=by rfl) (b1:(fn==("__debug__":Str))=q_:=by decide):
  PE X (.Call (.Name "sorted" p) [e] [#[P3 "key",.Name fn fp,kp]] pos) (X5 X.K sp te):=by
 intro zG s σ H Q I h;refine hU^D6 I hg hm k6 ?_
 refine callWith_kw (thn (A4 he B4 hs pos zG s σ H (λC T=>∃x,C=[x]/\∃(κ:Bool) (l:Ch) (C:r_ V) (keys:r_^r_ Key) (J:r_ V->Hp->Prop),x=.ref l/\SqK κ X.K T l C/\C.length<64/\J [] T /\
   (∀B H2 v,J B H2->C[B.length]?=P3 v->sp [v] H2 (λk H3=>J (B++[k]) H3) E0) /\
   ∀B H2,J B H2->B.length=C.length->zF X.K H2 B keys/\∀(ix:r_ Nat) (l:Ch),LK keys ix->H2 l=o_->Q (.ref l)^Al H2 l^.lst^ix.map λi=>C.getD i .non) I ?first) λt s1 #[xs,T,I1,r1,q1]=>kws_cons^Dy I1 a9 b0 (kws_nil ?_) b1) (by rw[hs]; rfl)^by rw[hs]; rfl
 case first=>
  show te σ H _;refine cast (congrArg (te σ H) ?_) h
  funext x T
  refine propext #[λz=>#[x,rfl,z],fun#[y,e,z]=>?_];injection e with e;subst e;exact z
 let#[x,rfl,κ,l,C,keys,J,rfl,hq,b2,j0,U,a0]:=q1;let#[u,rfl,ru]:=vals1 r1;subst ru;show wpAny (model X.prog X.w) X.A (call (.builtin "sorted") [.ref l] [(gu "key",.ref f)]) _ _ s1;refine F9 (ksk_s1 _ _) (λx=>ksk_l1 _ _)^Ng I1 hq λt R r2 hz I2=>#[by rw[←r2.length]; exact hz,?_];simp only[ksk_t1];have hl:=r2.length;generalize W:R.heap.objs.size=D;have a1:(R.heap.push^seqObj "list" t.toArray 0).objs.size=D+1:=by rw[size_push',W]
 have a2:(R.heap.push^seqObj "list" t.toArray 0).get? D=P3^seqObj "list" t.toArray 0:=by simp only[←W]; exact UF _ rfl
 have mD:Rn X zG D:=I2.mine (by rw[W]; exact On _);have mK:Rn X zG (D+2):=I2.mine (by rw[W]; exact Nat.le_add_right _ _);have nD:T D=o_:=I2.hok.fresh (by rw[W]; exact On _);have nK:T (D+2)=o_:=I2.hok.fresh (by rw[W]; exact Nat.le_add_right _ _);have a3:D≠D+2:=f9^iV^mh D;have S:∀b,Rn X zG b->b∉Kz X.stack:=λb m z=>(TW.mp^I2.vw b z).elim m.loc m.fs
 refine Q2 (s:={R with heap:=R.heap.push^seqObj "list" t.toArray 0}) (n:=0) a2 (by rw[←hl]; exact b2)
  (λB N=>∃O E,qQ O B/\J O E/\Inv X zG σ E N/\E D=o_/\E (D+2)=o_/\N.heap.get? D=(Du (R.heap.push^seqObj "list" t.toArray 0) D t).get? D) (D+2) (by show D+2=(R.heap.push _).objs.size+1; rw[a1]) (λe1 a4=>?_) (λB N e v Y hk hv=>?_) λe1 a4 B N Y L=>?_
 .refine#[[],T,.nil,j0,?_,nD,nK,rfl]
  exact I2.kept (t':=R.toks) λb o q=>Gx (by simp only[←W]; exact f9^Tk q)^Ev _ q
 .let#[O,E,Z,Y,I',n1,n2,P]:=Y
  have hi:B.length<t.length:=(XV.mp hv).1;have a5:C[O.length]?=P3 (C[O.length]'(by rw[Z.length]; lk)):=FM _;let#[u',e2,ru]:=r2.get a5;rw[Z.length,hv]at e2;injection e2 with e2;subst e2;have b3:=U O E _ Y a5;have E1:vG X.prog X.w X.K X.mg X.base X.A.in1.in1 X.stack N E:=I'.env0.in1.in1;refine i8^jj (F.run X.A.in1.in1 X.stack N E #[[v],[]] [v] _ _ E0 (hr.in1).in1 E1 (by simpa using hb N [v] I'.kIn rfl) (.cons ru .nil) b3) λr g M=>?_;cases r with
  |error e=>exact gh M
  | ok fl=>
   cases fl with
   |next=>exact gh M
   |brk=>exact gh M
   |cont=>exact gh M
   | ret u=>
    let#[w',H3,os,a6,un,b4,b5,q3]:=id M
    obtain⟨oD,eD⟩:∃o,N.heap.get? D=P3 o:=by
     let#[c,hc,_]:=Iy a2;exact#[_,P.trans hc]
    have kD:g.heap.get? D=P3 oD:=un.keep D oD eD n1 (S D mD) (by simp);have kK:g.heap.get? (D+2)=P3^seqObj "list" B.toArray e:=un.keep _ _ hk n2 (S _ mK) (by simp);have f1:H3 D=o_:=un.free D oD eD n1 (by simp);have f2:H3 (D+2)=o_:=un.free _ _ hk n2 (by simp);have I3:Inv X zG σ H3 g:=I'.call' os un b4 a6 (λb z=>absurd z^by simp);exists kK,O++[w'],H3,Z.append^.cons b5 .nil,q3,?_,f1,f2
    .exact I3.turned (t':=g.toks) (λb o hb q=>(fm _ _^gf hb).trans q) f2 mK.loc (.inr mK.new) mK.cell mK.pin
    .show(g.heap.update (D+2) _).get? D=_
     simp only[fm _ _^gf a3,kD,←eD,P]
 .let#[O,E,Z,Y,I',n1,n2,P]:=Y
  let#[a7,q]:=a0 O E Y (by simp only[Z.length,L,hl]);have b6:keys.length=t.length:=by simp only[←a7.len,Z.length,L]
  refine#[P.trans a4,λp=>p.Perm^gK^gG t.length/\So.Srt Qn (λi=>keys.getD i []) p t.length,λh2=>?_,λh1=>#[m7 _,λi j b9 hj=>?_],λp h' c hp hg a8 b7 _=>#[rfl,?_]]
  .have ts:=Ka (prog:=X.prog) (w:=X.w) (A:=X.A.in1.in1) (keys:=keys) (a7.qI I' Z λb o e=>e) (by lk) (G:=λp g=>g=N/\p.Perm^gK^gG t.length/\So.Srt Qn (λi=>keys.getD i []) p t.length) λp a b=>#[rfl,by rw[←L]; exact a,by simp only[←L]; exact b]
   rw[L]at ts;exact ts
  .have:i=j:=by lk
   subst this;exact iY _
  .have b8:(p.toList.map λi=>C.getD i .non).length=t.length:=by simp only[No,iW,hp]
   refine#[.ref D,Al E D^.lst^p.toList.map λi=>C.getD i .non,I'.adopt2 mD n1 mK n2 a3 a8 #[by simp only[b8,←hl,gn]; lk,_,c,Ik (Gs r2) p.toList,b7],rfl,q _ _ (TQ b6 hg.1 hg.2) n1]
theorem JH:∀{c:r_ e}{d:r_ f}{j:Nat}{a:e}{b:f},Paired F c d->c[j]?=P3 a->d[j]?=P3 b->F a b
 |_,_,_,_,_,.nil,h,_=>by simp at h
 |_,_,0,_,_,.cons r t,g,i=>by
  simp_all
 |_,_,j+1,_,_,.cons r t,g,i=>JH (j:=j) t (by simp_all)^by simp_all
end
end L2
namespace Dp
open L2
section
variable {K:Frag}
def XR(a:r_ D)(P:D->Prop):Prop:=match a with
 |[.int i,.int j]=>P^.int (if j<i then j else i)
 |_=>False
def bh(a:r_ D)(P:D->Prop):Prop:=match a with
 |[.int i]=>P^.int (if i<0 then -i else i)
 |_=>False
set_option tactic.hygienic true in
theorem ZT:Dr K .sh (λa H Q=>∃i j,a=[.int i,.int j]/\Q (.int (if j<i then j else i)) H) XR:=by
 intro U M H h k P Q b l c w q;unfold XR at w
 split at w
 .rename_i i j
  cases c with
  | cons d e=>cases e with
   |cons f g=>
    cases g;cases d.int;cases f.int;exact#[i,j,rfl,q _ H (.int _) .refl rfl w]
 simp_all
set_option tactic.hygienic true in
theorem Ub:Dr K .sh (λa H Q=>∃i,a=[.int i]/\Q (.int (if i<0 then -i else i)) H) bh:=by
 intro U M H f g P Q b h c w q;unfold bh at w
 split at w
 .rename_i i
  cases c with
  |cons d e=>
   cases e;cases d.int;exact#[i,rfl,q _ H (.int _) .refl rfl w]
 simp_all
end
end Dp
namespace L2
def FK(H:Hp)(L:r_ Ch)(f:Ch->Obj):Hp:=λb=>if b∈L then(H b).map^HO.frz^f b else H b
theorem Dg(h:b∉L):FK H L f b=H b:=by unfold FK; rw[if_neg h]
theorem Ly(h:b∈L)(e:H b=P3 o):FK H L f b=P3^.frz (f b) o:=by unfold FK; simp_all
section

theorem Inv.frz{L:r_ Ch}(I:Inv X zG σ H s)(k:∀b∈L,∃d,H b=P3^.dK d):∃f,Inv X zG σ (FK H L f) s:=by
 have a:∀(f:Ch->Obj) b o,H b=P3 o->(∀d,o≠.dK d)->FK H L f b=P3 o:=λf b o e n=>by
  rw[Dg λx=>by grind];exact e
 exists λb=>(s.heap.get? b).getD {cls:=.none,data:=.fields #[]};refine I.step (g':=s.gens) (d':=s.drawn) (t':=s.toks) (h':=s.heap) (ch:=[]) (λ_ z=>nomatch z) (λ_ _ _ _ _ e _=>e) (λb o _ _ _ e _=>#[o.slots,e]) (λb o _ e n=>?_) (λb o _ e=>#[o,e]) (λb l e=>a _ b _ e λ_ z=>by cases z) (λb o u e=>a _ b _ e λ_ z=>by cases z) (λb A e=>#[#[],by simp_all]) (λ_ h=>h) (λb u e=>?_) I.bare
 .unfold FK
  simp_all
 .by_cases g:b∈L
  .let#[d,i]:=k b g
   rw[Ly g i]at e;injection e with e;subst e;let#[z,y,m,r,p,t,v,j,c]:=(show qv X.prog X.w H s.heap b^.dK d from I.hok b _ i);exact#[by rw[j]; rfl,z,y,m,r,p,t,v,j,c]
  .rw[Dg g]at e
   exact(I.hok b u e).vX (λ_ _ _ q=>q) (λc q=>a _ c _ q λ_ z=>by cases z) λc l q=>a _ c _ q λ_ z=>by cases z
def dN(t:TE):TE:=λσ H Q=>t σ H λv c=>∃L:r_ Ch,(∀b∈L,∃a,c b=P3^.dK a)/\∀f:Ch->Obj,Q v^FK c L f
theorem TB(h:PE X e t):PE X e^dN t:=by
 intro zG s σ H Q I a;refine thn (h _ s σ H _ I a) λu g zz=>?_;let#[v,i,b,r,L,c,q]:=zz;let#[f,d]:=b.frz c;exact#[v,_,d,r,q f]
end
end L2
namespace Dp
open L2
def Cr:D->s_^r_ Key
 |.tup a=>HU a
 |_=>o_
def Gn(c:D->s_^r_ Key)(f:r_ D):Prop:=f.Pairwise λa b=>∀d e,c a=P3 d->c b=P3 e->A6 e d=q_
def Keyed(a:D->s_^r_ Key)(b:r_ D):Prop:=(∀x∈b,∃k,a x=P3 k/\k≠[])/\∀x∈b,∀y∈b,∀c d,a x=P3 c->a y=P3 d->CO c d=p_
theorem range_getD(a:r_ D):(gG a.length).map (λi=>a.getD i .non)=a:=by
 apply List.ext_getElem
 .simp
 simp_all
theorem Pm(l:keys.length=b.length)(q:∀(i:Nat) (x:D),b[i]?=P3 x->∃k,keys[i]?=P3 k/\kf x=P3 k)(h:LK keys a):
  (a.map λi=>b.getD i .non).Perm b/\Gn kf (a.map λi=>b.getD i .non):=by
 let#[c,r]:=h;constructor
 .have:=c.map λi=>b.getD i D.non
  rw[l,range_getD]at this;exact this
 .unfold Gn
  rw[mW];intro i j m d f s t n o;rw[List.getElem_map]at n o;simp only[No]at m d;have u:a.length=keys.length:=by rw[c.length_eq,iq]
  have g:∀i (h:i<a.length) k,kf (b.getD a[i] .non)=P3 k->keys.getD (a.getD i 0) []=k:=λi h k e=>by
   have v:a[i]<keys.length:=hV.mp^c.mem_iff.mp^gH h;have p:a[i]<b.length:=by simp only[←l]; exact v
   let#[B,w,y]:=q a[i] b[a[i]] (FM p);have z:b.getD a[i] .non=b[a[i]]:=by rw[gN,FM p]; rfl
   rw[z,y]at e;have A:a.getD i 0=a[i]:=by rw[gN,FM h]; rfl
   simp only[A,gN,w];exact fu e
  have:=r i j (lH f)^by rw[←u]; exact d
  simp only[g i m s n,g j d t o]at this;exact this
theorem FC{b:D->s_^r_ Key}:∀{xs:r_ D},(∀x∈xs,∃k,b x=P3 k/\k≠[])->∃a:r_^r_ Key,a.length=xs.length/\(∀(i:Nat) (x:D),xs[i]?=P3 x->∃k,a[i]?=P3 k/\b x=P3 k/\k≠[])
 |[],_=>#[[],rfl,λi x e=>by simp at e]
 | x::xs,h=>by
  let#[k,d,f]:=h x Op;let#[a,l,g]:=FC (xs:=xs) λy c=>h y^TM _ c;refine#[k::a,by simp_all,λi y e=>?_];cases i with
  |zero=>
   simp_all
  |succ i=>
   simp_all
section
variable {K:Frag}
theorem Ats.getD:∀{b:r_ D}{a:r_ V},Ats K M H b a->∀i:Nat,At K M H (b.getD i .non)^a.getD i .non
 |[],a,h,i=>by cases(h); simp[At]
 |d::b,a,h,0=>by
  let#[v,r,e,f,c]:=h
  simp_all
 |d::b,a,h,i+1=>by
  let#[v,r,e,f,c]:=h;subst e
  simpa using Ats.getD c i
theorem Ats.pick(h:Ats K M H b c):∀a:r_ Nat,Ats K M H (a.map λi=>b.getD i .non)^a.map λi=>c.getD i .non
 |[]=>rfl
 |i::a=>#[_,_,rfl,h.getD i,Ats.pick h a]
theorem G9(o:∀d k v,d∈c->n d=P3 k->At K M H d v->∃a,v=.ref a/\SqT K H a^k.map kOf)(t:Ats K M H c s)(w:Keyed n c)(u:keys.length=c.length)(z:∀(i:Nat) (x:D),c[i]?=P3 x->∃k,keys[i]?=P3 k/\n x=P3 k/\k≠[]):zF K H s keys:=by
 have b:∀(i:Nat) (g:r_ Key),keys[i]?=P3 g->∃x,c[i]?=P3 x/\n x=P3 g/\g≠[]:=λi g e=>by
  have h:i<c.length:=by simp only[←u]; exact(XV.mp e).1
  let#[k,f,l,m]:=z i c[i] (FM h);rw[e]at f;injection f with f;subst f;exact#[c[i],FM h,l,m]
 refine#[t.length.trans u.symm,λi g e=>?_,λx p y A=>?_,λx p=>?_]
 .let#[d,f,l,_]:=b i g e
  let#[v,m,B]:=t.get f;let#[a,rfl,C]:=o d g v (gZ f) l B;exact#[a,m,C]
 .let#[i,h]:=jN.mp p
  let#[j,E]:=jN.mp A;let#[d,f,l,_]:=b i x h;let#[F,q,r,_]:=b j y E;exact w.2 d (gZ f) F (gZ q) x y l r
 .let#[i,h]:=jN.mp p
  let#[d,f,l,m]:=b i x h;exact m
theorem G_(e:Cr d=P3 k)(h:At K M H d v):∃a,v=.ref a/\SqT K H a^k.map kOf:=by
 cases d with
 |tup g=>
  let#[a,i,b,c,f]:=h
  have:=GQ (e) f
  subst this;exact#[a,b,c.sq]
 |_=>cases e
def L1(c:r_ D)(P:D->Prop):Prop:=∃d b,c=[d]/\Fe d=P3 b/\b.length<64/\Keyed Cr b/\∀a:r_ D,a.Perm b->Gn Cr a->P^.lst a
theorem MM:Dr K .fr (Sl K) L1:=by
 intro U M H E F P Q o p r w q;let#[d,G,rfl,e,c,g,w]:=w;let#[v,rfl,s]:=DY r;let#[t,a,u,rfl,f,y]:=LW s e (λ_ z=>z) p;let#[h,j,m]:=FC g.1;refine#[t,a,u,_,rfl,y M H (qZ.refl _ _)^Ext.refl _ _,by rw[f.length]; exact c,G9 (λd k v _=>G_) f g j m,λA l B n=>?_];let#[C,D]:=Pm (kf:=Cr) j (λi x e=>by let#[k,a,b,_]:=m i x e; simp_all) B;exact q _ _ _ (Ab n) (C_ n^f.pick A)^w _ C D
end
section

def Xr(W:W2)(wa:DW):DW:=λn h P=>wa n h λd e=>∃(c:r_ D) (f:D->D),Fe d=P3 c/\c.length<64/\(∀x∈c,∀g:D->Nat->Prop,g (f x) e->W [.sh x] e g)/\Keyed (λx=>Cr^f x) c /\
 ∀b:r_ D,b.Perm c->Gn (λx=>Cr^f x) b->P (.lst b) e
theorem UI(G:Got X.prog X.w X.K X.mg X.base fn k [pn] .sh W)(hr:qj (k+2) X.A)(hg:Gl X "sorted")(hm:X.mg "sorted"=o_)(Z:Gl X fn)(he:DE X e zU wa)
  (J:starEach [e] X.env=[(q_,eval e X.env)]:=by rfl) (a0:(fn==("__debug__":Str))=q_:=by decide):DE X (.Call (.Name "sorted" p) [e] [#[P3 "key",.Name fn fp,kp]] pos) .fr^Xr W wa:=by
 let#[f,fd,F,a1,b0,hb,hW]:=G;let#[t,h1,h2]:=he;refine#[_,S_ F hr hg hm Z a1 hb h1 J a0,λC M H n ρ σ P Q R w q=>?_];refine h2 C M H n ρ σ _ _ R w λv H1 d Y e1 f1 r1 p=>?_;let#[j,B,hd,a2,hw,hK,w]:=p;have L:=R.step e1 f1;let#[κ,l,us,rfl,J,sq]:=LW (U:=C.U) (r1.qw R.dom R.vM) hd R.uV L.vM;let#[N,hl,hk]:=FC hK.1;have s:=J.length;refine#[κ,l,us,N,λc H2=>Ext C.U H1 H2/\qk X.K C.F M H2 Y/\c.length<=j.length/\∀(i:Nat) (k:V),c[i]?=P3 k->∃x,j[i]?=P3 x/\At X.K M H2 (B x) k,rfl,sq M H1 (qZ.refl _ _)^Ext.refl _ _,by rw[s]; exact a2,#[Ext.refl _ _,f1,T0 _,λi k z=>absurd (show(o_:s_ V)=P3 k from z) λh=>nomatch h],λc H2 v hJ hv=>?_,λc H2 hJ a3=>?_]
 .let#[ex,u,a4,E]:=hJ
  have m:=L.step ex u;have hi:c.length<j.length:=by simp only[←s]; exact(XV.mp hv).1
  have O:j[c.length]?=P3 j[c.length]:=FM hi;let#[v',e2,hA]:=(J.qq^L.qq ex).get O;rw[hv]at e2;injection e2 with e2;subst e2;refine#[rfl,C.F,C.U,C.V,M,Y,[.sh j[c.length]],λd n=>d=B j[c.length]/\n=Y,#[m.dom,m.fU,m.uV,m.vM,u,.cons #[#[v,rfl,hA],rfl] .nil],hw _ (gH hi) _ #[rfl,rfl],λr H3 d n' S f3 vr hd=>?_];let#[rfl,rfl]:=hd;refine#[ex.trans S,f3,by simp only[fh,gC]; lk,λi k o=>?_]
  by_cases a5:i<c.length
  .rw[jY a5]at o
   let#[x,h3,h4]:=E i k o;exact#[x,h3,h4.qq^m.qq S]
  .rw[iD^by lk]at o
   have a6:i=c.length:=by
    have:=(XV.mp o).1
    simp only[gC]at this;lk
   subst a6;rw[Nat.sub_self]at o;cases(show P3 r=P3 k from o);exact#[_,O,vr]
 .let#[ex,u,a4,E]:=hJ
  have m:=L.step ex u;have a7:c.length=j.length:=by simp only[a3,s]
  have a8:Ats X.K M H2 (j.map B) c:=by
   have go:∀(j:r_ D) (c:r_ V),c.length=j.length->(∀(i:Nat) (k:V),c[i]?=P3 k->∃x,j[i]?=P3 x/\At X.K M H2 (B x) k)->Ats X.K M H2 (j.map B) c:=by
    intro j
    induction j with
    |nil=>intro c h _; exact jq.mp h
    | cons x j ih=>
     intro c h hh;cases c with
     |nil=>cases h
     | cons k c=>
      let#[T,e3,h3]:=hh 0 k rfl;cases(show P3 x=P3 T from e3)
      exact#[k,c,rfl,h3,ih c (by simpa using h) λi k' e4=>by
       let#[y,e5,h5]:=hh (i+1) k' (by simpa using e4);exact#[y,by simpa using e5,h5]]
   exact go j c a7 E
  have a9:Keyed Cr^j.map B:=by
   refine#[λy hy=>?_,λy hy z hz ka kb ea eb=>?_]
   .let#[x,hx,rfl]:=Rs.mp hy
    exact hK.1 x hx
   .let#[x,hx,rfl]:=Rs.mp hy
    let#[T,I,rfl]:=Rs.mp hz;exact hK.2 x hx T I ka kb ea eb
  refine#[G9 (λd k v _=>G_) a8 a9 (by simp only[hl,No]) λi x e=>?_,λix l ho hn=>?_]
  .rw[fo]at e
   let#[T,I,rfl]:=gY.mp e;exact hk i T I
  .let#[o1,o2]:=Pm (kf:=λx=>Cr^B x) hl (λi x e=>by let#[k,a,b,_]:=hk i x e; exact#[k,a,b]) ho
   have g:qW H2 (Al H2 l^.lst^ix.map λi=>us.getD i .non):=Ab hn;refine q _ _ (.lst^ix.map λi=>j.getD i .non) Y ((e1.trans ex).trans g.ext) (u.grow g) (VR.back (e1.trans ex) ?_)^w _ o1 o2;exact C_ hn^(J.qq^L.qq ex).pick ix
def Ra:Key->D
 |.inl i=>.int i
 |.inr x=>.str x
def Lv:Key->Prop
 |.inl _=>True
 |.inr x=>x.length<=sizeLine
theorem UN{K:Frag}(h:Lv k):At K M H (Ra k)^kOf k:=by
 cases k with
 |inl i=>exact rfl
 |inr x=>exact#[rfl,h]
end
end Dp
namespace L2
section
open PySem.MeetsSeq
open PySem.AutoSeq1 (wpAny_loadPart')
theorem Sh(l:Ch)(items:Array Db)(n:Nat)(x:Db)(e:Db->Bool)(j:Nat)(hj:j<items.size)(hit:e items[j]=p_)(hs1:items.size<=sizeLine)(prog:f7)(w:gB)(A:gE)(R:Result->Go->Prop)(hp:fz)(g:Array GenState)(d:Drawn)(tk:Nat)(os:_)
  (hl:hp.get? l=P3 {cls:=.type "list",dict:=o_,data:=.seq items n,slots:=#[]}) (he:∀y,y∈items->PySem.SeqAt.EqAt A.in1 #[hp,g,d,tk,os] y x^e y) (h:R (.ok^.ret .none) #[hp.update l^gs λxs=>xs.eraseIdxIfInBounds j,g,d,tk,os]):
  ∀k i:Nat,j - i=k->i<=j->(∀m (hm:m<items.size),i<=m->m<j->e items[m]=q_)->
   wpAny (model prog w) A.in1 (iU.«list.remove.loop» #[[.ref l,x,rawInt i],[]]) (λfin s'=>match fin with|.done f=>R (.ok f) s'|.again c'=>c'.quiet=p_/\codeAny (model prog w) A c' R s') (λe s'=>R (.error e) s') #[hp,g,d,tk,os]:=by
 intro k
 induction k with
 |zero=>
  intro i hk hij hno;have hij':i=j:=by lk
  subst hij'
  wp_walk using h7 hl
  have hi:items[((i:Nat):Int).toNat]?=P3 items[i]:=by simp[hj]
  rw[hi];refine Cn^he _ (mS hj) prog w _ _ ?_;rw[hit];have hz':(items.eraseIdxIfInBounds i).size<=sizeLine+1:=f_ (size_erased items _)^mT hs1
  wp_walk using (jx hl rfl (hz:=hs1) (_hz':=hz')),h7 hl
  simpa using h
 | succ k ih=>
  intro i hk hij hno;have hlt:i<items.size:=by lk
  wp_walk using h7 hl
  have hi:items[((i:Nat):Int).toNat]?=P3 items[i]:=by simp[hlt]
  have hc:((i:Int)+1)=((i+1:Nat):Int):=by push_cast; rfl
  rw[hi];refine Cn^he _ (mS hlt) prog w _ _ ?_;rw[hno i hlt (On _)^by lk]
  wp_walk
  rw[hc]
  exact#[iL plain_remove_loop _,h8 entry_remove_loop (by
   rw[iG plain_remove_loop _];exact ih (i+1) (by lk) (by lk) λm hm h1 h2=>hno m hm (by lk) h2)]
theorem Si(l:Ch)(items:Array Db)(n:Nat)(x:Db)(e:Db->Bool)(j:Nat)(hj:j<items.size)(hit:e items[j]=p_)(hno:∀m (hm:m<items.size),m<j->e items[m]=q_)
  (hs1:items.size<=sizeLine) (hl:s.heap.get? l=P3 {cls:=.type "list",dict:=o_,data:=.seq items n,slots:=#[]}) (he:∀y,y∈items->PySem.SeqAt.EqAt A.in1 s y x^e y)
  (h:Q .none {s with heap:=s.heap.update l^gs λxs=>xs.eraseIdxIfInBounds j}):wpAny (model prog w) A (call (.builtin "list.remove") [.ref l,x]) Q E s:=by
 have key:wpAny (model prog w) A.in1 (iU.«list.remove» #[[.ref l,x],[]]) (λfin s'=>match fin with|.done f=>wants Q E (.ok f) s'|.again c'=>c'.quiet=p_/\codeAny (model prog w) A c' (wants Q E) s') (λe s'=>wants Q E (.error e) s') s:=by
  let#[hp,g,d,tk,os]:=s
  wp_walk using h7 hl
  exact#[iL plain_remove_loop _,h8 entry_remove_loop (Sh l _ n x e j hj hit hs1 _ w A _ hp g d tk os hl he h _ 0 rfl (T0 _) (λm hm _ h2=>hno m hm h2))]
 exact i8^jb PySem.F.slot_list_remove.plain PySem.F.entry_list_remove^PySem.F.slot_list_remove.check _ _ _ _ _ _ _ _ #[_,hl,rfl] (PySem.F.args_list_remove_2 _ _) key
end
section

def PR:V->r_ V->Hp->VK->Prop:=λx f H Q=>∃(l:Ch) (b:r_ V) (y:V) (a:r_ jv) (d:jv) (j:Nat),x=.ref l/\f=[y]/\H l=P3^.lst b/\RVs H a b/\RV H d y/\ip a=p_/\d.canLay0=p_/\d.depth<=100 /\
 (∃c,a[j]?=P3 c/\g8 c d=p_)/\(∀m e,m<j->a[m]?=P3 e->g8 e d=q_)/\Q .non^Al H l^.lst^b.eraseIdx j
theorem Qy(L:qj k X.A):Zk X "list.remove" PR:=by
 intro Y s Z H x vs v us Q I M N h;let#[l,O,y,c,d,j,rfl,rfl,D,o,P,E,R,dd,#[S,F,p],t,q]:=h;subst M;let#[u,rfl,T]:=N.one;let#[z,a,n,r,hl,e]:=I.lstM D;let#[U,G]:=RVs.reads I o r;let#[bs,V]:=RV.reads I P T;have J:=PySem.SeqAt.readsAll_map c a U E G;have b:c.length=a.length:=by rw[←J,No]
 have hu:=L.un;have K:min (iF c) d.depth<=d.depth:=lB _ _
 have f:∀m w,c[m]?=P3 w->∀(h:m<a.toArray.size),PySem.SeqAt.readOf s.heap a.toArray[m]=w:=λm w e h=>by
  rw[←J,fo]at e;have W:m<a.length:=by simpa using h
  rw[FM W]at e;have e:=fu e
  simpa using e
 have B:j<a.length:=by simp only[←b]; exact(XV.mp F).1
 refine Si l a.toArray n u (λy=>g8 (PySem.SeqAt.readOf s.heap y) d) j (by simp only[fk]; exact B) (by rw[f j S F]; exact p) (λm g C=>?_) (by rw[fk]; lk) e (PySem.SeqAt.items_eqAt (vs:=a.toArray) (by simp only[List.toList_toArray]; exact G) V E R^by lk) ?_
 .have i:m<c.length:=by simp only[b]; simpa using g
  rw[f m c[m] (FM i) g];exact t m c[m] C (FM i)
 .refine#[.non,_,I.lset (t':=s.toks) (its':=a.eraseIdx j) D e ?_ (r.eraseIdx j) ?_,rfl,q]
  .show a.toArray.eraseIdxIfInBounds j=(a.eraseIdx j).toArray
   rw[List.eraseIdxIfInBounds_toArray]
  .have:=Ks O j
   lk
end
end L2
namespace Dp
open L2
def eE(d:D)(b:r_ D)(P:D->D->Prop):Prop:=∃(a:r_ D) (y:D) (j:Nat),d=.lst a/\b=[y]/\Bz^.lst a/\Bz y/\(∃x,a[j]?=P3 x/\Dt x y=p_)/\(∀m x,m<j->a[m]?=P3 x->Dt x y=q_)/\P (.lst^a.eraseIdx j) .non
theorem b9{K:Frag}:Zj K PR eE:=by
 intro M H a d G I P Q m t n w q;let#[b,y,j,rfl,rfl,#[o,s,_],#[v,z,A],#[x,B,c],f,w]:=w;let#[h,i,k]:=t;let#[u,r,rfl,C,D]:=n;cases(show r=[]from D)
 have g:∀(m:Nat) (p:jv),(BB b)[m]?=P3 p->∃x,b[m]?=P3 x/\p=toPy x:=λm p e=>by
  simp only[DQ,fo]at e;let#[x,l,rfl]:=gY.mp e
  simp_all
 refine#[a,h,u,BB b,toPy y,j,rfl,rfl,i,k.rv o,C.rv v,s,z,A,#[toPy x,by simp only[DQ,fo,B]; rfl,c],λm p E e=>?_,q _ (.lst^b.eraseIdx j) .non _ #[h.eraseIdx j,AQ,?_] rfl w]
 .let#[F,l,rfl]:=g m p e
  exact f m F E l
 .exact(k.eraseIdx j).qq^E_ m i
def SD(c:F3)(i:AZ):AZ:=λd n a=>∃W:Nat->Nat->r_ Slot->Prop,(∃m,W m n a)/\∀m n a,W m n a->
 c n a λb e=>if b=p_ then ∃N:Nat->r_ Slot->Prop,(∀f g,N f g->∃h,h<m/\W h f g)/\i {d with nx:=N,ct:=N,bk:=d.nx} e a else d.nx e a
section

theorem GW(G:lE (model X.prog X.w) X.A X.env X.xe)(I:DT X c wc)(J:MV X κ body wb):DS X κ (.While c body [] pos)^SD wc wb:=by
 let#[tc,O,P]:=I;let#[tb,Q,S]:=J;refine#[_,S0 G O Q,λC M H n T σ y E R L w=>?_];let#[W,#[U,V],g]:=w;exists λm h t=>∃i j a,Rel X.K C i t j a h/\W m j a,#[U,M,n,T,R,V];rintro m h t ⟨i,j,a,z,Y⟩;refine P C i t j a h _ _ z (g m j a Y) λb H2 B e f p=>?_;have R2:=z.step e f;cases b with
 | true=>
  rw[if_pos rfl]at p ⊢;let#[N,Z,p]:=p;exists λD F=>∃u k l,Rel X.K C u F k l D/\N k l,λD F #[u,k,l,R3,w3]=>?_
  .let#[m',hm,d]:=Z k l w3
   exact#[m',hm,u,k,l,R3,d]
  .exact S C i H2 B a h {y with nx:=N,ct:=N,bk:=y.nx} _ R2 #[λo v q r x s d=>#[o,q,r,s,d],L.rt,λo v q r x s d=>L.nx o v q r x s d,λo v q r x s d=>#[o,q,r,s,d]] p
 |false=>
  rw[if_neg^by cbv]at p ⊢;exact L.nx i H2 B a h R2 p
theorem Gq(I:Nat->Nat->r_ Slot->Prop)(i:Nat)(j:I i n a)
  (k:∀m n a (N:Nat->r_ Slot->Prop),I m n a->(∀c e g,c<m->I c e g->N e g)->wc n a λb d=>if b=p_ then wb {f with nx:=N,ct:=N,bk:=f.nx} d a else f.nx d a)
  (mono:∀n a (P Q:Bool->Nat->Prop),(∀b d,P b d->Q b d)->wc n a P->wc n a Q):SD wc wb f n a:=by
 refine#[I,#[i,j],λm n a h=>?_];refine mono n a _ _ (λb d p=>?_)^k m n a (λe g=>∃c,c<m/\I c e _) h λc e g l o=>#[c,l,o];cases b with
 |true=>exact#[_,λ_ _ z=>z,p]
 |false=>exact p
end
end Dp
namespace L2
open PySem.W
section
variable {St:Nat->Heap->Prop}
def Xk(prog:f7)(w:gB)(A:gE)(c:CmpOp)(P:Nat->Db->Prop)(d:fz->Prop)(e:Nat->Nat->Bool):Prop:=
 ∀i j a b (s:Go) (Q:Db->Go->Prop) (E:Db->Go->Prop),d s.heap->P i a->P j b->Q (.bool^e i j) s->wpAny (model prog w) A (richCompare c a b) Q E s
theorem Qz(W:Walks prog w A.in1 I fp wr n P St)(D:Nat->Nat->Bool)(G:fz->Prop)(H:Xk prog w A.in1 .Lt P G D)(S:Ch)(J:S∉fp)(g:∀h u:fz,G h->(∀b o,b∉wr->b≠S->h.get? b=P3 o->u.get? b=P3 o)->G u):
  ∀(k j:Nat) (s:Go) (r:Db) (c:Nat),n - (j+1)=k->j+1<=n->St (j+1) s.heap->G s.heap->P (argBest D j) r->
  s.heap.get? S=P3 {cls:=.type "list",dict:=o_,data:=.seq #[ r,r] c,slots:=#[]}->
  (∀v u O,P (argBest D (n - 1)) v->(∀b o,b∉wr->b≠S->s.heap.get? b=P3 o->u.get? b=P3 o)->R (.ok^.ret v) {s with heap:=u,toks:=O})->
  codeAny (model prog w) A (.builtin "min.loop" #[[.ref I,.none,.ref S],[]]) R s:=by
 have K:S∉wr:=λh=>J^W.sub _ h;have i:(toString "min"++toString ".loop":String)="min.loop":=by cbv
 intro k
 induction k with
 |zero=>
  intro j s r c Z hj y L t M Q;have N:j+1=n:=by lk
  refine h8 PySem.F.entry_min_loop ?_;simp only[iG PySem.F.plain_min_loop _];show wpAny _ A.in1 (seqItems?^.ref S >>=_) _ _ s;refine Cn (iO M rfl ?_);show wpAny _ A.in1 (tryCatch (pyNext^.ref I) _ >>=_) _ _ s;refine Cn^ki^W.done s _ _ (N▸y) λu O a=>?_;have l:=a S _ K M;show wpAny _ A.in1 (updateSeq S (λ_=>#[]) >>=_) _ _ _;refine Cn ?_;refine jx l rfl (Cn^jy^Sc ?_);refine Q r _ O (by rw[←N]; exact t) λb o d f e=>(fm _ _^gf f).trans^a b o d e
 | succ k V=>
  intro j s r c Z hj y L t M Q;have z:j+1<n:=by lk
  refine h8 PySem.F.entry_min_loop ?_;rw[iG PySem.F.plain_min_loop _];show wpAny _ A.in1 (seqItems?^.ref S >>=_) _ _ s;refine Cn (iO M rfl ?_);show wpAny _ A.in1 (tryCatch (pyNext^.ref I) _ >>=_) _ _ s;refine Cn^ki^W.item (j+1) s _ _ z y λv u O X x a=>?_;have l:=a S _ K M;have m:G u:=g _ _ L λb o h1 _ e=>a b o h1 e;show wpAny _ A.in1 (tryCatch (holding [v,v] (richCompare .Lt v r >>=_)) _ >>=_) _ _ _;refine Cn^ki^gU^Cn^H (j+1) (argBest D j) v r _ _ _ m X t ?_;refine Cn^gU^iJ ?_;refine Cn^jy^Sc ?_;cases Y:D (j+1)^argBest D j with
  | true=>
   simp only[if_true];refine Cn ?_;refine jx l rfl (Cn^jy ?_);rw[i]
   refine Sc #[iL PySem.F.plain_min_loop _,V (j+1) _ v _ (by lk) z (W.frame _ _ _ x λb T o e=>?_) (g _ _ m λb o _ h2 e=>(fm _ _^gf h2).trans e) (by simp only[argBest,Y,if_true]; exact X) (g7 _ l rfl)
    λU B p C q=>?_]
   .exact(fm _ _ λh:S=b=>J^by simp only[h]; exact T).trans e
   .exact Q U B p C λb o d f e=>q b o d f^(fm _ _^gf f).trans^a b o d e
  |false=>
   simp only[ig,if_false];refine Cn^jy ?_;rw[i];refine Sc #[iL PySem.F.plain_min_loop _,V (j+1) _ r c (by lk) z x m (by simp only[argBest,Y,ig,if_false]; exact t) l λU B p C q=>?_];exact Q U B p C λb o d f e=>q b o d f^a b o d e
theorem Oa(W:Walks prog w A.in1 I fp wr n P St)(x:Nat->Nat->Bool)(j:fz->Prop)(k:Xk prog w A.in1 .Lt P j x)(S:Ch)(d:S∉fp)(a:∀h f:fz,j h->(∀b o,b∉wr->b≠S->h.get? b=P3 o->f.get? b=P3 o)->j f)(G:0<n)(y:St 0 s.heap)(z:j s.heap)
  (H:s.heap.get? S=P3 {cls:=.type "list",dict:=o_,data:=.seq #[] c,slots:=#[]})
  (K:∀v f J,P (argBest x (n - 1)) v->(∀b o,b∉wr->b≠S->s.heap.get? b=P3 o->f.get? b=P3 o)->R (.ok^.ret v) {s with heap:=f,toks:=J}):
  codeAny (model prog w) A (.builtin "min.loop" #[[.ref I,.none,.ref S],[]]) R s:=by
 have B:S∉wr:=λh=>d^W.sub _ h;have g:(toString "min"++toString ".loop":String)="min.loop":=by cbv
 refine h8 PySem.F.entry_min_loop ?_;refine Cn (iO H rfl ?_);refine Cn^ki^W.item 0 s _ _ G y λv f J L l i=>?_;have m:=i S _ B H;have p:j f:=a _ _ z λb o M _ e=>i b o M e;show wpAny _ A.in1 (updateSeq S (λ_=>#[ v,v]) >>=_) _ _ _;refine Cn ?_;refine jx m rfl ?_;rw[g];refine Sc #[iL PySem.F.plain_min_loop _,Qz W x j k S d a _ 0 _ v _ rfl G (W.frame _ _ _ l λb N o e=>?_) (a _ _ p λb o _ O e=>(fm _ _^gf O).trans e) L (g7 _ m rfl) λQ C q D r=>?_]
 .exact(fm _ _ λh:S=b=>d^by simp_all).trans e
 .exact K Q C q D λb o t u e=>r b o t u^(fm _ _^gf u).trans^i b o t e
theorem min_list(u:Nat->Nat->Bool)(G:A.handled=o_)(x:s.heap.IsList l a)(H:0<a.size)
  (m:∀i j r t (p:Go) (Q:Db->Go->Prop) (E:Db->Go->Prop),(∀b o,s.heap.get? b=P3 o->p.heap.get? b=P3 o)->a[i]?=P3 r->a[j]?=P3 t->Q (.bool^u i j) p->wpAny (model prog w) A.in1 (richCompare .Lt r t) Q E p)
  (h:∀v k y,a[argBest u (a.size - 1)]?=P3 v->(∀b o,s.heap.get? b=P3 o->k.get? b=P3 o)->Q v {s with heap:=k,toks:=y}):wpAny (model prog w) A (call (.builtin "min") [.ref l]) Q E s:=by
 have d:(toString "min"++toString ".loop":String)="min.loop":=by cbv
 have f:l<s.heap.objs.size:=by let#[_,e,_]:=x; exact Tk e
 refine call_function_tree PySem.F.kind_min PySem.F.plain_min PySem.F.entry_min (PySem.F.args_min1 _) ?_;show wpAny _ A.in1 (lw "min" ["key","default"] 0 #[[],[]] >>=_) _ _ s;refine Cn^li (show lw "min" ["key","default"] 0 #[[],[]]=pure [o_,o_]from rfl) ?_;refine Cn^Sc ?_;refine Cn^iK x ?_;refine Cn^iA ?_;rw[d];have W:=Walks.list (prog:=prog) (w:=w) (A:=A.in1) G s.heap.objs.size l (f9 f) a;have g:(s.heap.push {cls:=.type "list_iterator",data:=.fields #[ .ref l,.int 0 0]}).objs.size=s.heap.objs.size+1:=iT _ _;refine Sc #[iL PySem.F.plain_min_loop _,Oa W u (λk=>∀b o,s.heap.get? b=P3 o->k.get? b=P3 o) (λi j r t p Q E z C D q=>m i j r t p Q E z C D q) (s.heap.push {cls:=.type "list_iterator",data:=.fields #[ .ref l,.int 0 0]}).objs.size (λc=>?_) (λC D z B b o e=>B b o (λc=>?_) ?_^z b o e) H #[#[_,Ev _ (UF _ rfl),rfl,rfl],(x.push _).push _] (λb o e=>Ev _^Ev _ e) (UF _ rfl) λv k y J B=>?_]
 .rw[g]at c
  rcases TW.mp c with e|c
  .exact absurd e^Nat.succ_ne_self _
  .rw[←Re.mp c]at f
   exact absurd f^kg.mpr^gq _
 .rw[Re.mp c]at e
  exact absurd (Tk e)^gS _
 .rw[g]
  exact f9^iV^Tk e
 .refine h v k y J λb o e=>B b o (λc=>?_) ?_^Ev _^Ev _ e
  .rw[Re.mp c]at e
   exact absurd (Tk e)^gS _
  .rw[g]
   exact f9^iV^Tk e
end
theorem Ju(keys:r_^r_ Key):∀m:Nat,argBest (λi j=>A6 (keys.getD i [])^keys.getD j []) m<=m/\∀i,i<=m->A6 (keys.getD i [])^keys.getD (argBest (λi j=>A6 (keys.getD i [])^keys.getD j []) m) []=q_
 |0=>#[On _,λi a=>by
  have:i=0:=by lk
  subst this;exact Bn _]
 | m+1=>by
  let#[d,b]:=Ju keys m;unfold argBest
  by_cases c:A6 (keys.getD (m+1) [])^keys.getD (argBest (λi j=>A6 (keys.getD i [])^keys.getD j []) m) []=p_
  .rw[if_pos c]
   refine#[On _,λi a=>?_]
   by_cases e:i=m+1
   .subst e; exact Bn _
   .cases z:A6 (keys.getD i [])^keys.getD (m+1) [] with
    |false=>rfl
    |true=>
     have:=B7 _ _ _ z c
     rw[b i^by lk]at this;cases this
  grind
section

def W1(K:Frag):r_ V->Hp->VK->Prop:=λb H Q=>∃(p:Ch) (a:r_ V) (keys:r_^r_ Key),b=[.ref p]/\SqL K H p a/\0<a.length/\zF K H a keys /\
 ∀j v,a[j]?=P3 v->(∀i,i<a.length->A6 (keys.getD i [])^keys.getD j []=q_)->Q v H
theorem Rc(U:qj k X.A):CL X (.builtin "min")^W1 X.K:=by
 intro zG s σ H V us Q I r h;let#[p,vs,c,rfl,hq,hn,B,q]:=h;let#[u,rfl,rx]:=vals1 r;subst rx;let#[f,E,pl,hz]:=I.list hq;have W:=E.length;have Y:=B.qI I E λb o e=>e;have hu:=U.un;refine min_list (λi j=>A6 (c.getD i [])^c.getD j []) U.hd pl.isList (by simp only[fk]; lk) (λi j vi vj s' Q' E' d G J L=>?_) λv h' M N d=>?_
 .have C:i<c.length:=by simp only[←B.len,W]; have:=(kO.mp G).1; simpa using this
  have l:j<c.length:=by simp only[←B.len,W]; have:=(kO.mp J).1; simpa using this
  let#[a,#[a1,dd,Z,sl],V,n,m,D,e3,e4,e5]:=Y.at_ i c[i] (FM C);let#[a',#[a0,O,P,R],S,n',g,t,w,y,T]:=Y.at_ j c[j] (FM l);simp only at e3 e4 w y;subst e3 e4 w y;have m:f.toArray[i]?=P3^.ref a:=by simp only[←m]; simp
  have g:f.toArray[j]?=P3^.ref a':=by simp only[←g]; simp
  rw[m]at G;rw[g]at J;injection G with G;subst G;injection J with J;subst J;have z:=B.same _ (gH C) _^gH l;have g1:c.getD i []=c[i]:=by rw[gN,FM C]; rfl
  have g2:c.getD j []=c[j]:=by rw[gN,FM l]; rfl
  simp only[g1,g2]at L;rw[←FA _ _ z]at L
  exact richCompare_meets_room (op:=.Lt) #[_,d _ _ D,rfl] #[_,d _ _ t,rfl] PySem.F.slot_tuple_lt PySem.F.entry_tuple_lt (PySem.F.args_tuple_lt_2 _ _) (FQ a a' V S n n' dd O sl R c[i] c[j] e5 T z)
   #[d _ _ D,d _ _ t,show ke (Ei c[i] c[j])≠nN/\Q' (.bool (Ei c[i] c[j])) s' from#[(λx=>nomatch x),L]] (by show X.A.units+1<cLine; lk)
 .let#[b1,b2]:=Ju c (f.toArray.size - 1)
  rw[fk]at N b1 b2;have l:argBest (λi j=>A6 (c.getD i [])^c.getD j []) (f.length - 1)<vs.length:=by lk
  let#[u,m,ru]:=E.get^FM l;have D:f.toArray[argBest (λi j=>A6 (c.getD i [])^c.getD j []) (f.length - 1)]?=P3 u:=by simp only[←m]; simp
  rw[D]at N;injection N with N;subst N;exact#[_,H,I.kept (t':=M) d,ru,q _ _ (FM l) λi C=>b2 i^by lk]
end
end L2
namespace Dp
open L2
def bc(d:r_ D)(P:D->Prop):Prop:=∃a,d=[.lst a]/\0<a.length/\Keyed Cr a/\∀x∈a,(∀y∈a,∀b c,Cr x=P3 b->Cr y=P3 c->A6 c b=q_)->P x
theorem ZS{K:Frag}:Dr K .sh (W1 K) bc:=by
 intro U M H D E P Q p F r w q;let#[e,rfl,G,l,w]:=w;let#[v,rfl,s]:=DY r;let#[a,t,rfl,_,u,f]:=s;let#[b,x,g]:=FC l.1;have c:=f.length;refine#[a,t,b,rfl,.inl u,by lk,G9 (λd k v _=>G_) f l x g,λj v m z=>?_];have h:j<e.length:=by simp only[←c]; exact(XV.mp m).1
 let#[I,n,A]:=f.get^FM h;rw[m]at n;injection n with n;subst n;refine q v H e[j] .refl A (w _ (gH h) λy B J L ex N=>?_);let#[i,o]:=jN.mp B;have C:i<e.length:=(XV.mp o).1;let#[O,R,S,_]:=g i y o;let#[T,V,W,_]:=g j e[j] (FM h)
 grind
end Dp
namespace Nt
open L2 Dp
def WS:W2:=λc n P=>∃m:Nat,c=[.fd,.sh^.int m]/\1<=m/\m<=26/\11<=n/\∀(a:r_ Str) (b:Nat),a.length=m->(∀x∈a,D7 x)->rising a->n - 11<=b->P (.lst^a.map .str) b
def words:r_ Str:=["a","aa","ab","b","far","in","near","out","place","tie","ties","way"]
def wordAt(i:Nat):Str:=words.getD i "a"
theorem N3:∀i,i<12->D7^wordAt i:=by
 have h:∀i∈gG 12,1<=(wordAt i).length/\(wordAt i).length<=8/\∀c∈cs^wordAt i,97<=c/\c<=122:=by decide +kernel
 exact λi a=>h i^hV.mpr a
theorem QM:∀i j,i<12->j<12->wordAt i=wordAt j->i=j:=by
 have h:∀i∈gG 12,∀j∈gG 12,cs^wordAt i=cs^wordAt j->i=j:=by decide +kernel
 exact λi j a b e=>h i (hV.mpr a) j (hV.mpr b)^congrArg cs e
def qX:Str:="abcdefghijklmnopqrstuvwxyz"
theorem JV(i:Nat)(h:i<26):(cs qX)[i]?=P3 (97+i):=by
 have a:∀i∈gG 26,(cs qX)[i]?=P3 (97+i):=by decide +kernel
 simp_all
theorem G4{c i:Type}{f:c->i}:∀{l:r_ c},l.Nodup->(∀a∈l,∀b∈l,f a=f b->a=b)->(l.map f).Nodup
 |[],_,_=>gl
 |a::l,h,d=>by
  rw[gF]at h;rw[gJ,gF];refine#[λj=>?_,G4 h.2 λx k y m=>d x (TM _ k) y^TM _ m];let#[b,g,e]:=Rs.mp j;exact h.1 (d a Op b (TM _ g) e.symm▸g)
theorem Vc{M:Nat}(d:m<=M)(g:j<m)(i:k<m)(e:(f+j) % M=(f+k) % M):j=k:=by
 have h:∀a b,a<=b->b<m->(f+a) % M=(f+b) % M->a=b:=λa b c l e=>by
  have:=Nat.sub_mod_eq_zero_of_mod_eq e.symm
  rw[Nat.mod_eq_of_lt^by lk]at this;lk
 rcases Nat.le_total j k with c|c
 .grind
 grind
theorem Gi(a:r_ Str):Nq^a.map .str=P3 a:=by
 induction a with
 |nil=>rfl
 |cons y r b=>
  rw[gJ];unfold Nq
  simp_all
theorem Vi:∀(a:r_ Str),cs^Txt.join (gu "") a=a.flatMap cs:=by
 intro a;show cs^Builtin.Str.glued _ a=_;rw[StrLaws.glued_eq_join]
 induction a with
 |nil=>rfl
 | cons x r b=>
  cases r with
  |nil=>simp only[j7,List.flatMap_nil,gM]; rfl
  |cons y r=>
   show cs (x++gu ""++lg _ _)=_;simp only[CF,CF,b];show cs x++[]++_=_
   simp_all
theorem TU{a:r_ Str}(h:∀z∈a,z.length=1):(a.flatMap cs).length=a.length:=by
 induction a with
 |nil=>rfl
 |cons x r b=>
  simp only[j7,fh,b λz c=>h z^TM _ c,Dk,h x Op,eq];lk
theorem Ml:∀(a:r_ Str),(∀y∈a,y.length=1)->(a.map (·.length)).sum=a.length
 |[],_=>rfl
 |y::r,h=>by
  simp only[gJ,nQ,Ml r λz b=>h z^TM _ b,h y Op,eq];lk
theorem drawn(v:m<=n)(h:∀b:r_ Str,b.length=m->(∀z∈b,z.length=1/\∀c∈cs z,97<=c/\c<=122)->P (b.map .str) (n - m)):
  Dx (Aq 2) Gp (Am CV (AH 0)^A1 Ee^AI (DF 1)^AI (AU^wC^D.int 26) A5) P (Ci 0 m) [] n [.sh^.str qX,.fd,s]:=by
 refine Km (λk g e i=>k<=m/\g=n - (m - k)/\(∃b:r_ Str,e=b.map .str/\b.length=m - k/\∀z∈b,z.length=1/\∀c∈cs z,97<=c/\c<=122)/\∃s,i=[.sh^.str qX,.fd,s]) ?_ ?_ _ _ _ _ ?_
 .grind
 .rintro k d g e i w ⟨x,rfl,⟨b,rfl,l,o⟩,s,rfl⟩ f
  refine#[26,rfl,by cbv,by cbv,by omega,λr p t=>?_];obtain⟨q,rfl⟩:∃q:Nat,r=(q:Int):=#[r.toNat,by lk];have j:q<26:=by lk
  refine#[97+q,AD^JV q j,f _ _ _ #[by lk,by clear l p t j; lk,#[b++[#[#[ 97+q]]],by simp only[gW]; rfl,by grind,λz a=>?_],_,rfl]]
  rcases Uf.mp a with a|a
  .exact o z a
  .rw[Re.mp a]
   refine#[rfl,λc u=>?_]
   have:c=97+q:=by simpa [cs]using u
   lk
 .rw[B0]
  simp_all
theorem R7(i:Nat)(h:i<12):words[i]?=P3^wordAt i:=by
 have a:i<words.length:=h;unfold wordAt
 simp_all
theorem EG(I:r_ D->Nat->r_ Slot->Prop)(i:∀n c,I all n c->l.nx n c)
  (f:∀(a:r_ D) (d:D) (j:r_ D) (n:Nat) (c:r_ Slot) (nx:Nat->r_ Slot->Prop),all=a++d::j->I a n c->(∀m o,I (a++[d]) m o->nx m o)->b d c λp=>g {l with nx:=nx,ct:=nx,bk:=l.nx} n p):
  ∀(k a:r_ D) (n:Nat) (c:r_ Slot),all=a++k->I a n c->BH b g l k n c
 |[],a,n,c,e,h=>by
  simp only[gM]at e;subst e;exact i n c h
 |d::k,a,n,c,e,h=>f _ d k n c _ e h λm o q=>EG I i f k _ m _ (by simp_all) q
theorem IG(h:Ci c n=a++d::b):d=.int (c+(a.length:Int))/\a.length<n:=by
 have f:=congrArg jG h;rw[B0]at f;have e:(Ci c n)[a.length]?=P3 d:=by simp_all
 unfold Ci at e
 simp_all
theorem bG(h:r=0\/r=1):MulOk "z" r/\(Txt.mul "z" r).length<=1/\∀c∈cs^Txt.mul "z" r,97<=c/\c<=122:=by
 rcases h with rfl|rfl
 .exact#[#[rfl,#[λh=>absurd (by cbv) h,λh=>absurd (by cbv) h]],by cbv,by cbv]
 .exact#[#[rfl,#[λ_ h=>absurd h^by cbv,λ_ h=>absurd h^by cbv]],by cbv,by cbv]
def nameAt(x:Str)(a f k:Nat):Str:=Txt.slice x o_^P3 (a:Int)++#[#[ 97+(f+k) % 26]]++Txt.slice x (P3 ((a:Int)+1))^P3 7++Txt.mul "z" ((k:Int) % 2)
theorem G5(hx:x.length=8)(c:a<7):cs^nameAt x a f k=(cs x).take a++(97+(f+k) % 26)::(((cs x).drop (a+1)).take (6 - a)++cs^Txt.mul "z" ((k:Int) % 2)):=by
 unfold nameAt;rw[CF,CF,CF,Xa (by lk)^by lk,ZJ (by lk) (by lk)^by lk];have b:(7 - ((a:Int)+1)).toNat=6 - a:=by lk
 simp only[b,iB,iB];rfl
theorem M_(hx:x.length=8)(i:∀c∈cs x,97<=c/\c<=122)(b:a<7):D7^nameAt x a f k:=by
 have e:=G5 (f:=f) (k:=k) hx b;let#[_,d,g]:=bG (r:=k % 2)^by lk
 have j:(nameAt x a f k).length=7+(Txt.mul "z" (k % 2)).length:=by
  rw[←Dk,e,fh,eq,fh,ie,ie,kF,Dk,Dk,jO^by lk,jO^by lk];lk
 refine#[by lk,by lk,λc h=>?_]
 grind
theorem OY(hx:x.length=8)(b:a<7)(h:m<=26)(i:j<m)(n:k<m)(e:nameAt x a f j=nameAt x a f k):j=k:=by
 have c:=congrArg cs e;simp only[G5 hx b,G5 hx b]at c;have d:((cs x).take a).length=a:=by simp only[ie,Dk]; lk
 have g:=congrArg (λl=>l[a]?) c;rw[iD^by lk,iD^by lk,d]at g
 grind
structure An where
 a:Str
 b:Str
 len:Int
structure Net where
 ps:List Str
 ts:List An
def AR(t:An):D:=.tup [.str t.a,.str t.b,.int t.len]
def enc(N:Net):D:=.tup [.tup^N.ps.map .str,.tup^N.ts.map AR]
def Bq(s t:An):Prop:=cs s.a<cs t.a\/(s.a=t.a/\cs s.b<cs t.b)
structure Net.Ok (N:Net):Prop where
 names:∀x∈N.ps,D7 x
 rise:rising N.ps
 tin:∀t∈N.ts,t.a∈N.ps/\t.b∈N.ps/\cs t.a<cs t.b/\1<=t.len/\t.len<=1000000
 qg:N.ts.Pairwise Bq
def eQ:W2:=λd n P=>∃a b:Nat,d=[.fd,.sh^.int a,.sh^.int b]/\1<=a/\a<=26/\1500<=n/\∀(N:Net) (c:Nat),N.Ok->1<=N.ps.length->N.ps.length<=a->N.ts.length<=b->n - 1500<=c->P (enc N) c
structure Ix where
 i:Nat
 j:Nat
 len:Int
def Ix.tie(a:r_ Str)(t:Ix):An:=#[a.getD t.i "",a.getD t.j "",t.len]
def Yr(s t:Ix):Prop:=s.i<t.i\/(s.i=t.i/\s.j<t.j)
theorem getD_at{a:r_ Str}(h:i<a.length):a[i]?=P3^a.getD i "":=by
 simp_all
theorem getD_mem{a:r_ Str}(h:i<a.length):a.getD i ""∈a:=gZ^getD_at h
theorem La(h:rising a)(b:i<j)(c:j<a.length):cs^a.getD i ""<cs^a.getD j "":=by
 have d:=mW.mp h i j (by omega) c b;have e:a.getD i ""=a[i]:=by rw[gN,FM _]; rfl
 simp_all
theorem Yf{b:r_ Ix}(k:∀x∈a,D7 x)(c:rising a)(d:∀t∈b,t.i<t.j/\t.j<a.length/\1<=t.len/\t.len<=1000000)(l:b.Pairwise Yr):Net.Ok #[a,b.map^Ix.tie a]:=by
 exists k,c,λt h=>?_
 .let#[u,m,rfl]:=Rs.mp h
  let#[g,e,n,o]:=d u m;exact#[getD_mem (show u.i<a.length by lk),getD_mem e,La c g e,n,o]
 .show(b.map^Ix.tie a).Pairwise Bq
  rw[ir];refine mq (λ{s t} p f h=>?_) l;let#[g,e,_]:=d s p;let#[v,q,_]:=d t f
  rcases h with h|⟨h,r⟩
  .exact .inl^La c h^by lk
  .refine .inr #[?_,La c r q]
   show a.getD s.i ""=a.getD t.i "";rw[h]
def DK(c:r_ An)(p:Str):r_ (Str×Int):=c.flatMap λt=>(if t.a=p then [(t.b,t.len)]else [])++(if t.b=p then [(t.a,t.len)]else [])
def Up(a:r_ An)(p:Str):D:=.fdi ((DK a p).map λx=>.inr x.1)^(DK a p).map λx=>.int x.2
def El(N:Net):D:=.dic (N.ps.map .inr)^N.ps.map^Up N.ts
def Ue:W2:=λa n P=>∃N:Net,a=[.sh^enc N]/\N.Ok/\N.ps.length<=1000/\N.ts.length<=1000/\P (El N) n
def kv(x:Str×Int):Key×V:=(.inr x.1,.int x.2)
structure Stp (H:Hp) (d:Ch) (as:List (Str×Ch)) (tb:Str->List (Key×V)) (H':Hp):Prop where
 old:∀b o,H b=P3 o->H' b=P3 o
 new:H d=o_
 top:H' d=P3 (.dK^as.map λx=>(.inr x.1,.ref x.2))
 inn:∀x∈as,H x.2=o_/\x.2≠d/\H' x.2=P3 (.dK^tb x.1)
 ads:(as.map (·.2)).Nodup
 nms:(as.map (·.1)).Nodup
theorem IB{b:r_ (Str×Ch)}(c:(b.map (·.1)).Nodup)(h:(p,a)∈b):Eg (b.map λx=>((.inr x.1:Key),V.ref x.2))^.inr p=P3^.ref a:=by
 induction b with
 |nil=>cases h
 | cons x r d=>
  rw[gJ,gF]at c
  rcases TW.mp h with e|h
  .rw[←e]
   exact Ej rfl
  .exact(Ek λe=>c.1^by simp only[im e]; exact Rs.mpr #[_,h,rfl]).trans^d c.2 h
theorem OI{a:r_ (Str×Ch)}(h:p∉a.map (·.1)):putK (a.map λx=>((.inr x.1:Key),V.ref x.2)) (.inr p) v=(a.map λx=>((.inr x.1:Key),V.ref x.2))++[(.inr p,v)]:=by
 unfold putK
 simp_all
theorem PZ(h:p∉a.map (·.1)):putK (a.map kv) (.inr p)^.int l=(a++[(p,l)]).map kv:=by
 unfold putK;rw[if_neg,gW]
 .rfl
 .rw[iR]
  rintro⟨y,b,e⟩;let#[x,c,rfl]:=Rs.mp b;exact h^Rs.mpr #[x,c,im^of_decide_eq_true e]
theorem Stp.more(s:Stp H d l n m)(i:m q=o_)(v:p∉l.map (·.1))(A:n p=[]):
  Stp H d (l++[(p,q)]) n (Al (Al m q^.dK []) d^.dK^putK (l.map λx=>((.inr x.1:Key),V.ref x.2)) (.inr p)^.ref q):=by
 have w:q≠d:=λe=>by simp only[e,s.top]at i; cases i
 have k:H q=o_:=by
  cases c:H q with
  |none=>rfl
  |some o=>rw[s.old q o c]at i; cases i
 exists λb o e=>?_,s.new,?_,λx f=>?_,?_
 .have B:b≠d:=λz=>by simp only[z,s.new]at e; cases e
  have r:b≠q:=λz=>by simp only[z,k]at e; cases e
  rw[AL B,AL r];exact s.old b o e
 .rw[AQ,OI v,gW]; rfl
 .rcases Uf.mp f with f|f
  .let#[y,t,j]:=s.inn x f
   have r:x.2≠q:=λz=>by rw[z,i]at j; cases j
   exact#[y,t,by rw[AL t,AL r]; exact j]
  .rw[Re.mp f]
   exact#[k,w,by rw[AL w,AQ,A]]
 .rw[gW,gg]
  refine#[s.ads,gF.mpr #[(λh=>by cases h),gl],λa u b g e=>?_];let#[x,f,rfl]:=Rs.mp u;have g:b=q:=Re.mp g;let#[y,t,j]:=s.inn x f;simp only[e,g,i]at j;cases j
 .rw[gW,gg]
  refine#[s.nms,gF.mpr #[(λh=>by cases h),gl],λa u b g e=>?_];have g:b=p:=Re.mp g;exact v^by simp only[←g,←e]; exact u
theorem Qw{c:r_ (Str×Ch)}(d:(c.map (·.1)).Nodup)(e:(p,a)∈c)(f:(p,b)∈c):a=b:=by
 have:=(IB d e).symm.trans^IB d f
 simp_all
theorem Qv{b:r_ (Str×Ch)}(c:(b.map (·.2)).Nodup)(e:(p,a)∈b)(f:(q,a)∈b):p=q:=by
 induction b with
 |nil=>cases e
 | cons x r i=>
  rw[gJ,gF]at c
  rcases TW.mp e with j|g
  .rcases TW.mp f with h|d
   .grind
   .exact absurd (Rs.mpr #[_,d,by rw[←j]]) c.1
  .rcases TW.mp f with h|d
   .exact absurd (Rs.mpr #[_,g,by rw[←h]]) c.1
   .exact i c.2 g d
theorem Stp.put(s:Stp H d c h g)(f:(p,a)∈c)(i:tb2 p=kvs)(j:∀q,q≠p->tb2 q=h q):
  Stp H d c tb2 (Al g a^.dK kvs):=by
 let#[u,k,v]:=s.inn _ f;refine#[λb o e=>?_,s.new,?_,λx l=>?_,s.ads,s.nms]
 .have m:b≠a:=λz=>by simp_all
  rw[AL m];exact s.old b o e
 .rw[AL^gf k]
  exact s.top
 .let#[n,r,t]:=s.inn x l
  exists n,r
  by_cases e:x.2=a
  .have:=Qv s.ads (show(x.1,a)∈c by grind) f
   simp only[e,AQ,this,i]
  .have:x.1≠p:=λz=>e^Qw s.nms (show(p,x.2)∈c by grind) f
   rw[AL e,j _ this];exact t
theorem M7(c:r_ An)(t:An)(p:Str):DK (c++[t]) p=DK c p++((if t.a=p then [(t.b,t.len)]else [])++(if t.b=p then [(t.a,t.len)]else [])):=by
 unfold DK
 simp_all
theorem Ln(h:q∈(DK d p).map (·.1)):∃t∈d,(t.a=p/\t.b=q)\/(t.b=p/\t.a=q):=by
 let#[x,c,rfl]:=Rs.mp h;let#[t,e,c]:=iH.mp c;exists t,e
 rcases Uf.mp c with c|c
 .simp_all
 simp_all
theorem Pn(c:r_ An)(p:Str):(DK c p).length<=2*c.length:=by
 induction c with
 |nil=>exact T0 _
 |cons t r d=>
  unfold DK at d ⊢;simp only[j7,fh,fh];have e:(if t.a=p then [(t.b,t.len)]else []).length<=1:=by grind
  grind
theorem UA(i:(d++[t]).Pairwise Bq)(f:∀s∈d++[t],cs s.a<cs s.b):t.b∉(DK d t.a).map (·.1)/\t.a∉(DK d t.b).map (·.1):=by
 rw[kH]at i
 have g:∀s∈d,¬((s.a=t.a/\s.b=t.b)\/(s.b=t.a/\s.a=t.b)):=λs c e=>by
  have j:=i.2.2 s c t (Re.mpr rfl);have m:=f s^gy _ c;have n:=f t^f8 _ (Re.mpr rfl)
  rcases e with⟨k,l⟩|⟨k,l⟩
  .unfold Bq at j
   grind
  grind
 refine#[λh=>?_,λh=>?_]
 .let#[s,c,e]:=Ln h
  exact g s c e
 .let#[s,c,e]:=Ln h
  exact g s c^e.elim (λz=>.inr #[z.2,z.1]) λz=>.inl #[z.2,z.1]
theorem LZ(h:rising c):c.Nodup:=h.imp λ{a b} d e=>by grind
theorem OV{a:r_ Str}(h:a.Nodup)(c:i<a.length):a[i]∉a.take i:=by
 have e:a=a.take i++a[i]::a.drop (i+1):=by
  simp_all
 intro b;rw[e,gg]at h;exact h.2.2 _ b _ Op rfl
theorem Stp.at_{K:Frag}(t:∀a,M a->∃o,H a=P3 o)(s:Stp H d c (λp=>(DK N.ts p).map kv) q)(u:c.map (·.1)=N.ps)(f:Ch->Obj):At K M (FK q (c.map (·.2)) f) (El N)^.ref d:=by
 have v:∀b,H b=o_->¬M b:=λb e m=>by let#[o,h]:=t b m; rw[h]at e; cases e
 have i:∀c:r_ (Str×Ch),(c.map λx=>((.inr x.1:Key),V.ref x.2))=((c.map (·.1)).map (.inr:Str->Key)).zip (c.map λx=>V.ref x.2):=λc=>by
  grind
 refine#[d,c.map λx=>.ref x.2,rfl,#[v d s.new,by rw[Dg (λw=>by let#[x,j,e]:=Rs.mp w; exact(s.inn x j).2.1 e),s.top,i,u]],by simp only[No,No],?_];rw[←u]
 have z:∀k:r_ (Str×Ch),(∀x∈k,x∈c)->Ats K M (FK q (c.map (·.2)) f) ((k.map (·.1)).map^Up N.ts) (k.map λx=>V.ref x.2):=λk=>by
  induction k with
  |nil=>intro _; rfl
  | cons x r l=>
   intro j;refine#[.ref x.2,r.map λx=>V.ref x.2,rfl,?_,l λy A=>j y^TM _ A];let#[B,D,C]:=s.inn x^j x Op
   have n:∀g:r_ (Str×Int),g.map kv=(g.map λx=>(.inr x.1:Key)).zip (g.map λx=>V.int x.2):=λg=>by
    induction g with
    |nil=>rfl
    |cons x r l=>rw[gJ,l]; rfl
   refine#[x.2,(DK N.ts x.1).map λx=>V.int x.2,rfl,#[f x.2,v _ B,by rw[Ly (Rs.mpr #[x,j x Op,rfl]) C,n]],by simp only[No,No],?_];generalize DK N.ts x.1=g
   induction g with
   |nil=>rfl
   |cons x r l=>exact#[.int x.2,_,rfl,rfl,l]
 exact z c λ_ h=>h
end Nt
namespace L2
def eo(d:Ch)(o:Obj)(a:r_ (Key×V)):It:=
 #[λi H=>H d=P3^.frz o^.dK a/\i<a.length,λi H x b=>∃T p,x=.ref T/\H T=o_/\a[i]?=P3 p/\b=Al H T^.tup [kV p.1,p.2],λi H=>H d=P3^.frz o^.dK a/\a.length<=i]
theorem Tl(h:(A7 P w).is k u=p_):RelV (kV k) u:=by
 rcases BN h with⟨i,t,rfl,rfl⟩|⟨x,t,rfl,rfl⟩
 .exact#[t,rfl]
 .exact#[t,rfl]
theorem FH(I:Inv X j k H s)(h:H d=P3^.frz o^.dK a)(hd:o.data=.dict c e):
  ∃b,KV a b/\s.heap.DictAt (A7 X.prog X.w) d b e:=by
 let#[f,_,_,b,l,r,m,n,g,p,i,q]:=(I.hok d _ h);rw[f]at g;injection g with g;subst g;rw[hd]at i;injection i with i;subst i;exact#[b,l,o,c,f,p,hd,q]
theorem N8{K:Frag}(d l:Ch)(o:Obj)(f:r_ (Key×V))(es:Array DictEntry)(Z:Nat)(m:o.data=.dict es Z):
  Turn P w K (.Tuple L j pos) (eo d o f) [l] l (λi h=>∃ok n,IsItemIter h l d i f.length Z ok n) where
 mem:=by simp
 obj:=λi h #[ok,n,b] c a=>by
  rw[Re.mp a];exact#[_,b,λv q=>by cases q]
 keep:=λi h h' #[ok,n,b] k=>#[ok,n,k l (by simp) _ b]
 item:=by
  intro X M N O a i zG s σ H E I C b R;subst M N O;let#[S,hi]:=R;let#[ok,n,b]:=b;let#[F,G,D]:=FH I S m
  have J:=G.length;have T:i<F.length:=by lk
  rw[J]at b;obtain⟨k,v,U⟩:∃k v,F[i]=(k,v):=#[_,_,rfl];have hx:F[i]?=P3 (k,v):=by simp only[FM T,U]
  have hp:f[i]?=P3 f[i]:=FM hi;let#[Y,rv]:=JH G hp hx;have Y:f[i].1=k:=Y;refine wpAny_pyNext_items_item b D hx λp h' r t u a0 x=>#[_,rfl,?_];refine wpAny_letOwnedTupleGo_items t λh2 y g=>?_;have hT:H s.heap.objs.size=o_:=I.hok.fresh^On _;have B:s.heap.objs.size≠l:=i7^Tk b
  have kk:∀c o,c∉[l]->s.heap.get? c=P3 o->h2.get? c=P3 o:=λc o a e=>by
   have a:c≠l:=λz=>a (by simp only[z]; exact Re.mpr rfl);exact(g.2 c a).trans^x c o a e
  have I2:Inv X zG σ (Al H s.heap.objs.size^.tup [kV f[i].1,f[i].2]) {s with heap:=h2}:=by
   refine I.vH (t':=s.toks) (ch:=[l]) (λc a=>C c a) kk (On _) ?_;exact#[by show 2<=sizeLine; decide,[p,v],.cons (Tl^by rw[Y]; exact r)^.cons rv .nil,#[_,(g.2 _ B).trans u,rfl,_,rfl,rfl,rfl]]
  refine#[.ref s.heap.objs.size,_,I2,rfl,#[_,_,rfl,hT,hp,rfl],#[p,v,by rw[J]; exact y],λc a=>?_];simp only[Re.mp a,AL^gf B];exact(C l^by simp).1
 done:=by
  intro X M N O a i zG s σ H E I C b R;subst M N O;let#[S,hi]:=R;let#[ok,n,b]:=b;let#[F,G,D]:=FH I S m
  have J:=G.length;rw[J]at b;refine wpAny_pyNext_items_end (I.ok.hd a) b D (jP^by lk) λh' ext=>#[rfl,?_];exact I.zS (t':=s.toks) (ch:=[l]) (λc a=>C c a) λc o a e=>ext c o (λz=>a^by simp only[z]; exact Re.mpr rfl) e
 self:=λA i s Q E #[ok,n,b] h=>PySem.W.kcp_self b h
def Yv(c:TE):TI:=λe H R=>c e H λx b=>∃d o a,x=.ref d/\b d=P3^.frz o^.dK a/\∀r,b r=o_->R (eo d o a)^Al b r^.ext λh=>h.IsItemsView r d
theorem S6(Q:PE X e G)(m:attributeBase e "items" X.env^eval e X.env=eval e X.env:=by rfl)(n:(g.endLine==i.line)=p_:=by rfl):
  PI X (.Tuple z j p) (.Call (.Attribute e "items" g) [] [] i) (Yv G):=by
 intro J s K H R I h;refine wpAny_Call_method0_late m n^thn (Q J s K H _ I h) λv a zz=>?_;let#[x,u,r,S,d,o,f,ex,t,q]:=zz;subst ex;subst S;let#[L,M,T]:=Oh r^.inl #[f,.inr #[o,t]];let#[_,_,N,U,D]:=Fb r.hok^.inr #[o,t];refine#["dict","dict.items",PySem.F.plainAttrs_dict,PySem.F.slot_dict_items,PySem.F.type_dict_items,L,M,jH rfl (PySem.evalArgs_none ?_)];refine lK PySem.F.slot_dict_items D.typeIs PySem.F.entry_dict_items (PySem.F.args_dict_items_1 _) (meets_dict_items (A7 X.prog X.w) d T) #[#[N,D],?_];have O:u a.heap.objs.size=o_:=r.fresh;have P:(a.heap.push {cls:=.type "dict_items",data:=.fields #[ .ref d]}).IsItemsView a.heap.objs.size d:=#[_,UF _ rfl,rfl,rfl]
 have y:Inv X J K (Al u a.heap.objs.size^.ext λh=>h.IsItemsView a.heap.objs.size d) {a with heap:=a.heap.push {cls:=.type "dict_items",data:=.fields #[ .ref d]}}:=
  r.laid (t':=a.toks) (λb o e=>Ev _ e) (On _) #[P,#[_,UF _ rfl],λL M #[o,e,c] k=>#[o,k o e,c]]
 have A:(Al u a.heap.objs.size^.ext λh=>h.IsItemsView a.heap.objs.size d) d=P3^.frz o^.dK f:=by rw[AL^Ak t O]; exact t
 obtain⟨B,C,l⟩:∃B C,o.data=.dict B C:=by
  let#[e0,_,_,N,U,o',V,W,e1,e2,e3,e4]:=(show qv X.prog X.w u a.heap d^.frz o^.dK f from r.hok d _ t)
  simp_all
 let#[Y,E,Z]:=FH y A l
 have hl:=E.length;refine wpAny_pyIter_items (s:={a with heap:=a.heap.push {cls:=.type "dict_items",data:=.fields #[ .ref d]}}) P Z ?_;refine#[_,[(a.heap.push {cls:=.type "dict_items",data:=.fields #[ .ref d]}).objs.size],_,eo d o f,_,rfl,y.kept (t':=a.toks) λb o e=>Ev _ e,N8 d _ o f B C l,#[.none,.none,by rw[hl]; exact UF _ rfl],λc hc=>?_,q _ O];simp only[Re.mp hc];exact y.vT (On _) y.fresh
end L2
namespace Dp
open L2
def wItems(c:DW):Dq:=λn e P=>c n e λd f=>∃a b,d=.fdi a b/\(∀k∈a,Lv k)/\P (EA (a.map Ra) b) f
theorem To(k:Key):kV k=kOf k:=by cases k <;>rfl
section

theorem UG(V:DE X a zU wa)(c:attributeBase a "items" X.env^eval a X.env=eval a X.env:=by rfl)(f:(apos.endLine==cpos.line)=p_:=by rfl):DI X (.Tuple els j tpos) (.Call (.Attribute a "items" apos) [] [] cpos)^wItems wa:=by
 let#[t,W,Y]:=V;refine#[_,S6 W c f,λC M H n Z σ P Rr R w q=>?_];refine Y C M H n Z σ _ _ R w λv l d n1 I J r1 p=>?_;let#[b,m,rfl,s,p]:=p;have R1:=R.step I J;obtain⟨D,k,rfl,⟨o,nM,L⟩,N,O⟩:∃a k,v=.ref a/\NdF M l a b k/\b.length=m.length/\Ats X.K M l m k:=r1.qw R.dom R.vM;have hl:=O.length;refine#[D,o,_,rfl,L,λr hr=>?_];have g:qW l (Al l r^.ext λh=>h.IsItemsView r D):=Ab hr;refine q _ _ _ n1 (I.trans g.ext) (J.grow g) (λi Q E pr F=>?_) p;have u:qZ M l Q E:=g.qq.trans pr;have z:E D=P3^.frz o^.dK^b.zip k:=(u.nd nM L).2;have zl:(b.zip k).length=b.length:=by rw[lS]; lk
 have zd:(EA (b.map Ra) m).length=b.length:=by unfold EA; rw[List.length_zipWith,No]; lk
 refine#[λe B=>?_,λa0=>#[z,by lk]];have G:i<b.length:=by simp only[←zd]; exact(XV.mp B).1
 have A:i<m.length:=by lk
 refine#[#[z,by lk],λx H2 y=>?_];let#[T,pp,rfl,S,U,rfl]:=y;let#[v',e1,h1]:=(O.qq u).get^FM A
 have e2:(b.zip k)[i]?=P3 (b[i],v'):=by
  rw[mX];exact#[FM G,e1]
 rw[e2]at U;injection U with U;subst U
 have e3:e=.tup [Ra b[i],m[i]]:=by
  unfold EA at B;rw[kA,fo,FM G,FM A]at B;exact(fu B).symm
 subst e3;refine#[Ab S,C9 F S #[_,_,rfl,?_,_,_,rfl,h1,rfl]];show At X.K Q E (Ra b[i]) (kV b[i]);simp only[To];exact UN^s _^gH G
end
section
variable {K:Frag}
theorem Rel.hold(R:Rel K C M H n ρ σ)(h:H p=o_):Rel K C (λb=>M b\/b=p) (Al H p o) n ρ σ:=by
 have g:qW H^Al H p o:=Ab h;have j:qZ M H _^Al H p o:=Fs h;refine#[R.len,λa z=>.inl^R.sub a z,λa z=>?_,R.ext.trans g.ext,R.fU,R.uV,λa z=>.inl^R.vM a z,(R.feed.grow g).more p λf k q=>?_,λi s q=>(R.sl i s q).qq j (λ_ z=>.inl z) g.ext R.uV,λq c=>(R.pin q c).trans j,R.br0,R.new,R.two,λq c=>?_]
 .rcases z with z|z
  .let#[u,d]:=R.dom a z
   exact#[u,g.all a u d]
  .rw[z]; exact#[o,AQ]
 .let#[_,_,_,_,_,e,_]:=R.feed f k
  have:=e.2
  simp_all
 .let#[d,l,e,m]:=R.kept q c
  exact#[g.all _ _ d,.inl l,e,m]
end
def Jd(a:r_ Key)(k:Key):Bool:=a.any λb=>decide (b=k)
theorem qE:Jd a k=p_↔k∈a:=by
 unfold Jd
 simp_all
def DJ(a:r_ Key)(k:Key):r_ Key:=if Jd a k=p_ then a else a++[k]
def DX{a:Type}(b:r_ Key)(c:r_ a)(k:Key)(d:a):r_ a:=if Jd b k=p_ then jm (λe f=>if e=k then d else f) b c else c++[d]
theorem WN{d:r_ V}(j:c.length=d.length)(k:Key):((c.zip d).any λf=>decide (f.1=k))=Jd c k:=by
 rw[hX,iR,qE];constructor
 .rintro⟨⟨a,b⟩,g,e⟩
  have e:=of_decide_eq_true e;simp only[←e];exact(kT g).1
 .intro h
  let#[i,l,e]:=lT.mp h;exact#[(c[i],d[i]'(by lk)),lT.mpr #[i,by grind,by simp],by simp_all]
theorem Sw(f:c.length=d.length)(k:Key)(v:V):putK (c.zip d) k v=(DJ c k).zip^DX c d k v:=by
 delta putK DJ DX;rw[WN f]
 by_cases h:Jd c k=p_
 .have l:∀(c:r_ _) (d:r_ V),((c.zip d).map λe=>if e.1=k then(e.1,v)else e)=c.zip^jm (λg i=>if g=k then v else i) c d:=by
   intro c
   induction c with
   |nil=>intro d; rfl
   | cons a c j=>
    intro d;cases d with
    |nil=>rfl
    |cons b d=>
     show(if a=k then(a,v)else(a,b))::_=(a,if a=k then v else b)::_;exact List.cons_eq_cons.mpr #[by split <;>rfl,j d]
  simp_all
 .rw[if_neg h,if_neg h,if_neg h,List.zip_append f]
  rfl
theorem Ats.put{K:Frag}(hd:At K M H d v):∀{c:r_ Key}{f:r_ D}{b:r_ V},Ats K M H f b->Ats K M H (jm (λg i=>if g=k then d else i) c f)^jm (λg i=>if g=k then v else i) c b
 |[],f,b,h=>rfl
 |a::c,[],b,h=>by cases(h); rfl
 |a::c,e::f,b,h=>by
  let#[u,r,rfl,l,j]:=h;refine#[_,_,rfl,?_,Ats.put hd j]
  grind
theorem Ats.putX{K:Frag}(hd:At K M H d v)(h:Ats K M H b c):Ats K M H (DX a b k d)^DX a c k v:=by
 unfold DX
 split
 .exact Ats.put hd h
 .exact h.append^Ats.one hd
theorem PY(e:a.length=c.length):(DJ a k).length=(DX a c k d).length:=by
 delta DJ DX
 grind
theorem KY:∀{b:r_ Key}{ds:r_ D}{k:Key},k∉b->BI b ds k=o_
 |[],ds,k,_=>by rfl
 |a::b,[],k,_=>rfl
 |a::b,d::ds,k,h=>by
  unfold BI;rw[if_neg λe=>h^by simp_all];exact KY λz=>h^TM _ z
theorem Gu:∀{b:r_ Key}{ds:r_ D}{k:Key},b.length=ds.length->k∈b->∃z,BI b ds k=P3 z
 |[],ds,k,_,h=>by cases h
 |a::b,[],k,h,_=>by cases h
 | a::b,d::ds,k,c,h=>by
  unfold BI
  by_cases e:a=k
  .simp_all
  .rw[if_neg e]
   exact Gu (by simp_all)^(TW.mp h).resolve_left λz=>e z.symm
theorem SJ(g:b.length=c.length)(j:Key):BI (DJ b k) (DX b c k d) j=if j=k then P3 d else BI b c j:=by
 delta DJ DX
 by_cases i:Jd b k=p_
 .have h:=qE.mp i
  rw[if_pos i,if_pos i]
  have n:∀(b:r_ Key) (c:r_ D),b.length=c.length->(j=k->k∈b)->BI b (jm (λp q=>if p=k then d else q) b c) j=if j=k then P3 d else BI b c j:=by
   intro b
   induction b with
   |nil=>
    intro c _ l
    by_cases e:j=k
    .exact absurd (l e) ft
    .rw[if_neg e]; cases c <;>rfl
   | cons a b o=>
    intro c g l;cases c with
    |nil=>cases g
    | cons e c=>
     show(if a=j then P3 (if a=k then d else e)else BI b _ j)=if j=k then P3 d else if a=j then P3 e else BI b c j
     by_cases f:a=j
     .rw[if_pos f,if_pos f]
      by_cases m:j=k
      .rw[if_pos m,if_pos^f.trans m]
      .rw[if_neg m,if_neg λz=>m^f.symm.trans z]
     .rw[if_neg f,if_neg f]
      refine o c (by simpa using g) λz=>(TW.mp^l z).resolve_left λw=>f^w.symm.trans z.symm
  exact n b c g λ_=>h
 .have h:k∉b:=λz=>i^qE.mpr z
  rw[if_neg i,if_neg i]
  have n:∀(b:r_ Key) (c:r_ D),b.length=c.length->k∉b->BI (b++[k]) (c++[d]) j=if j=k then P3 d else BI b c j:=by
   intro b
   induction b with
   | nil=>
    intro c g _;cases c with
    |nil=>
     show(if k=j then P3 d else o_)=if j=k then P3 d else o_
     by_cases e:j=k
     .rw[if_pos e,if_pos e.symm]
     .rw[if_neg e,if_neg λz=>e z.symm]
    |cons e c=>cases g
   | cons a b o=>
    intro c g l;cases c with
    |nil=>cases g
    |cons e c=>
     show(if a=j then P3 e else BI (b++[k]) (c++[d]) j)=if j=k then P3 d else if a=j then P3 e else BI b c j
     rw[o c (by simpa using g) λz=>l^TM _ z]
     by_cases f:a=j
     .rw[if_pos f,if_pos f,if_neg λz=>l^by simp only[←z,←f]; exact Op]
     .rw[if_neg f,if_neg f]
  exact n b c g h
section

def Xu(f g:DW):DW:=λn e P=>f n e λk h=>g h e λd i=>∃c,keyOf k=P3 c/\P (.dic [c] [d]) i
theorem Nc(L:DE X a zU wa)(N:DE X b zO wb)(O:zO≠.tp:=by intro z; cases z):DE X (.Dict [P3 a] [b] pos) .fr^Xu wa wb:=by
 let#[t,S,T]:=L;let#[u,V,W]:=N;refine#[_,VN (S2 S V VF) rfl rfl (iu _ _) (by show 1<=15; decide),λC M H n E F P Q R w q=>λp i=>?_];have j:=R.hold (o:=.dK []) i
 have r:¬C.U p:=λz=>by
  let#[o,w]:=R.dom p^R.vM p^R.uV p z;rw[i]at w; cases w
 refine T C _ _ n E F _ _ j w λx H2 k Y s Z r1 p1=>?_;have R2:=j.step s Z;refine W C _ _ Y E F _ _ R2 p1 λy v d n2 A G r2 B=>?_;let#[e,h,B]:=B;have R3:=R2.step A G;have D:At X.K (λb=>M b\/b=p) v d y:=r2.zj R2.dom O;have g:v p=P3^.dK []:=A.keep (s.keep AQ r) r;have hx:x=kV e:=C7 h^r1.qw j.dom j.vM;refine#[g,[(e,y)],by rw[hx]; rfl,by show 1<=15; decide,?_];show Q (.ref p)^Al v p^.dK [(e,y)];refine q _ _ (.dic [e] [d]) n2 (λb o c=>?_) ?_ #[p,rfl,i,[y],AQ,rfl,?_] B
 .have l:b≠p:=Ak c i
  let#[o1,z1,k1,I]:=s b o (by rw[AL l]; exact c);let#[o2,z2,k2,t2]:=A b o1 z1;exact#[o2,by rw[AL l]; exact z2,λJ=>(k2 J).trans^k1 J,λm z=>(t2 m^(I m z).trans z).trans^I m z]
 .refine G.qq #[λb o c l=>by rw[AL λz=>l^.inr z]; exact c,λb z=>.inl^.inl z,λb m c=>by rw[AL λz=>by simp only[z,g]at c; cases c]; exact c] λf o hf c=>?_
  rw[AL λz=>r^by simp only[←z]; exact R.fU f hf];exact c
 .exact#[y,[],rfl,D.qq^E_ (.inr rfl) g,rfl]
def KU(i:Nat)(h j:DW):AZ:=λl n e=>∃f g,e[i]?=P3^.ow^.dic f g/\j n e λd m=>h m e λk o=>∃c,keyOf k=P3 c/\f.length<sizeLine/\l.nx o^e.set i^.ow^.dic (DJ f c)^DX f g c d
theorem L_(P:qj k X.A)(hx:PE X x^CH i)(Q:DE X a zU wa)(S:DE X b zO wb)(T:zO≠.tp:=by intro z; cases z)
  (U:swapsWith b (P3^.Subscript x a pos') pos.line X.env=pure q_:=by rfl):DS X κ (.Assign [.Subscript x a pos'] b pos)^KU i wa wb:=by
 let#[t,V,W]:=Q;let#[u,Y,Z]:=S;refine#[_,II (Jc P) hx V Y U,λC M H n F o D2 E R L w=>?_];let#[l,ds,q,w]:=w;refine Z C M H n F o _ _ R w λv H1 d n1 e1 f1 r1 p=>?_;have f:=R.step e1 f1;let#[G,r,m,nv,tt]:=f.sl i _ q;exists .ref G,getD_some r;refine W C M H1 n1 F o _ _ f p λy H2 kk n2 I f2 r2 p=>?_;let#[c,g,a0,p]:=p;have R2:=f.step I f2;let#[a1,h,m',a2,s]:=R2.sl i _ q;rw[r]at h;cases h;let#[J,N,O,j]:=s;have B:At X.K M H2 d v:=(r1.zj R.dom T).qq^f.qq I;have D:l.length=J.length:=by simp only[O,j.length]
 refine#[G,_,rfl,by rw[C7 g^r2.qw f.dom f.vM]; exact DPut.k N (by rw[lS]; lk),L.nx M _ n2 _ o (R2.mut (e:=.dic (DJ l c)^DX l ds c d) q r #[DX l J c v,by rw[AQ,Sw D],PY O,(j.putX B).qq^E_ m' N]) p]
def aD:D->s_ Bool
 |.lst c=>P3 (!c.isEmpty)
 |.tup c=>P3 (!c.isEmpty)
 |.bl b=>P3 b
 |.non=>P3 q_
 |_=>o_
def Z4(wa:DW):F3:=λn e P=>wa n e λd f=>∃c,aD d=P3 c/\P c f
theorem LF{K:Frag}(h:Ats K M H c d):d.isEmpty=c.isEmpty:=by
 have:=h.length
 cases d <;>cases c <;>first|rfl|cases this
theorem X3{K:Frag}(h:AtT K U M H d x)(e:aD d=P3 c):Zb K x H c:=by
 cases d with
 |lst j=>injection e with e;subst e; let#[a,f,rfl,_,g,i]:=h; exact .inl #[f,.inl g,by rw[LF i]]
 |tup j=>injection e with e;subst e; let#[a,f,rfl,g,i]:=h; exact .inr^.inl #[f,.inl^.inl g,by rw[LF i]]
 |bl b=>injection e with e;subst e; rw[h.bl]; exact rfl
 |non=>injection e with e;subst e; rw[h]; exact rfl
 |_=>cases e
theorem Y2(h:DE X e κ wa)(g:∀f,isTrue e X.env f=(do let v ←f; standAt e.pos; holding [v]^truthy v):=by intro _; rfl):DT X e^Z4 wa:=by
 let#[t,i,j]:=h;refine#[_,Sx i g,λC M H n k l P Q R w q=>?_];refine j C M H n k l _ _ R w λv m d o r s u p=>?_;let#[c,x,p]:=p;exact#[c,X3 (u.qw R.dom R.vM) x,q c m o r s p]
def L3(c:Bool)(d e:D)(P:D->Prop):Prop:=e=.non/\P^.bl (if c then !NP d else NP d)
theorem Jx{K:Frag}:D_ K .sh (λx y H Q=>y=.non/\Q (.bl (decide (x=.non))) H)^L3 q_:=λU M H d e x y P Q c h f g w q=>by
 let#[rfl,w]:=w;exact#[g,q _ H _ .refl (by rw[NO f]; rfl) w]
theorem MN{K:Frag}:D_ K .sh (λx y H Q=>y=.non/\Q (.bl (!decide (x=.non))) H)^L3 p_:=λU M H d e x y P Q c h f g w q=>by
 let#[rfl,w]:=w;exact#[g,q _ H _ .refl (by rw[NO f]; rfl) w]

def SH(wa i:DW):DW:=λn e P=>wa n e λd j=>∃g h,Jk d=P3 (g,h)/\i j e λk l=>∃c,keyOf k=P3 c/\P ((BI g h c).getD .non) l
def SG(wa i j:DW):DW:=λn e P=>wa n e λd l=>∃g h,Jk d=P3 (g,h)/\i l e λk m=>j m e λz o=>∃c,keyOf k=P3 c/\P ((BI g h c).getD z) o
theorem SI{K:Frag}(e:Jk d=P3 (ks,g))(h:AtT K U M H d x)(l:At K M H z v):∃a o,x=.ref a/\zy H a (kV key) o/\At K M H ((BI ks g key).getD z)^o.getD v:=by
 let#[a,m,rfl,i,j]:=Jj e h;exists a,_,rfl,IV i;have h:=F7 (k:=key) (ks:=ks) j;cases c:BI ks g _ with
 |none=>simp_all
 |some y=>simp only[c]at h; let#[u,n,p]:=h; simp_all
theorem Tv{K:Frag}(e:Jk d=P3 (c,g))(h:AtT K U M H d x):∃a,x=.ref a/\cx H a:=by
 let#[a,j,rfl,i,k]:=Jj e h;exact#[a,rfl,.inl #[_,i]]
theorem WG(D:qj k X.A)(E:DE X a zU wa)(F:DE X b zO wb)(m:M1 X a "get" apos b cpos:=by exact#[rfl,rfl,rfl,rfl]):DE X (.Call (.Attribute a "get" apos) [b] [] cpos) .sh^SH wa wb:=by
 let#[t,G,I]:=E;let#[u,J,K]:=F;refine#[_,TD (Jc D) G J m,λC M H n j l P Q R w q=>?_];refine I C M H n j l _ _ R w λv L d N r O s p=>?_;let#[Z,ds,x,p]:=p;have c:=R.step r O;let#[S,rfl,T]:=Tv x^s.qw R.dom R.vM;exists S,rfl,T;refine K C M L N j l _ _ c p λy H2 kk U h B V p=>?_;let#[key,e,p]:=p;have R2:=c.step h B;have i:=(s.qw R.dom R.vM).qq (c.qq h) h R.uV;let#[W,o,ex,g,Y]:=SI (key:=key) x i (z:=.non) (v:=.non) rfl;injection ex with ex;subst ex;exact#[o,by rw[C7 e^V.qw c.dom c.vM]; exact g,q _ H2 _ U (r.trans h) B Y p]
theorem WF(E:qj k X.A)(F:DE X a zU wa)(G:DE X b zO wb)(I:DE X f κf wf)(J:κf≠.tp:=by intro z; cases z)(m:M2 X a "get" apos b f cpos:=by exact#[rfl,rfl,rfl,rfl]):DE X (.Call (.Attribute a "get" apos) [b,f] [] cpos) .sh^SG wa wb wf:=by
 let#[t,K,L]:=F;let#[u,N,O]:=G;let#[u2,S,T]:=I;refine#[_,TC (Jc E) K N S m,λC M H n j l P Q R w q=>?_];refine L C M H n j l _ _ R w λv U d V s W x p=>?_;let#[ks,ds,B,p]:=p;have e:=R.step s W;let#[Y,rfl,Z]:=Tv B^x.qw R.dom R.vM;exists Y,rfl,Z;refine O C M U V j l _ _ e p λy H2 kk n2 i f2 r2 p=>?_;have R2:=e.step i f2;refine T C M H2 n2 j l _ _ R2 p λz H3 dz n3 c D r3 p=>?_;let#[key,h,p]:=p;have R3:=R2.step c D;have r:=((x.qw R.dom R.vM).qq (e.qq i) i R.uV).qq (R2.qq c) c R.uV;have hy:=(r2.qw e.dom e.vM).qq (R2.qq c) c R.uV;let#[a0,o,ex,g,hz]:=SI (key:=key) B r^r3.zj R2.dom J;injection ex with ex;subst ex;exact#[o,by rw[C7 h hy]; exact g,q _ H3 _ n3 ((s.trans i).trans c) D hz p]
end
end Dp
namespace L2
open AutoSeq1 (wpAny_loadPart')
theorem Qu:typeLookup (.type "list_reverseiterator") "__len__"=pure o_:=by kernel_rfl
theorem Tw:typeLookup (.type "list_reverseiterator") "__length_hint__"=pure^P3^.builtin "list_reverseiterator.__length_hint__":=by kernel_rfl
theorem boot_reversed:bootBuiltins "reversed"=P3^.type "reversed":=by decide +kernel
def cW(a:f7)(w:gB)(St:Nat->Go->Prop)(I:Ch):Prop:=∀(A:gE) (E:Db->Go->Prop) (c:Go) (Q:Bool->Go->Prop),St 0 c->(∀b d,c.toks<=d->Q b {c with toks:=d})->wpAny (model a w) A (lz^.ref I) Q E c
section
variable {St:Nat->Shared->Prop}
theorem O1(S:(gR c==gR "list")=q_/\(gR c==gR "tuple")=q_)(T:cW prog w St I)
  (W:WalksS prog w A.in1 I fp wr G n P St) (U:∀i s,St i s->s.TypeIs (.ref I) c) (J:St 0 s) (K:∀b∈fp,b<s.heap.objs.size) (V:I∈fp)
  (X:∀g d,Moved wr G s g->ItemsOf P d n->Q d.toList g) (hn:n<=sizeLine):wpAny (model prog w) A (collect^.ref I) Q E s:=by
 have r:s.heap.objs.size∉fp:=λt=>gS _^K _ t;have L:s.heap.objs.size≠I:=λe=>r (e▸V);unfold collect;refine Cn^wpAny_runValue^h8 F.entry_proto_collect ?_;rw[iG F.plain_proto_collect _];show wpAny _ A.in1 (newList [] >>=λl=>again^.builtin "list.__iadd__" #[[l,.ref I],[]]) _ _ s;refine Cn^iA ?_;refine Sc #[iL F.plain_list_iadd _,h8 F.entry_list_iadd ?_];rw[iG F.plain_list_iadd _];have a:=W.frame 0 s (s.heap.push {cls:=.type "list",data:=.seq ([]:r_ Db).toArray}) s.toks J (On _) λb _ o e=>Ev _ e;have f:(s.heap.push {cls:=.type "list",data:=.seq ([]:r_ Db).toArray}).get? s.heap.objs.size=P3 {cls:=.type "list",data:=.seq ([]:r_ Db).toArray}:=UF _ rfl;have M:mr (.ref s.heap.objs.size)^.ref I=q_:=by simp[mr,L]
 show wpAny _ A.in1 (jL (.ref s.heap.objs.size) (.ref I)^.ref s.heap.objs.size) _ _ _;unfold jL;refine Cn^jI (U 0 _ a) ?_;rw[if_neg^by simp only[M,S.1,S.2]; decide];refine Cn^W.self 0 _ _ _ a ?_;refine Cn^gU ?_;refine T _ _ _ _ a λb y u=>?_
 have z:∀(h:fz) (p m:Nat),s.toks<=m->St 0 {s with heap:=h,toks:=m}->h.get? s.heap.objs.size=P3 {cls:=.type "list",data:=.seq #[] p}->(∀b o,b≠s.heap.objs.size->s.heap.get? b=P3 o->h.get? b=P3 o)->
   ∀R:Result->Go->Prop,(∀g d c,g.heap.get? s.heap.objs.size=P3 {cls:=.type "list",dict:=o_,data:=.seq d c,slots:=#[]}->Moved wr G s g->ItemsOf P d n->R (.ok^.ret^.ref s.heap.objs.size) g)->
   codeAny (model prog w) A (.builtin "list.extend.loop" #[[.ref s.heap.objs.size,.ref I,.ref s.heap.objs.size],[]]) R {s with heap:=h,toks:=m}:=by
  intro h p m Y N Z hk R hR;refine codeAny_extend_loopS W hn _ r _ n 0 _ _ _ rfl (T0 _) N Z (ItemsOf.nil P) λg B c' t O C=>hR g B c' O #[λb o x e=>t.heap b o (λj=>?_)^hk b o (f9^Tk e) e,t.gens,t.drawn,t.os,f_ Y t.toks] C
  rcases TW.mp j with e'|j
  .exact absurd (Tk e)^by rw[e']; exact gS _
  .exact x j
 have q:∀g d c,g.heap.get? s.heap.objs.size=P3 {cls:=.type "list",dict:=o_,data:=.seq d c,slots:=#[]}->Moved wr G s g->ItemsOf P d n->wpAny (model prog w) A (load s.heap.objs.size >>=λo=>match o.data with
   |.seq xs _=>pure xs.toList
   |_=>unsupported "internal:collect") Q E g:=λg d c M h2 h3=>Cn^wpAny_load M^Sc^X g d h2 h3
 have D:=W.frame 0 _ (s.heap.push {cls:=.type "list",data:=.seq ([]:r_ Db).toArray}) y a u λb _ o e=>e;refine wpAny_ite_split (λ_=>?_) λ_=>Sc #[iL F.plain_extend_loop _,z _ 0 y u D f (λb o _ e=>Ev _ e) _ q];refine Cn^kE ?_;refine Cn ?_;show wpAny _ _ (updateSeq s.heap.objs.size (·.push .none) >>=λ_=>updateSeq s.heap.objs.size (·.pop)) _ _ _;refine Cn (jx f rfl ?_);have k:=g7 (gs (·.push gO)) f rfl;refine jx (hz:=by seq_fits) k rfl ?_;have v:=g7 (gs (·.pop)) k rfl;refine Sc #[iL F.plain_extend_loop _,z _ _ y u ?_ v (λb o x e=>?_) _ q]
 .refine W.frame 0 {s with heap:=s.heap.push {cls:=.type "list",data:=.seq ([]:r_ Db).toArray},toks:=y} _ y D (On _) λb x o e=>?_
  have H:b≠s.heap.objs.size:=λh=>r (h▸x);exact(fm _ _^gf H).trans^(fm _ _^gf H).trans e
 .exact(fm _ _^gf x).trans^(fm _ _^gf x).trans^Ev _ e
theorem KI(nc:(gR c==gR "list")=q_/\(gR c==gR "tuple")=q_)(hH:cW prog w St I)(W:WalksS prog w A.in1.in1 I fp wr G n P St)(hT:∀i s,St i s->s.TypeIs (.ref I) c)(hst:St 0 s)(hfp:∀b∈fp,b<s.heap.objs.size)(hI:I∈fp)
  (h:∀s' acc,Moved wr G s s'->ItemsOf P acc n->Q₁ (.ref s'.heap.objs.size) {s' with heap:=s'.heap.push {cls:=.type "tuple",data:=.seq acc}}) (hsz:n<=sizeLine):
  codeAny (model prog w) A (.call (.builtin "tuple.__new__") #[[.type "tuple",.ref I],[]]) (wants Q₁ E) s:=by
 refine lM ?_;show wpAny _ A.in1 (do checkBuiltinCall "tuple.__new__" #[[.type "tuple",.ref I],[]]; again^.builtin "tuple.__new__" #[[.type "tuple",.ref I],[]]) _ _ s;refine Cn^li (F.newCall_tuple_1 _)^Sc #[iL F.plain_tuple_new _,h8 F.entry_tuple_new ?_];rw[iG F.plain_tuple_new _];have hsub:=sub_tuple_self;have hinit:=init_tuple_lookup;have hmh:=madeHere_tuple;have hTI:=hT 0 s hst;have nc2:=nc.2
 wp_walk using jI hTI,O1 (hn:=hsz) nc hH W hT hst hfp hI
 intro s' acc hm hacc;show wpAny _ _ (i9 acc.toList.toArray >>=λv=>ret v) _ _ _;unfold i9;refine Cn (iA ?_^by show acc.toList.toArray.size<=sizeLine; simp only[Array.toArray_toList]; rw[hacc.1]; exact hsz);refine Sc ?_;have e:acc.toList.toArray=acc:=by rfl
 rw[e];exact h s' acc hm hacc
theorem KJ(l:(gR c==gR "list")=q_/\(gR c==gR "tuple")=q_)(m:cW prog w St I)(W:WalksS prog w A.in1.in1.in1 I fp wr G n P St)(o:∀i s,St i s->s.TypeIs (.ref I) c)(j:St 0 s)(k:∀b∈fp,b<s.heap.objs.size)(p:I∈fp)
  (q:∀g e,Moved wr G s g->ItemsOf P e n->Q (.ref g.heap.objs.size) {g with heap:=g.heap.push {cls:=.type "tuple",data:=.seq e}}) (hsz:n<=sizeLine):
  wpAny (model prog w) A (call (.type "tuple") [.ref I]) Q E s:=by
 refine callType_codes (Q₁:=λf a=>a.TypeIs f "tuple"/\Q f a) nG (F.typeCall_tuple_1 _) F.entry_object_init
  (KI (hsz:=hsz) l m W o j k p λg e r h=>#[#[_,UF _ rfl,rfl],q g e r h]) λf a d=>?_
 exact#[d.1,F.args_object_init_2 f _,object_init_meets nG.init.lookup nG.made (by cbv) prog w A.in1 _ a #[d.1,rfl,d.2]]
theorem Td(e:∀i s,St i s->s.TypeIs (.ref I) "list_reverseiterator"):cW prog w St I:=by
 intro A E s Q c h;have d:=e 0 _ c;unfold lz;refine Cn^m6 d Qu ?_;show wpAny _ A (specialOf (fj I)^gu "__length_hint__" >>=_) _ _ _;refine Cn (m6 d Tw ?_)
 (generalize a:("list_reverseiterator.__length_hint__":String)=id0; wp_delta; rw[show splitId id0=P3 ("list_reverseiterator","__length_hint__")from by subst a; decide +kernel]; subst a)
 refine Cn^wpAny_isInstance (b:=p_) d (by rw[isSubtype_type]; kernel_rfl) ?_;exact Sc^h _ _^On _
end
section

def cO(X:Cx)(R:Ch->r_ V->Hp->Prop):Prop:=∀{k:r_ (Ch×Obj)}{m:St}{j:Hp}{d:Go}{l:Ch}{h:r_ V},Inv X k m j d->R l h j->∃e:r_ Db,qQ h e/\h.length<=sizeLine/\l<d.heap.objs.size /\
 ∀{A:gE}{E:Db->Go->Prop}{Q:Db->Go->Prop},(∀(o:Obj) (g:Nat) (c:String) (f:Nat->Go->Prop),o.isFreed=q_->(gR c==gR "list")=q_/\(gR c==gR "tuple")=q_->WalksS X.prog X.w X.A.in1.in1.in1 d.heap.objs.size [d.heap.objs.size,l] [d.heap.objs.size] (λa b=>b=a) e.toArray.size (λi v=>e.toArray[e.toArray.size - 1 - i]?=P3 v) f->
  (∀i s,f i s->s.TypeIs (.ref d.heap.objs.size) c)->cW X.prog X.w f d.heap.objs.size->f 0 {d with heap:=d.heap.push o,toks:=g}->Q (.ref d.heap.objs.size) {d with heap:=d.heap.push o,toks:=g})->wpAny (model X.prog X.w) A (call (.type "reversed") [.ref l]) Q E d
def Wm(R:Ch->r_ V->Hp->Prop)(te:TE):TE:=λc H Q=>te c H λx a=>∃l b,x=.ref l/\R l b a/\∀r,a r=o_->Q (.ref r)^Al a r^.tup b.reverse
theorem VM(ok:cO X R)(Z:PE X e te)(z:Gl X "tuple")(A:X.mg "tuple"=o_)(B:Gl X "reversed")(C:X.mg "reversed"=o_)(N:starEach [l8 (.Name "reversed" p2) [e] [] q2] X.env=[(q_,eval (l8 (.Name "reversed" p2) [e] [] q2) X.env)])
  (O:starEach [e] X.env=[(q_,eval e X.env)]):PE X (.Call (.Name "tuple" p1) [.Call (.Name "reversed" p2) [e] [] q2] [] q1)^Wm R te:=by
 intro t s D H Q I h;refine hU^D6 I z A boot_tuple ?_;refine h_ ?_ N rfl;rw[N];refine iw ?_;refine hU^D6 I B C boot_reversed ?_;refine h_ ?_ O rfl;rw[O];refine iw^thn (Z t s D H _ I h) λu d zz=>?_;let#[x,j,v,r1,l,E,ex,hq,q]:=zz;refine jW ?_;subst ex;subst r1;let#[f,P,S,F,go]:=ok v hq;have k:=P.length;refine go λo m c a0 fr nc W hT hH h0=>jW ?_;have G:j d.heap.objs.size=o_:=v.fresh;have I2:Inv X t D j {d with heap:=d.heap.push o,toks:=m}:=v.kept (t':=m) λb o e=>Ev _ e;have J:FO X t j d.heap.objs.size:=v.vT (On _) G;refine KJ nc hH W hT h0 (λb n=>?_) Op (λs' a y p=>?_)^by rw[fk,←k]; exact S
 .rcases TW.mp n with rfl|n
  .exact Tk^UF _ fr
  .obtain rfl:=Re.mp n
   exact gD F^by show d.heap.objs.size<=(d.heap.push _).objs.size; simp only[size_push']; exact gq _
 .let#[h',g',d',g,K]:=s'
  have e1:g'=d.gens:=y.gens;have e2:d'=d.drawn:=y.drawn;have e3:K=d.os:=y.os;subst e1 e2 e3;have L:=I2.zS (h':=h') (t':=g) (ch:=[d.heap.objs.size]) (λc hc=>by simp only[Re.mp hc]; exact J) λb o n e=>y.heap b o n e;have T:Inv X t D j {d with heap:=h',toks:=g}:=L
  have hv:a.toList=f.reverse:=by
   refine List.ext_getElem? λi=>?_;let#[U,a2]:=p;have e0:a.toList[i]?=a[i]?:=by simp
   rw[e0]
   by_cases Y:i<f.length
   .have r:i<a.size:=by simp only[U,fk]; exact Y
    have a3:=a2 i a[i] (ja r);simp only[List.getElem?_reverse Y,ja r,←a3,fk];simp
   .rw[jP^by rw[jB]; omega]
    exact Array.getElem?_eq_none^by rw[U,fk]; omega
  have M:a=f.reverse.toArray:=by rw[←hv]
  have rr:qQ E.reverse f.reverse:=P.reverse;refine#[.ref h'.objs.size,Al j h'.objs.size^.tup E.reverse,T.laid (t':=g) (λb o e=>Ev _ e) (On _) (show qv X.prog X.w _ _ _^.tup E.reverse from#[by rw[jB]; exact S,f.reverse,rr,by rw[M]; exact qR.new _ _]),rfl,q _^T.hok.fresh^On _]
def Uz(K:Frag)(te:TE):TE:=Wm (λl a H=>SqL K H l a) te
theorem Qm(o:X.calm=p_)(p:PE X e te)(d:Gl X "tuple")(f:X.mg "tuple"=o_)(g:Gl X "reversed")(h:X.mg "reversed"=o_)(q:starEach [l8 (.Name "reversed" p2) [e] [] q2] X.env=[(q_,eval (l8 (.Name "reversed" p2) [e] [] q2) X.env)]:=by rfl)
  (r:starEach [e] X.env=[(q_,eval e X.env)]:=by rfl):PE X (.Call (.Name "tuple" p1) [.Call (.Name "reversed" p2) [e] [] q2] [] q1)^Uz X.K te:=by
 refine VM (λ{x y z c l B} n s=>?_) p d f g h q r;let#[a,t,u,v]:=n.list s;have j:c.heap.IsList l a.toArray:=u.isList;have b:l<c.heap.objs.size:=by let#[_,e,_]:=id j; exact Tk e
 refine#[a,t,v,b,λ{A E Q} k=>call_reversed_list j (k (revObj l ((a.toArray.size:Int) - 1)) c.toks "list_reverseiterator" _ rfl (by cbv) (Walks.listRev (A:=X.A.in1.in1.in1) (n.ok.hd o) c.heap.objs.size l (f9 b) a.toArray).toS (λi w m=>m.2.1.typeIs) (Td λi w m=>m.2.1.typeIs) #[T0 _,#[_,UF _ rfl,rfl,by show Data.fields _=_; simp[revObj]],j.push _])]
end
end L2
namespace Dp
open L2
def Uw(b:DW):DW:=λn c P=>b n c λd e=>∃a,d=.lst a/\P (.tup a.reverse) e
section

theorem RX(m:X.calm=p_)(o:DE X a zU wa)(b:Gl X "tuple")(c:X.mg "tuple"=o_)(e:Gl X "reversed")(f:X.mg "reversed"=o_)(s:starEach [l8 (.Name "reversed" p2) [a] [] q2] X.env=[(q_,eval (l8 (.Name "reversed" p2) [a] [] q2) X.env)]:=by rfl)
  (u:starEach [a] X.env=[(q_,eval a X.env)]:=by rfl):DE X (.Call (.Name "tuple" p1) [.Call (.Name "reversed" p2) [a] [] q2] [] q1) .sh^Uw wa:=by
 let#[t,x,y]:=o;refine#[_,Qm m x b c e f s u,λC M H n z A P Q R w q=>?_];refine y C M H n z A _ _ R w λv h d B i j D p=>?_;let#[J,rfl,p]:=p;have E:=R.step i j;let#[F,k,rfl,K,G,I]:=D.qw R.dom R.vM;refine#[F,k,rfl,.inl G,λr l=>?_];have g:qW h^Al h r^.tup k.reverse:=Ab l;exact q _ _ (.tup _) B (i.trans g.ext) (j.grow g) (C9 E.dom l^I.reverse) p
end
end Dp
namespace L2
theorem ED:fillsNumberSlot (.type "tuple") "mul"=pure q_:=
 PySem.fillsNumberSlot_seq F.slot_tuple_mul.lookup (by decide +kernel) F.slot_tuple_rmul.lookup (by decide +kernel)
theorem GC:seqRepeat?^.type "tuple"=pure^P3^.builtin "tuple.__mul__":=by
 unfold seqRepeat?;rw[PySem.seqSlot_of (T:="tuple") (name:="__mul__") (id:="tuple.__mul__") F.slot_tuple_mul.lookup (by decide +kernel),PySem.seqSlot_of (T:="tuple") (name:="__rmul__") (id:="tuple.__rmul__") F.slot_tuple_rmul.lookup^by decide +kernel];rfl
theorem JA(a:Int)(t:Tok)(l:Ch)(items:Array Db)(n:Nat):
  Meets (iU.«int.__rmul__» #[[.int a t,.ref l],[]]) (λ_ R s=>s.heap.get? l=P3 {cls:=.type "tuple",dict:=o_,data:=.seq items n,slots:=#[]}/\R (.ok^.ret nN) s):=
 .of_wp λprog w A R s h=>by let#[hp,g,d,tk,os]:=s; let#[hl,h]:=h; wp_walk; simp_all
theorem JR(l:Ch)(items:Array Db)(n:Nat)(u:Tok):
  Meets (iU.«tuple.__mul__» #[[.ref l,.int 1 u],[]]) (λ_ R s=>s.heap.get? l=P3 {cls:=.type "tuple",dict:=o_,data:=.seq items n,slots:=#[]}/\R (.ok^.ret^.ref l) s):=
 .of_wp λprog w A R s h=>by
  let#[hp,g,d,tk,os]:=s; let#[hl,h]:=h
  wp_walk
  simp_all
theorem EW(v:Db):∀(k:Nat) (a:Array Db),(fq k #[ v]).foldl (·++·) a=a++(fq k v).toArray
 |0,a=>by rfl
 |k+1,a=>by
  simp only[List.replicate_succ,m8,EW v k,List.replicate_succ,Array.append_assoc]
  congr 1
  simp
theorem JQ(l:Ch)(v:Db)(n:Nat)(x:Int)(u:Tok)(h1:2<=x)(h2:x<1000000):
  Meets (iU.«tuple.__mul__» #[[.ref l,.int x u],[]]) (λ_ R s=>s.heap.get? l=P3 {cls:=.type "tuple",dict:=o_,data:=.seq #[ v] n,slots:=#[]} /\
   R (.ok^.ret^.ref s.heap.objs.size) {s with heap:=s.heap.push {cls:=.type "tuple",data:=.seq ((fq x.toNat #[ v]).foldl (·++·) #[])}}):=
 .of_wp λprog w A R s h=>by
  let#[hp,g,d,tk,os]:=s; let#[hl,h]:=h
  wp_walk
  rw[if_neg (show ¬(decide (x < -2 ^ 63)||decide (x≥2 ^ 63))=p_ by lia)]
  wp_walk
  rw[if_neg (show ¬(#[ v].isEmpty||x==1)=p_ by simp; lk)]
  dsimp only
  rw[if_neg (show ¬(decide (x<=0)||#[ v].isEmpty)=p_ by simp; omega),if_neg (show ¬((#[ v].size:Int)*x > (2 ^ 63 - 1) / 8) by show ¬((1:Int)*x > _); omega),
   if_neg (show ¬kQ ((#[ v].size:Int)*x)=p_ by show ¬kQ ((1:Int)*x)=p_; unfold kQ; rw[decide_eq_true_eq,PySem.sizeLine_eq]; omega)]
  unfold i9;refine Cn^iA (Sc #[_,rfl,h]) ?_;show(List.foldl (λx1 x2=>x1++x2) #[]^fq x.toNat #[ v]).size<=sizeLine;simp only[EW,PySem.sizeLine_eq];simp;omega
def W0:R2:=λx y H Q=>∃a v n,x=.ref a/\y=.int n/\H a=P3^.tup [v]/\1<=n/\n<1000000/\(n=1->Q (.ref a) H)/\∀b,H b=o_->Q (.ref b)^Al H b^.tup^fq n.toNat v
theorem Ij(r:RelV v u):∀k,qQ (fq k v)^fq k u
 |0=>.nil
 |k+1=>.cons r^Ij r k
set_option tactic.hygienic true in
theorem VU:OpR X (binaryOp .Mult) W0:=by
 intro K s L H x y v u Q I i j h;let#[a,M,n,rfl,rfl,l,N,m,p,r]:=h;subst i;let#[t,rfl]:=j;let#[_,w,z,o,c,A,k,B,d,f]:=(I.hok a _ l);cases z with
 |cons C D=>
 cases D
 rename_i E
 let#[G,O,g,P]:=o;subst A B d f
 refine wpAny_binaryOp_repeat_ref (T:="tuple") (U:="int") (by cbv) #[_,c,rfl] (λJ=>mV J n t) ED PySem.F.fills_int_mul PySem.F.slot_int_rmul GC PySem.F.slot_int_index.lookup
  (jt PySem.F.slot_int_rmul (mV s n t) PySem.F.entry_int_rmul (PySem.F.args_int_rmul_2 _ _) (JA n t a _ k) #[c,rfl,#[_,c,rfl],?_])
 by_cases e:n=1
 .subst e
  exact jt PySem.F.slot_tuple_mul #[_,c,rfl] PySem.F.entry_tuple_mul (PySem.F.args_tuple_mul_2 _ _) (JR a _ k t) #[c,.ref a,H,I,rfl,p rfl]
 .refine jt PySem.F.slot_tuple_mul #[_,c,rfl] PySem.F.entry_tuple_mul (PySem.F.args_tuple_mul_2 _ _) (JQ a E k n t (by lk) m) #[c,.ref s.heap.objs.size,_,?_,rfl,r _^I.hok.fresh^On _]
  refine I.laid (t':=s.toks) (λb o q=>Ev _ q) (On _) #[?_,_,Ij C _,_,UF _ rfl,rfl,0,?_,rfl,rfl]
  .rw[iz,PySem.sizeLine_eq]; lk
  .rw[EW]; simp
end L2
namespace Dp
open L2
def T8(d e:D)(P:D->Prop):Prop:=match d,e with
 |.tup [z],.int n=>1<=n/\n<1000000/\P^.tup^fq n.toNat z
 |_,_=>False
theorem MJ{K:Frag}(h:At K M H d v):∀k,Ats K M H (fq k d)^fq k v
 |0=>rfl
 |k+1=>#[v,_,rfl,h,MJ h k]
set_option tactic.hygienic true in
theorem ZR{K:Frag}:D_ K .sh W0 T8:=λU M H d e x y P Q h o i j w q=>by
 unfold T8 at w
 split at w
 .rename_i z n
  let#[k,l,p]:=w;let#[a,s,rfl,c,v,r,rfl,f,rfl]:=i.tup;cases j.int;refine#[a,v,n,rfl,rfl,c,k,l,λe=>?_,λb m=>?_]
  .subst e
   exact q _ H (.tup [z]) .refl #[a,_,rfl,c,v,[],rfl,f,rfl] p
  .have g:qW H^Al H b^.tup^fq n.toNat v:=Ab m
   exact q _ _ (.tup _) g #[b,_,rfl,AQ,MJ (f.qq g.qq) _] p
 simp_all
end Dp
namespace L2
open AutoSeq1 (wpAny_loadPart')
theorem boot_enumerate:bootBuiltins "enumerate"=P3^.type "enumerate":=by decide +kernel
section

theorem RW(m:A.handled=o_)(f l:Ch)(g:l≠f)(c:Array Db):Draws prog w A f [f,l] c.size (λi v=>c[i]?=P3 v) (λi h=>qU κ h f l i/\qH κ h l c) where
 live:=λ_ _ d=>let #[o,n,_]:=d.1.lies; #[o,n]
 frame:=λ_ _ _ d k=>#[d.1.mv λo e=>k f (by simp) o e,d.2.mv λo e=>k l (by simp) o e]
 item:=λi s Q E j d p=>FG d.1 d.2 (x:=c[i]) (by simp[j]) λq a b=>p _ q s.toks (by simp[j]) #[a,d.2.eb b.extBut g] b
 done:=λs Q E d r=>GX m d.1 d.2 (by simp) r
theorem Ot(d:A.handled=o_)(c l:Ch)(a:Array Db)(k:Nat)(f:a[k]?=o_):Draws prog w A c [c,l] k (λ_ _=>True) (λi h=>qU κ h c l i/\qH κ h l a/\i=k) where
 live:=λ_ _ b=>let #[o,g,_]:=b.1.lies; #[o,g]
 frame:=λ_ _ _ b k=>#[b.1.mv λo e=>k c (by simp) o e,b.2.1.mv λo e=>k l (by simp) o e,b.2.2]
 item:=λi s Q E j b n=>absurd b.2.2^f9 j
 done:=λs Q E b m=>GX d b.1 b.2.1 f m
set_option tactic.hygienic true in
theorem TY(κ:Bool)(l:Ch)(items:Array Db):Meets (iU.«enumerate.__new__» #[[.type "enumerate",.ref l],[]]) (λ_ R s=>qH κ s.heap l items /\
   R (.ok^.ret^.ref (s.heap.push^HV κ l).objs.size) {s with heap:=(s.heap.push^HV κ l).push {cls:=.type "enumerate",data:=.fields #[ .none,.bool q_,.ref s.heap.objs.size,rawInt 0,.none,.none]}}):=
 .of_wp λprog w A R s h=>by
  let#[hp,g,d,tk,os]:=s; let#[hl,h]:=h
  have hsub:=sub_enumerate;cases κ with
  | true=>
   have hL:nA (jz #[hp,g,d,tk,os]) l items:=hl;let#[#[c,dct,dt,sl],ho,hc,n,hd]:=id hL;replace hc:c=.type "list":=hc;replace hd:dt=.seq items n:=hd;subst hc hd
   wp_walk using h7 ho
   refine wpAny_stack_any λst=>Sc ?_
   split
   .rename_i c _ _ _ _ _
    cases(c==gR "enumerate") <;>(wp_walk using h7 ho,iK hL; exact#[_,rfl,h])
   ·(wp_walk using h7 ho,iK hL; exact#[_,rfl,h])
  | false=>
   have hL:mn (jz #[hp,g,d,tk,os]) l items:=hl;let#[#[c,dct,dt,sl],ho,hc,n,hd]:=id hL;replace hc:c=.type "tuple":=hc;replace hd:dt=.seq items n:=hd;subst hc hd
   wp_walk using h7 ho
   refine wpAny_stack_any λst=>Sc ?_
   split
   .rename_i c _ _ _ _ _
    cases(c==gR "enumerate") <;>(wp_walk using h7 ho,ic hL; exact#[_,rfl,h])
   ·(wp_walk using h7 ho,ic hL; exact#[_,rfl,h])
theorem KO(j:qH c s.heap l a)
  (h:∀d,IsEnum d (s.heap.objs.size+1) s.heap.objs.size 0 .none->qU c d s.heap.objs.size l 0->(∀b o,s.heap.get? b=P3 o->d.get? b=P3 o)->Q (.ref (s.heap.objs.size+1)) {s with heap:=d}):
  wpAny (model prog w) A (call (.type "enumerate") [.ref l]) Q E s:=by
 refine callType_new F.called_enumerate (by cbv) (F.typeCall_enumerate_1 _) (F.newCall_enumerate_1 _) (λf=>F.args_object_init_2 f _) F.entry_enumerate_new (TY c l a) #[j,?_];have g:(s.heap.push^HV c l).objs.size=s.heap.objs.size+1:=iT ..;have i:((s.heap.push^HV c l).push {cls:=.type "enumerate",data:=.fields #[ .none,.bool q_,.ref s.heap.objs.size,rawInt 0,.none,.none]}).get? (s.heap.push^HV c l).objs.size=P3 _:=UF _ rfl;rw[g]at i;exists#[_,by rw[g]; exact i,rfl];rw[g];exact h _ i ((JZ c s.heap l).mv λo e=>Ev _ e) λb o e=>Ev _^Ev _ e
end
def Z0(K:Frag)(c:Bool)(a:Ch)(b:r_ V):It:=
 #[λi H=>SqK c K H a b/\i<b.length,λi H x d=>∃T p,x=.ref T/\H T=o_/\d=Al H T^.tup [.int i,p]/\b[i]?=P3 p,λi H=>SqK c K H a b/\b.length<=i]
structure Zq (κ:Bool) (e it a:Ch) (k:Nat) (h:fz):Prop where
 e:∃old,IsEnum h e it (k:Int) old
 i:qU κ h it a k
theorem QU{K:Frag}(κ:Bool)(e f a:Ch)(S:r_ V)(r:e≠f)(ae:a≠e)(ai:a≠f):
  Turn P w K (.Tuple es j pos) (Z0 K κ a S) [e,f] e (Zq κ e f a) where
 mem:=by simp
 obj:=λi h d c b=>by
  simp only[TW,ft,or_false]at b
  rcases b with rfl|rfl
  .let#[o,q]:=d.e
   exact#[_,q,λv q=>by cases q]
  .exact d.i.lies
 keep:=λi h T d k=>by
  let#[o,q]:=d.e;exact#[#[o,k e (by simp) _ q],d.i.mv λo e=>k f (by simp) o e]
 item:=by
  intro X t y B b i U s W H E I m d C;subst t y B;let#[D,F]:=C;let#[n,p,G]:=D.at I;let#[u,hu,ru]:=p.get^FM F;let#[l,g]:=d.e;have l1:=p.length;refine wpAny_pyNext_enum_itemD (RW (κ:=κ) (A:=X.A.in1) (I.ok.hd b) f a ai n.toArray) g #[d.i,G] (by simp; lk) r (by simp[r,ae.symm]) λx T J hp a1 a2 a3 a4 a5=>#[_,rfl,?_]
  have L:x=u:=by
   have Y:n[i]?=P3 x:=by simpa using hp
   rw[hu]at Y;exact(fu Y).symm
  subst L;refine wpAny_letOwnedTupleGo_enum a1 λZ b1 M=>?_;have hT:H s.heap.objs.size=o_:=I.hok.fresh^On _
  have N:∀c o,c∉[e,f]->s.heap.get? c=P3 o->Z.get? c=P3 o:=λc o b z=>by
   simp only[TW,ft,or_false,not_or]at b;exact M.extBut _ _ b.1^a5 c o b.1 b.2 z
  have I2:Inv X U W (Al H s.heap.objs.size^.tup [.int i,S[i]]) {s with heap:=Z,toks:=J+1}:=by
   refine I.vH (t':=J+1) (ch:=[e,f]) m N (On _) ?_;have nT:s.heap.objs.size≠e:=i7^Tk g;exact#[by show 2<=sizeLine; decide,[.int i J,x],.cons #[_,rfl]^.cons ru .nil,#[_,M.extBut _ _ nT a3,rfl,_,rfl,rfl,rfl]]
  refine#[.ref s.heap.objs.size,_,I2,rfl,#[_,_,rfl,hT,rfl,FM F],#[#[_,b1],a2.1.eb M.extBut r.symm],λc b=>?_];have O:H c=o_:=(m c b).1
  have R:c≠s.heap.objs.size:=λz=>by
   obtain⟨o,ho⟩:∃o,s.heap.get? c=P3 o:=by
    simp only[TW,ft,or_false]at b
    rcases b with rfl|rfl
    .exact#[_,g]
    .let#[o,q,_]:=d.i.lies; exact#[o,q]
   rw[z]at ho;exact gS _^Tk ho
  rw[AL R]; exact O
 done:=by
  intro X t y B b i U s W H E I m d C;subst t y B;let#[D,F]:=C;let#[n,p,G]:=D.at I;let#[l,g]:=d.e;have l1:=p.length;refine wpAny_pyNext_enum_endD (Ot (κ:=κ) (A:=X.A.in1) (I.ok.hd b) f a n.toArray i^by simp; lk) g #[d.i,G,rfl] λT N=>#[rfl,?_];refine I.zS (t':=s.toks) (ch:=[e,f]) m λc o b e=>?_;simp only[TW,ft,or_false,not_or]at b;exact N c o b.2 e
 self:=λA i s Q E d h=>by
  let#[l,g]:=d.e;exact wpAny_pyIter_enum g h
section

def bP(K:Frag)(te:TE):TI:=λe H R=>te e H λv b=>∃c a d,v=.ref a/\SqK c K b a d/\R (Z0 K c a d) b
theorem VJ(t:Gl X "enumerate")(v:X.mg "enumerate"=o_)(w:PE X e1 te)(g:starEach [e1] X.env=[(q_,eval e1 X.env)]:=by rfl):
  PI X (.Tuple es j tpos) (.Call (.Name "enumerate" p) [e1] [] pos) (bP X.K te):=by
 intro y s z H R I h;refine hU^D6 I t v boot_enumerate ?_;refine h_ ?_ g rfl;simp only[g];refine iw^thn (w y s z H _ I h) λu b zz=>?_;let#[x,A,f,B,i,a,k,ex,C,q]:=zz;refine jW ?_;subst ex;subst B;let#[G,D,l]:=C.at f;have m:a<b.heap.objs.size:=by let#[o,e]:=l.lies; exact Tk e
 refine KO l λJ n E F=>?_;refine wpAny_pyIter_enum n ?_;refine#[b.heap.objs.size+1,[b.heap.objs.size+1,b.heap.objs.size],_,Z0 X.K i a k,A,rfl,f.kept (t':=b.toks) F,QU i _ _ a k (by show(_:Nat)≠(_:Nat); lk) (f9^iV m)^f9 m,#[#[_,n],E],λc r=>?_,q]
 have d:b.heap.objs.size<=c:=by
  simp only[TW,ft,or_false]at r
  rcases r with rfl|rfl
  .exact gq _
  .exact On _
 exact f.vT d^f.hok.fresh d
end
end L2
namespace Dp
open L2
def Ew:Nat->r_ D->r_ D
 |_,[]=>[]
 |k,x::r=>.tup [.int (k:Int),x]::Ew (k+1) r
theorem K4:∀(k:Nat) (a:r_ D),(Ew k a).length=a.length
 |_,[]=>rfl
 |k,x::r=>by show(Ew (k+1) r).length+1=r.length+1; rw[K4 (k+1) r]
theorem K6:∀(k:Nat) (a:r_ D) (i:Nat),(Ew k a)[i]?=(a[i]?).map λx=>.tup [.int ((k+i:Nat):Int),x]
 |_,[],i=>by simp[Ew]
 |k,x::r,0=>rfl
 |k,x::r,i+1=>by
  show(Ew (k+1) r)[i]?=(r[i]?).map _;rw[K6 (k+1) r i,show k+1+i=k+(i+1) by lk]
section
variable {K:Frag}
theorem NX(m:Ats K M H e c)(s:qZ M H j b)(n:SqK g K b a c)(k:∀a,j a->∃o,b a=P3 o):
  (∀d,(Ew 0 e)[i]?=P3 d->(Z0 K g a c).go i b/\∀x H2,(Z0 K g a c).yld i b x H2->qW b H2/\At K j H2 d x)/\((Ew 0 e).length<=i->(Z0 K g a c).stop i b):=by
 have z:=m.length;refine#[λd f=>?_,λt=>#[n,by rw[K4]at t; omega]];rw[K6,Nat.zero_add]at f;cases h:e[i]? with
 |none=>rw[h]at f; cases f
 |some u=>
  rw[h]at f;have l:D.tup [.int (i:Int),u]=d:=fu f;have A:i<e.length:=(XV.mp h).1;refine#[#[n,by omega],λx H2 y=>?_];let#[T,p,rfl,q,rfl,v]:=y;let#[B,r,w]:=(m.qq s).get h;rw[v]at r;injection r with r;subst r;subst l;exact#[Ab q,C9 k q #[.int (i:Int),[p],rfl,rfl,p,[],rfl,w,rfl]]
end
section

def Wg(wa:DW):Dq:=λn b P=>wa n b λd c=>∃a,Fe d=P3 a/\P (Ew 0 a) c
theorem P6(g:Gl X "enumerate")(k:X.mg "enumerate"=o_)(h:DE X e1 κ wa)(l:κ≠.tp:=by intro z; cases z)(m:starEach [e1] X.env=[(q_,eval e1 X.env)]:=by rfl):
  DI X (.Tuple es j tpos) (.Call (.Name "enumerate" p) [e1] [] pos) (Wg wa):=by
 let#[t,o,r]:=h;refine#[_,VJ g k o m,λC M H n s u P K R w q=>?_];refine r C M H n s u _ _ R w λv c d x y A B p=>?_;let#[L,D,p]:=p;let#[E,a,F,rfl,G,e]:=OE (B.zj R.dom l) D;exact#[E,a,F,rfl,e M c^qZ.refl _ _,q _ c _ x y A (λi I J f b=>NX G f (e I J f) b) p]
end
def aB(i:Nat)(b:BW)(a:AZ):AZ:=λf n c=>∃d e,c[i]?=P3^.br d/\Fe d=P3 e/\BH b a f e n c
section

theorem Rel.lessKp{K:Frag}(R:Rel K {C with kp:=q::C.kp} M H n a c):Rel K C M H n a c:=
 #[R.len,R.sub,R.dom,R.ext,R.fU,R.uV,R.vM,R.feed,R.sl,R.pin,R.br0,R.new,R.two,λp d=>R.kept p^TM _ d]
theorem V1(hp:lE (model X.prog X.w) X.A X.env X.xe)(hc:X.calm=p_)(h:PE X (.Name x p)^CH i)(hg:DG X tg b)(hb:MV X κ body wb)
  (hs:∀y,foldedSetIterable (.Name x p) X.env y=pure y:=by intro _; rfl):DS X κ (.For tg (.Name x p) body [] pos)^aB i b wb:=by
 let#[g,g1,g2]:=hg;let#[tb,b1,b2]:=hb;refine#[_,JD hp hc (OM h) g1 b1 hs,λC M H n U Z G E R L w=>?_];let#[d,f,hi,hd,w]:=w;let#[v,e1,a2]:=R.sl i _ hi;cases d with
 | tup a3=>
  cases hd;let#[a,I,rfl,hn,J]:=a2;refine#[.ref a,getD_some e1,.inr^.inl #[a,rfl,#[I,hn.sq],?_]];obtain⟨c,ek⟩:∃c,c=C.kp:=#[_,rfl];have R1:Rel X.K {C with kp:=c} M H n U Z:=by rw[ek]; exact R
  have B:∀{M H n U Z},Rel X.K {C with kp:=c} M H n U Z->Rel X.K C M H n U Z:=λR=>by rw[ek]at R; exact R
  have st:∀l k r s t,Rel X.K {C with kp:=c,zG:=(M,H)::C.zG} l k r s t->SqT X.K k a I:=λl k r s t D=>(hn.qq^D.pin (M,H) Op).sq;exists λi m t k=>m=f.length - i/\i<=f.length/\∃l r s,Rel X.K {C with kp:=c,zG:=(M,H)::C.zG} l k r s t/\BH b wb G (f.drop i) r s,#[f.length,by rfl,T0 _,M,n,U,R1.pinned,w];rintro i m t k ⟨rfl,a4,l,r,s,D,V⟩;have pr:qZ M H l k:=D.pin (M,H) Op;have N:=st l k r s t D
  by_cases F:i<f.length
  .have ed:f.drop i=f[i]::f.drop (i+1):=g_ F
   rw[ed]at V;let#[v,ev,hv]:=(J.qq pr).get^FM F;refine .inr #[#[I,v,N,ev],λzN H2=>∃M2 W Y,Rel X.K {C with kp:=c,zG:=(M,H)::C.zG} M2 H2 W Y zN/\BH b wb G (f.drop (i+1)) W Y,λzN H2 #[M2,W,Y,a0,w2]=>#[f.length - (i+1),by lk,rfl,F,M2,W,Y,a0,w2],λy H2 hy=>?_];let#[e2,hy]:=hy;subst e2
   have:P3 v=P3 y:=ev.symm.trans^hy I N
   injection this with this;subst this;refine g2 _ l H2 r s t f[i] v _ _ D hv V λzP zV R3 w3=>?_;refine b2 _ l H2 r zP zV {G with nx:=BH b wb G^f.drop (i+1),ct:=BH b wb G^f.drop (i+1),bk:=G.nx} _ R3 #[λO H4 P Q zQ S T=>#[O,P,Q,S,T],L.rt,λO H4 P Q zQ S T=>L.nx O H4 P Q zQ (B S.vg) T,λO H4 P Q zQ S T=>#[O,P,Q,S,T]] w3
  .have e:i=f.length:=by lk
   subst e;rw[jl]at V;exact .inl #[#[I,N,by rw[J.length]; exact On _],L.nx l k r s t (B D.vg) V]
 | lst a3=>
  cases hd;let#[a,I,rfl,nV,hH,J]:=a2
  obtain⟨o,ho,a1⟩:∃o,H a=P3 o/\∀k:Hp,k a=P3 o->SqL X.K k a I:=by
   rcases hH with z|⟨u,z⟩
   .exact#[_,z,λk e=>.inl^.inl e]
   .exact#[_,z,λk e=>.inl^.inr #[u,e]]
  refine#[.ref a,getD_some e1,.inl #[a,rfl,#[I,a1 H ho],?_]]
  obtain⟨c,R1,B,st⟩:∃c,Rel X.K {C with kp:=c} M H n U Z/\(∀{M H n U Z},Rel X.K {C with kp:=c} M H n U Z->Rel X.K C M H n U Z)/\(∀l k r s t,Rel X.K {C with kp:=c,zG:=(M,H)::C.zG} l k r s t->SqL X.K k a I):=by
   by_cases hM:M a
   .refine#[(a,o)::C.kp,#[R.len,R.sub,R.dom,R.ext,R.fU,R.uV,R.vM,R.feed,R.sl,R.pin,R.br0,R.new,R.two,λq N=>?_],λR=>R.lessKp,λl k r s t D=>a1 k (D.kept (a,o) Op).1]
    rcases TW.mp N with rfl|N
    .refine#[ho,hM,nV,λj e q z=>?_]
     let#[u,hu]:=R.br0 i _ a hi e1
     have:=(R.new j _ a q rfl z).2
     rw[hu]at this;cases this
    .exact R.kept q N
   .exact#[C.kp,R,λR=>R,λl k r s t D=>a1 k^(D.pin (M,H) Op).1 a o ho hM]
  exists λi m t k=>m=f.length - i/\i<=f.length/\∃l r s,Rel X.K {C with kp:=c,zG:=(M,H)::C.zG} l k r s t/\BH b wb G (f.drop i) r s,#[f.length,by rfl,T0 _,M,n,U,R1.pinned,w];rintro i m t k ⟨rfl,a4,l,r,s,D,V⟩;have pr:qZ M H l k:=D.pin (M,H) Op;have N:=st l k r s t D
  by_cases F:i<f.length
  .have ed:f.drop i=f[i]::f.drop (i+1):=g_ F
   rw[ed]at V;let#[v,ev,hv]:=(J.qq pr).get^FM F;refine .inr #[#[I,v,N,ev],λzN H2=>∃M2 W Y,Rel X.K {C with kp:=c,zG:=(M,H)::C.zG} M2 H2 W Y zN/\BH b wb G (f.drop (i+1)) W Y,λzN H2 #[M2,W,Y,a0,w2]=>#[f.length - (i+1),by lk,rfl,F,M2,W,Y,a0,w2],λy H2 hy=>?_];let#[e2,hy]:=hy;subst e2
   have:P3 v=P3 y:=ev.symm.trans^hy I N
   injection this with this;subst this;refine g2 _ l H2 r s t f[i] v _ _ D hv V λzP zV R3 w3=>?_;refine b2 _ l H2 r zP zV {G with nx:=BH b wb G^f.drop (i+1),ct:=BH b wb G^f.drop (i+1),bk:=G.nx} _ R3 #[λO H4 P Q zQ S T=>#[O,P,Q,S,T],L.rt,λO H4 P Q zQ S T=>L.nx O H4 P Q zQ (B S.vg) T,λO H4 P Q zQ S T=>#[O,P,Q,S,T]] w3
  .have e:i=f.length:=by lk
   subst e;rw[jl]at V;exact .inl #[#[I,N,by rw[J.length]; exact On _],L.nx l k r s t (B D.vg) V]
 |_=>cases hd
end
end Dp
namespace L2
open PySem.W
theorem Ou:mroOf^.type "dict"=pure [.type "dict",.type "object"]:=by rw[mroOf_type]; kernel_rfl
theorem Y7:typeLookup (.type "dict") "__new__"=pure^P3^.builtin "dict.__new__":=by rw[typeLookup_type,builtinLookup_eq_fast]; kernel_rfl
theorem vB:TypeCalled "dict" "dict.__new__" "dict.__init__":=
 #[by decide +kernel,by decide +kernel,#[_,_,Ou],madeBy_type Ou Y7 (by decide +kernel),by decide +kernel,by rw[isSubtype_type]; kernel_rfl,PySem.F.slot_dict_init]
theorem V3(a:Db):checkTypeCall "dict" #[[a],[]]=pure ():=by kernel_rfl
theorem V4(a:Db):checkBuiltinCall "dict.__new__" #[[.type "dict",a],[]]=pure ():=by kernel_rfl
theorem MA:entryFor table "dict.__new__"=P3 iU.«dict.__new__»:=entryFor_of_tree^by kernel_rfl
theorem GY:plainId "dict.__new__"=p_:=by decide +kernel
theorem Fa:entryFor table "dict.update.loop"=P3 iU.«dict.update.loop»:=entryFor_of_tree^by kernel_rfl
theorem C2:plainId "dict.update.loop"=p_:=by decide +kernel
theorem V7:typeLookup (.type "list") "keys"=pure o_:=am_miss_of_fast^by decide +kernel
section

theorem NZ(a:Db)(h:Q₁ (.ref s.heap.objs.size) {s with heap:=s.heap.push {cls:=.type "dict",data:=.dict #[]}}):
  codeAny (model prog w) A (.call (.builtin "dict.__new__") #[[.type "dict",a],[]]) (wants Q₁ E) s:=by
 refine lM ?_;show wpAny _ A.in1 (do checkBuiltinCall "dict.__new__" #[[.type "dict",a],[]]; again^.builtin "dict.__new__" #[[.type "dict",a],[]]) _ _ s;refine Cn^li (V4 a)^Sc #[iL GY _,h8 MA ?_];rw[iG GY _];unfold iU.«dict.__new__»;have hsub:=vB.sub;have hmro:=Ou;let#[hp,g,d,tk,os]:=s
 wp_walk
 exact h
theorem V5(hx:s.heap.get? a=P3 {cls:=.type "list",dict:=o_,data:=.seq xs k,slots:=sl})(hA:A.handled=o_)
  (h:∀h' tk,(∀b o,s.heap.get? b=P3 o->h'.get? b=P3 o)->Q o_ {s with heap:=h',toks:=tk}):wpAny (model prog w) A (getAttr? (.ref a) "keys") Q E s:=by
 let#[hp,g,d,tk,os]:=s;have hT:∀tk',(#[hp,g,d,tk',os]:Go).TypeIs (.ref a) "list":=λ_=>#[_,hx,rfl];have f1:=sub_AttributeError;have f3:=PySem.F.slot_list_getattribute.lookup;have f4:=PySem.F.slot_list_getattribute.bind^.ref a;have f5:=am_list_getattr_none;delta getAttr? getAttrBy? getAttrBy
 repeat (any_goals (first|assumption|exact hT _|((with_reducible show wpAny _ _ (call (jU "list.__getattribute__") _ _) _ _ _); refine jt PySem.F.slot_list_getattribute (hT _) am_entry_list_getattribute (PySem.F.args_list_getattribute_2 _ _) (meets_getattribute_miss_list a xs k sl "keys" _ V7 (by decide +kernel)^by decide +kernel) #[hx,hA,λh' tk' e hx'=>?_])|wp_step))
 let#[t',u',he]:=hx'.there;show wpAny _ _ (getattributeRaised _ _ _ _ _ _ _) _ _ _;unfold getattributeRaised
 repeat (any_goals (first|assumption|wp_step))
 exact h _ _ hx'.keeps
end
section
variable {St:Nat->Heap->Prop}{K:Type}[DecidableEq K]{knd:KeyKind prog w K}
theorem stored_new{k:K}(h:k∉a.map (·.1)):stored a k v=a++[(k,v)]:=by
 unfold stored;rw[if_neg];intro z;let#[p,b,e]:=iR.mp z;exact h^Rs.mpr #[p,b,of_decide_eq_true e]
theorem V6(W:Walks prog w A.in1 I fp wr n P St)(d:Ch)(C:d∉fp)(g:fz)(j:∀b,b∈wr\/b=d->g.get? b=o_)(f:r_ (K×Db))(a2:f.length=n)(nd:(f.map (·.1)).Nodup)(hsz:n<=sizeLine)
  (L:∀(i:Nat) (v:Db) (p:K×Db),P i v->f[i]?=P3 p->∃(a:Ch) (o:Obj) (l:Db) (c:Nat),v=.ref a/\g.get? a=P3 o/\o.cls=.type "tuple"/\o.data=.seq #[ l,p.2] c/\knd.is p.1 l=p_):
  ∀(k i:Nat) (s:Go),n - i=k->i<=n->St i s.heap->(∀b o,g.get? b=P3 o->s.heap.get? b=P3 o)->s.heap.DictOf knd d^f.take i->
   (∀u J,u.DictOf knd d f->(∀b o,g.get? b=P3 o->u.get? b=P3 o)->R (.ok^.ret .none) {s with heap:=u,toks:=J})->
   codeAny (model prog w) A (.builtin "dict.update.loop" #[[.ref d,.ref I,rawInt (i:Int),.none],[]]) R s:=by
 have D:d∉wr:=λh=>C^W.sub _ h;intro k
 induction k with
 | zero=>
  intro i s hk hi y m M N;have O:i=n:=by lk
  subst O;refine h8 Fa ?_;rw[iG C2 _];show wpAny _ A.in1 (pyNext^.ref I >>=_) _ _ s;refine Cn^W.done s _ _ y λu J q=>?_;show wpAny _ A.in1 (Builtin.Dict.addKeywords d [] >>=λ_=>ret gO) _ _ _;refine Cn^Sc^Sc^N u J ?_ λb o e=>q b o (λz=>?_)^m b o e
  .let#[o,Q,S,U,r]:=M
   rw[k7^by lk]at r;exact#[o,Q,S,q d o D U,r]
  .rw[j b^.inl z]at e; cases e
 | succ k ih=>
  intro i s hk hi y m M N;have E:i<n:=by omega
  refine h8 Fa ?_;rw[iG C2 _];show wpAny _ A.in1 (pyNext^.ref I >>=_) _ _ s;refine Cn^W.item i s _ _ E y λv u J hP F q=>?_;have G:f[i]?=P3 (f[i]'(by lk)):=FM (by lk);generalize f[i]'(by lk)=p at G;let#[a,o,l,c,rfl,ha,hc,hd,V]:=L i v p hP G;have t:∀b o,g.get? b=P3 o->u.get? b=P3 o:=λb o e=>q b o (λz=>by rw[j b^.inl z]at e; cases e)^m b o e;have H:=t a o ha
  have X:u.DictOf knd d^f.take i:=by
   let#[o,Q,S,U,r]:=M;exact#[o,Q,S,q d o D U,r]
  show wpAny _ A.in1 (holding [fj a] _ >>=_) _ _ _;refine Cn^gU ?_;show wpAny _ A.in1 (tryCatch (nB^.ref a) _ >>=_) _ _ _;refine Cn^ki ?_;unfold nB;refine Cn^jI (T:="tuple") #[o,H,hc] ?_;show wpAny _ A.in1 (seqItems?^.ref a >>=_) _ _ _;refine Cn^iO H hd^Sc ?_;show wpAny _ A.in1 (holding [l,p.2]^dictSet d l p.2) _ _ _;refine gU^wpAny_dictSet_pairs (hsz:=by rw[ie]; lk) V X λa3 x hs=>?_
  have Y:p.1∉(f.take i).map (·.1):=λz=>by
   have e:f.map (·.1)=(f.take i).map (·.1)++p.1::(f.drop (i+1)).map (·.1):=by
    have:=jQ i f
    rw[g_ (by lk:i<f.length)]at this;rw[FM (by lk:i<f.length)]at G;injection G with G;subst G
    conv=>lhs; rw[←this]
    simp only[gW,gJ]
   rw[e,gg]at nd;exact nd.2.2 p.1 z p.1 Op rfl
  have e2:f.take (i+1)=f.take i++[p]:=by simp only[List.take_add_one,G]; rfl
  simp only[stored_new Y,←e2]at x;refine Sc #[iL C2 _,?_];have Z:((i:Int)+1)=((i+1:Nat):Int):=by lk
  rw[Z];refine ih (i+1) _ (by omega) E (W.frame _ _ _ F λb hb o e=>?_) (λb o e=>?_) x λh3 a0 a1 B=>N h3 a0 a1 B
  .exact(hs.2 b λz=>C^by simp only[←z]; exact hb).trans e
  .exact(hs.2 b λz=>by rw[j b^.inr z]at e; cases e).trans^t b o e
theorem V8(Y:A.handled=o_)(Z:s.heap.get? l=P3 {cls:=.type "list",dict:=o_,data:=.seq d c,slots:=X})
  (f:r_ (K×Db)) (B:f.length=d.size) (nd:(f.map (·.1)).Nodup) (N:d.size<=sizeLine)
  (O:∀(i:Nat) (v:Db) (p:K×Db),d[i]?=P3 v->f[i]?=P3 p->∃(a:Ch) (o:Obj) (C:Db) (c:Nat),v=.ref a/\s.heap.get? a=P3 o/\o.cls=.type "tuple"/\o.data=.seq #[ C,p.2] c/\knd.is p.1 C=p_)
  (h:∀D S,D.DictOf knd s.heap.objs.size f->(∀b o,s.heap.get? b=P3 o->D.get? b=P3 o)->Q (.ref s.heap.objs.size) {s with heap:=D,toks:=S}):
  wpAny (model prog w) A (call (.type "dict") [.ref l]) Q E s:=by
 refine callType_codes (Q₁:=λG q=>G=.ref s.heap.objs.size/\q={s with heap:=s.heap.push {cls:=.type "dict",data:=.dict #[]}}) vB (V3 _) PySem.F.entry_dict_init (NZ _ #[rfl,rfl]) ?_;rintro G q ⟨rfl,rfl⟩;have j:(s.heap.push {cls:=.type "dict",data:=.dict #[]}).get? s.heap.objs.size=P3 {cls:=.type "dict",data:=.dict #[]}:=UF _ rfl;have t:(s.heap.push {cls:=.type "dict",data:=.dict #[]}).get? l=P3 {cls:=.type "list",dict:=o_,data:=.seq d c,slots:=X}:=Ev _ Z;have u:l<s.heap.objs.size:=Tk Z
 have g:∀b,s.heap.objs.size<=b->s.heap.get? b=o_:=λb x=>by
  cases e:s.heap.get? b with
  |none=>rfl
  |some o=>exact absurd (gD (Tk e) x)^gS _
 exists#[_,j,rfl],PySem.F.args_dict_init_2 _ _;unfold iU.«dict.__init__»;refine Cn ?_;unfold Builtin.Dict.selfAndRest;refine Cn^wpAny_notOrdered_dict #[_,j,rfl] ?_;show wpAny _ _ (pure (s.heap.objs.size,[fj l])) _ _ _;refine Sc ?_;show wpAny _ _ (my "dict.__init__" s.heap.objs.size (.ref l) [] .none) _ _ _;unfold my;refine Cn^jI (T:="list") #[_,t,rfl] ?_;rw[if_pos^by cbv];have H:A.in1.in1.handled=o_:=by simp[Y]
 have a0:A.in1.handled=o_:=by simp[Y]
 refine Cn^V5 t H λy U k=>?_;show wpAny _ _ (rule _ >>=_) _ _ _;refine Cn^kE ?_;have J:y.IsList l d:=#[_,k l _ t,rfl,c,rfl];refine Cn^iK (s:={s with heap:=y,toks:=U}) J ?_;have m:s.heap.objs.size<y.objs.size:=Tk^k _ _ j;have L:l≠y.objs.size:=λz=>gS _^kX m^by rw[←z]; exact u
 have V:s.heap.objs.size∉[y.objs.size,l]:=λW=>by
  rcases TW.mp W with z|W
  .rw[←z]at m; exact gS _ m
  .rw[←Re.mp W]at u; exact gS _ u
 refine Sc #[iL C2 _,?_];refine V6 (knd:=knd) (Walks.list (A:=A.in1.in1) H y.objs.size l L d) s.heap.objs.size V s.heap (λb x=>g b ?_) f B nd N O d.size 0 _ (mo _) (T0 _) #[#[_,UF _ rfl,rfl,rfl],J.push _] (λb o e=>Ev _^k b o^Ev _ e) #[_,#[],0,Ev _^k _ _ j,#[rfl,rfl,rfl],rfl,(λe he=>by simp at he),by simp only[List.take_zero]; exact .nil,by simp only[List.take_zero]; exact gl] λD S hD M=>#[rfl,h D S hD M]
 rcases x with x|x
 .rw[Re.mp x]; exact lH m
 .rw[x]; exact On _
end
section

def Sn(K:Frag):r_ V->Hp->VK->Prop:=λd H Q=>∃(p:Ch) (c:r_ Ch) (b:r_ (Key×V)),d=[.ref p]/\SqL K H p^c.map V.ref/\c.length=b.length/\(∀(i:Nat) (a:Ch) (q:Key×V),c[i]?=P3 a->b[i]?=P3 q->SqT K H a [kV q.1,q.2])/\(b.map (·.1)).Nodup/\∀l,H l=o_->Q (.ref l)^Al H l^.dK b
theorem P5:∀{as:r_ Ch}{kvs:r_ (Key×V)},as.length=kvs.length->(∀(i:Nat) (a:Ch) (q:Key×V),as[i]?=P3 a->kvs[i]?=P3 q->∃f,qQ [kV q.1,q.2] f/\IsTup h a f.toArray)->
  ∃g:r_ (Key×Db),KV kvs g/\∀(i:Nat) (a:Ch) (q:Key×Db),as[i]?=P3 a->g[i]?=P3 q->∃(o:Obj) (d:Db) (c:Nat),h.get? a=P3 o/\o.cls=.type "tuple"/\o.data=.seq #[ d,q.2] c/\(A7 P w).is q.1 d=p_
 |[],[],_,_=>#[[],.nil,λi a q e=>by simp at e]
 | a::as,q::kvs,t,l=>by
  let#[g,u,x]:=P5 (P:=P) (w:=w) (as:=as) (kvs:=kvs) (by simpa using t) λi b p j k=>l (i+1) b p (by simpa using j) (by simpa using k);let#[f,r,o,j,k,n,y]:=l 0 a q rfl rfl;cases r with
  | @cons _ d _ E z A=>
   cases A with
   | @cons _ v _ B C D=>
    cases D;refine#[(q.1,v)::g,.cons #[rfl,C] u,λi b p m s=>?_];cases i with
    |zero=>
     cases(show a=b by simpa using m);cases(show(q.1,v)=p by simpa using s);exact#[o,d,n,j,k,y,GR z]
    |succ i=>exact x i b p (by simpa using m)^by simpa using s
theorem O3(F:X.calm=p_):CL X (.type "dict")^Sn X.K:=by
 intro zG s σ H xs us Q I r h;let#[p,e,f,rfl,G,J,L,M,q]:=h;let#[u,rfl,N]:=vals1 r;subst N;let#[d,m,#[#[O,dt,y,sl],n,R,z,A,B],S]:=I.list G;simp only at z A B;subst z A B;have b:=m.length;rw[No]at b S
 let#[T,g,U]:=P5 (P:=X.prog) (w:=X.w) (h:=s.heap) J λi a q j k=>by
  let#[d,r,t,_]:=I.tuple^L i a q j k;exact#[d,r,t]
 have kl:=Paired.length g;refine V8 (knd:=A7 X.prog X.w) (I.ok.hd F) R T (by simp only[fk]; lk) (by simp only[←KV.keys g]; exact M) (by rw[fk]; omega) (λi v q j k=>?_) λh' V W Y=>?_
 .have C:d[i]?=P3 v:=by simpa using j
  have D:i<e.length:=by simp only[b]; exact(XV.mp C).1
  let#[u,E,Z]:=m.get (i:=i) (x:=.ref e[i]) (by simp only[fo,FM D]; rfl);rw[C]at E;injection E with E;subst E;let#[o,l,c,a1,a2,a3,a4]:=U i e[i] q (FM D) k;exact#[e[i],o,l,c,Z,a1,a2,a3,a4]
 .exact#[.ref s.heap.objs.size,_,I.laid (t':=V) (o:=.dK f) Y (On _)^Ov (by omega) (beq_eq_false_iff_ne.mpr^gf^f9 I.big) g W,rfl,q _^I.hok.fresh^On _]
end
end L2
namespace Dp
open L2
def Qg:r_ D->s_ (r_ Key×r_ D)
 |[]=>P3 ([],[])
 |.tup [k,v]::r=>match keyOf k,Qg r with
  |some a,P3 p=>P3 (a::p.1,v::p.2)
  |_,_=>o_
 |_=>o_
def Yy(d:r_ D)(P:D->Prop):Prop:=∃b a c,d=[.lst b]/\Qg b=P3 (a,c)/\a.Nodup/\P^.dic a c
set_option tactic.hygienic true in
theorem S1{K:Frag}:∀{j:r_ D}{l:r_ V}{ks:r_ Key}{vs:r_ D},Qg j=P3 (ks,vs)->Ats K M H j l->∃(c:r_ Ch) (f:r_ V),l=c.map V.ref/\ks.length=vs.length/\c.length=ks.length/\Ats K M H vs f/\∀(i:Nat) (a:Ch) (q:Key×V),c[i]?=P3 a->(ks.zip f)[i]?=P3 q->SqT K H a [kV q.1,q.2]
 |[],l,ks,vs,e,h=>by
  cases(show P3 (([],[]):r_ Key×r_ D)=P3 (ks,vs)from e);exact#[[],[],h,rfl,rfl,rfl,λi a q e=>by simp at e]
 | d::j,l,ks,vs,e,h=>by
  let#[u,r,rfl,y,A]:=h;unfold Qg at e
  split at e
  .cases ‹d::j=[]›
  .rename_i k v S m
   cases m
   split at e
   .rename_i g p o B
    cases e;let#[c,f,C,E,F,G,I]:=S1 (ks:=p.1) (vs:=p.2) B A;let#[a,J,rfl,s,L]:=y;let#[N,T,rfl,t,n,O,rfl,P,Q]:=L;cases(show O=[]from Q)
    have R:N=kV g:=C7 (K:=K) (M:=M) (H:=H) (U:=λ_=>False) o (by
     cases k with
     |int i=>exact t
     |str z=>exact t
     |_=>cases o)
    refine#[a::c,n::f,by rw[C]; rfl,by simp only[eq,eq,E],by simp only[eq,eq,F],#[n,f,rfl,P,G],λi b q w x=>?_];cases i with
    |zero=>
     cases(show a=b by simpa using w);cases(show(g,n)=q by simpa using x);rw[R]at s;exact s.sq
    |succ i=>exact I i b q (by simpa using w)^by simpa using x
   .cases e
  .cases e
theorem WP{K:Frag}:Dr K .fr (Sn K) Yy:=by
 intro U M H A j P Q k B m w q;let#[C,g,n,rfl,e,p,w]:=w;let#[v,rfl,r]:=DY m;let#[a,D,rfl,_,s,t]:=r;let#[u,h,rfl,x,E,i,y]:=S1 e t;have F:=i.length;have f:(g.zip h).map (·.1)=g:=by rw[List.map_fst_zip^by lk]
 refine#[a,u,g.zip h,rfl,.inl s,by simp only[lS]; lk,y,by simp only[f]; exact p,λl c=>?_];refine q _ _ (.dic g n) (Ab c) #[l,rfl,c,h,AQ,x,i.qq ?_] w;exact#[λb o d G=>by rw[AL λz=>by rw[z,c]at d; cases d]; exact d,λb z=>z.elim .inl λz=>.inr (by rw[z]; exact c),λb j d=>by rw[AL λz=>by rw[z,c]at d; cases d]; exact d]
end Dp
namespace L2
def em(d:Ch)(o:Obj)(a:r_ (Key×V)):It:=
 #[λi H=>H d=P3^.frz o^.dK a/\i<a.length,λi H x b=>b=H/\∃p,a[i]?=P3 p/\x=kV p.1,λi H=>H d=P3^.frz o^.dK a/\a.length<=i]
theorem QT{K:Frag}(d n:Ch)(o:Obj)(a:r_ (Key×V))(es:Array DictEntry)(U:Nat)(g:o.data=.dict es U):
  Turn P w K tg (em d o a) [n] n (λi h=>h.IsKeyIter n d i a.length U) where
 mem:=by simp
 obj:=λi h f c j=>by
  rw[Re.mp j];let#[u,B,_,hd]:=f;exact#[u,B,λv q=>by rw[hd]at q; cases q]
 keep:=λi h C f k=>f.at λu e=>k n (by simp) u e
 item:=by
  intro X F G J j i W s Y H E I r f L;subst F G J;let#[M,Z]:=L;let#[t,x,D]:=FH I M g
  have y:=x.length;have N:i<t.length:=by lk
  rw[y]at f;obtain⟨k,v,O⟩:∃k v,t[i]=(k,v):=#[_,_,rfl];have hx:t[i]?=P3 (k,v):=by simp only[FM N,O]
  have hp:a[i]?=P3 a[i]:=FM Z;let#[R,rv]:=JH x hp hx;have R:a[i].1=k:=R;refine wpAny_pyNext_dict_item f D hx λa0 C l p m=>#[_,rfl,?_];let#[u,B,S,T]:=id p;refine NR B S T (by cbv) ?_;have I2:Inv X W Y H {s with heap:=C}:=I.zS (t':=s.toks) (ch:=[n]) r λc o j e=>m.extBut c o (λz=>j^by simp only[z]; exact Re.mpr rfl) e;exact#[_,H,I2,Tl (by rw[←R]at l; exact l),#[rfl,_,hp,rfl],by rw[y]; exact p,λb hb=>(r b hb).1]
 done:=by
  intro X F G J j i W s Y H E I r f L;subst F G J;let#[M,Z]:=L;let#[t,x,D]:=FH I M g
  have y:=x.length;rw[y]at f;refine wpAny_pyNext_dict_end (I.ok.hd j) f D (jP^by lk) λC ext=>#[rfl,?_];exact I.zS (t':=s.toks) (ch:=[n]) r λc o j e=>ext c o (λz=>j^by simp only[z]; exact Re.mpr rfl) e
 self:=λA i s Q E f h=>wpAny_pyIter_keyiter f h
def bO(c:TE):TI:=λe H R=>c e H λx b=>∃d o a,x=.ref d/\b d=P3^.frz o^.dK a/\R (em d o a) b
theorem VI(z:PE X e p):PI X y e^bO p:=by
 intro A s B H R I h;refine thn (z A s B H _ I h) λu i zz=>?_;let#[x,r,g,C,d,o,f,ex,j,q]:=zz;subst ex;subst C;let#[_,E,_]:=Fb g.hok^.inr #[o,j]
 obtain⟨k,l,a⟩:∃k l,o.data=.dict k l:=by
  let#[F,_,_,G,t,M,m,n,v,N,J,O]:=(show qv X.prog X.w r i.heap d^.frz o^.dK f from g.hok d _ j);rw[F]at v;injection v with v;subst v;exact#[m,n,J]
 let#[G,t,D]:=FH g j a
 have K:=t.length;refine wpAny_pyIter_dict E D ?_;refine#[i.heap.objs.size,[i.heap.objs.size],_,em d o f,r,rfl,g.kept (t':=i.toks) λb o e=>Ev _ e,QT d _ o f k l a,#[_,UF _ rfl,rfl,by rw[K]; rfl],λc L=>?_,q];simp only[Re.mp L];exact g.vT (On _)^g.hok.fresh^On _
end L2
namespace Dp
open L2
section

def Z8(wa:DW):Dq:=λn c P=>wa n c λd e=>∃b f,d=.fdi b f/\(∀k∈b,Lv k)/\P (b.map Ra) e
theorem V_(D:DE X a zU wa):DI X tg a^Z8 wa:=by
 let#[t,E,F]:=D;refine#[_,VI E,λC M H n G I P W R w q=>?_];refine F C M H n G I _ _ R w λv l d J m r L p=>?_;let#[b,s,rfl,f,p]:=p;have Y:=R.step m r;obtain⟨u,c,rfl,⟨o,N,z⟩,A,O⟩:∃a c,v=.ref a/\NdF M l a b c/\b.length=s.length/\Ats X.K M l s c:=L.qw R.dom R.vM;have Z:=O.length;refine#[u,o,_,rfl,z,q _ _ _ J m r (λi M' Q S T=>?_) p];have g:Q u=P3^.frz o^.dK^b.zip c:=(S.nd N z).2;have zl:(b.zip c).length=b.length:=by rw[lS]; lk
 refine#[λe h=>?_,λj=>#[g,by rw[No]at j; omega]];have k:i<b.length:=by have:=(XV.mp h).1; simp only[No]at this; exact this
 refine#[#[g,by omega],λx H2 y=>?_];let#[rfl,pp,B,rfl]:=y
 have U:(b.zip c)[i]?=P3 (b[i],c[i]'(by lk)):=by
  rw[mX];exact#[FM k,FM^by lk]
 rw[U]at B;injection B with B;subst B
 have V:e=Ra b[i]:=by
  rw[fo,FM k]at h;exact(fu h).symm
 subst V;exists .refl;simp only[To];exact UN^f _^gH k
def aA(wa:DW):DW:=λn e P=>wa n e λd f=>∃c b,d=.dic c b/\B5 b=p_/\P (.fdi c b) f
mutual
theorem At.frz{K:Frag}{M:Ch->Prop}{H:Hp}{a:Ch}{f:Ch->Obj}{kvs:r_ (Key×V)}(ha:H a=P3^.dK kvs):∀{d:D}{v:V},C5 d=p_->At K M H d v->At K M (FK H [a] f) d v
 |.non,v,_,h=>h
 |.bl b,v,_,h=>h
 |.int i,v,_,h=>h
 |.str x,v,_,h=>h
 |.tup ds,v,hn,h=>by
  let#[b,vs,e,n2,hs]:=h;refine#[b,vs,e,?_,Ats.frz ha hn hs];unfold NdT at n2 ⊢;rw[Dg λz=>by rw[Re.mp z,ha]at n2; cases n2];exact n2
 |.lst ds,v,hn,h=>by
  let#[b,vs,e,#[n1,n2],hs]:=h;refine#[b,vs,e,#[n1,?_],Ats.frz ha hn hs];rw[Dg λz=>by rw[Re.mp z,ha]at n2; cases n2];exact n2
 |.dic _ _,v,hn,h=>by cases hn
 |.fdi _ _,v,hn,h=>by cases hn
 |.dit _ _,v,hn,h=>by cases hn
theorem Ats.frz{K:Frag}{M:Ch->Prop}{H:Hp}{a:Ch}{f:Ch->Obj}{kvs:r_ (Key×V)}(ha:H a=P3^.dK kvs):∀{ds:r_ D}{vs:r_ V},B5 ds=p_->Ats K M H ds vs->Ats K M (FK H [a] f) ds vs
 |[],vs,_,h=>h
 |d::ds,vs,hn,h=>by
  let#[v,r,e,h1,h2]:=h;have hn:(C5 d&&B5 ds)=p_:=hn;rw[ZB]at hn;exact#[v,r,e,At.frz ha hn.1 h1,Ats.frz ha hn.2 h2]
end
theorem ZD(A:DE X a .fr wa):DE X a .sh^aA wa:=by
 let#[t,B,D]:=A;refine#[_,TB B,λC M H n E F P Q R w q=>?_];refine D C M H n E F _ _ R w λv u d G I J K p=>?_;let#[L,N,rfl,l,p]:=p;let#[b,rfl,x,O,j,S,T]:=K;refine#[[b],λc U=>by rw[Re.mp U]; exact#[_,j],λf=>?_];have V:¬M b:=λz=>by let#[o,w]:=R.dom b z; rw[x]at w; cases w
 have e:∀{c:Ch},c≠b->FK u [b] f c=u c:=λh=>Dg λz=>h^Re.mp z;refine q _ _ (.fdi L N) G (λc o y=>?_) ?_ #[b,O,rfl,#[f b,V,Ly (Re.mpr rfl) j],S,Ats.frz j l ?_] p
 .have W:c≠b:=Ak y x
  let#[Y,Z,k1]:=I c o y;exact#[Y,by rw[e W]; exact Z,k1]
 .intro g hg
  let#[m,k,i,r,h2,#[n3,s],h4]:=J g hg;exact#[m,k,i,by rw[e λz=>by rw[z,j]at r; cases r]; exact r,h2,#[n3,by rw[e λz=>by rw[z,j]at s; cases s]; exact s],h4]
 .exact T.qq^qZ.less (M':=M) λ_ z=>.inl z
end
end Dp
namespace L2
open PySem.W
structure fe (prog:f7) (w:gB) (A:gE) (I d:Ch) (n:Nat) (base:fz) (key:Nat->Ch) (val:Nat->Db) (ch:Ch->Prop) (St:Nat->fz->Prop):Prop where
 new:∀b,ch b->base.get? b=o_
 item:∀(i:Nat) (s:Go) (Q:Option Db->Go->Prop) (E:Db->Go->Prop),i<n->St i s.heap->(∀b o,base.get? b=P3 o->s.heap.get? b=P3 o)->(∃o,s.heap.get? d=P3 o)->
  (∀h' tk a o c,h'.get? a=P3 o->o.cls=.type "tuple"->o.data=.seq #[ .ref^key i,val i] c->St (i+1) h'->(∀b o,¬ch b->s.heap.get? b=P3 o->h'.get? b=P3 o)->Q (P3^.ref a) {s with heap:=h',toks:=tk})->wpAny (model prog w) A (pyNext^.ref I) Q E s
 done:∀(s:Go) (Q:Option Db->Go->Prop) (E:Db->Go->Prop),St n s.heap->(∀b o,base.get? b=P3 o->s.heap.get? b=P3 o)->(∀h' tk,(∀b o,¬ch b->s.heap.get? b=P3 o->h'.get? b=P3 o)->Q o_ {s with heap:=h',toks:=tk})->wpAny (model prog w) A (pyNext^.ref I) Q E s
 frame:∀i h h',St i h->ji d h h'->St i h'
 dch:¬ch d
end L2
namespace Dp
open L2
end Dp
namespace L2
end L2
namespace Dp
open L2
end Dp
namespace L2
end L2
namespace Dp
open L2
end Dp
namespace L2
end L2
namespace Dp
open L2
end Dp
namespace L2
end L2
namespace Dp
open L2
end Dp
namespace L2
section

theorem Pq{K:Frag}(c:XC K a C U):∀{b:r_ Ch}{d:r_ Str},Paired (fun(D:Ch) (n:Str)=>n ≠ "ThinError"/\∃f,XC K n D f) b d->PySem.W.kitAny K (.ref C)^b.map fj=P3 (decide (a∈d))
 |[],_,.nil=>by simp[PySem.W.kitAny]
 | D::b,_,@Paired.cons _ _ _ _ n _ d #[g,f,h] r=>by
  rw[gJ];unfold PySem.W.kitAny;rw[c.kit h g]
  by_cases e:a=n
  .simp[e]
  .simp only[e,decide_false]
   simp only[Pq c r];simp[e]
theorem Ma:∀{a:r_ Ch}{b:r_ Db},qQ (a.map V.ref) b->b=a.map fj
 |[],_,r=>by rw[lO]at r; cases r; rfl
 |D::a,_,r=>by
  rw[gJ]at r;cases r with
  |cons h t=>simp only[gJ,Ma t]; subst h; rfl
theorem Rg:CL X (.builtin "isinstance") (λm H Q=>∃a C U g u i t j k,m=[.ref a,.ref t]/\H a=P3 u/\XT C g a u/\(∀d,g=P3 d->∃p,H d=P3^.ext^XF d p)/\XC X.K i C U/\H t=P3^.tup^j.map V.ref/\Paired (fun(D:Ch) (n:Str)=>n ≠ "ThinError"/\∃A,XC X.K n D A) j k/\Q (.bl (decide (i∈k))) H):=by
 intro Z s σ H m us Q I r h;let#[a,C,U,g,u,i,t,j,k,rfl,B,E,F,v,G,L,q]:=h;let#[M,N,rfl,O,P]:=vals2 r;cases(show M=fj a from O);cases(show N=fj t from P)
 have J:=E.inst I B λd e=>by
  let#[p,l]:=F d e;let#[#[mA,#[o,_,_,R,_],_],_]:=(show qv X.prog X.w H s.heap d _ from I.hok d _ l);exact#[o,R]
 let#[_,S,T,o,l,x,n,b,c,f]:=(show qv X.prog X.w H s.heap t _ from I.hok t _ G);let#[Y,dd,y,sl]:=o;simp only at x b c f;subst x b c f;have e:=Ma T;subst e;exact PySem.W.kia_tup v.kitX I.kIn J l (Pq v L) (by intro z; cases z) λtk=>#[.bl _,H,I.tok _,rfl,q]
end
end L2
namespace Dp
open L2
section

def Z5(i:Nat)(w:Nat->r_ Slot->(D->Nat->Prop)->PX->Prop):Xi:=λb c n a=>w n a (λd e=>b.nx e^a.set i^.sh d) c
theorem Vy(c:X.N.Nodup)(f:X.N[i]?=P3 x)(hx:Loc X.env.scope x)(h:fK X e b w)(g:b≠.tp:=by intro z; cases z)(j:swapsWith e (P3^.Name x a) pos.line X.env=pure q_:=by rfl)
  (k:X.fn x=p_\/X.env.scope.names.lookup x=P3 .local:=by first|exact .inl rfl|exact .inr rfl|assumption):cy X κ (.Assign [.Name x a] e pos)^Z5 i w:=by
 let#[t,m,o]:=h;refine#[_,VC c f hx m j k,λC M H n q s I E R u r L l w=>?_];exact o C M H n q s _ _ R u r l w λv y d A B F G p=>L.nx M y A _ _ ((r.step B F).set^G.zj r.dom g) p
def CN(X:Cx)(es:r_ gA)(b:r_ Str):Prop:=∃a:r_ Ch,PA X es (λ_ H Q=>Q (a.map V.ref) H)/\Paired (fun(D:Ch) (n:Str)=>n ≠ "ThinError"/\∃c,XC X.K n D c) a b
theorem ZL:CN X [] []:=#[[],B4,.nil]
theorem FI{a:Str}{D U:Ch}(f:a ≠ "ThinError")(xd:XC X.K a D U)(b:Gl X a)(c:X.mg a=P3^.ref D)(g:CN X es ns)(h:starEach (.Name a p::es) X.env=(q_,eval (.Name a p) X.env)::starEach es X.env:=by rfl)(d:(a==("__debug__":Str))=q_:=by decide):
  CN X (.Name a p::es) (a::ns):=by
 let#[j,k,l]:=g;exact#[D::j,A4 (Ph (v:=.ref D) b c rfl d) k h,.cons #[f,U,xd] l]
def Wc(i:Nat)(a:r_ Str):DW:=λn b P=>match b[i]? with
 |some (.ex _ c _ _)=>P (.bl (decide (c∈a))) n
 |_=>False
set_option tactic.hygienic true in
theorem WD{j}(h:CN X es c)(hl:es.length<=100)(D:Gl X "isinstance")(E:X.mg "isinstance"=o_)(F:X.N[i]?=P3 x:=by rfl)(G:QK X.env.scope x:=by first|exact gi rfl|exact iE (gi rfl)|exact iE (iE rfl))(k:(x==("__debug__":Str))=q_:=by decide)
  (l:(x==("__classdict__":Str))=q_:=by decide) (hn:c.length<=100:=by decide) (v:starEach [.Name x p1,.Tuple es j tpos] X.env=(q_,eval (.Name x p1) X.env)::starEach [.Tuple es j tpos] X.env:=by rfl) (m:starEach [.Tuple es j tpos] X.env=[(q_,eval (.Tuple es j tpos) X.env)]:=by rfl) (r:(backTo pos^starEach [.Tuple es j tpos] X.env).any (·.1)=q_:=by rfl):
  DE X (.Call (.Name "isinstance" p) [.Name x p1,.Tuple es j tpos] [] pos) .sh (Wc i c):=by
 let#[e,I,y]:=h;refine#[_,C4 Rg D E (by decide +kernel) (A4 (ES F G k l) (A4 (OO I) B4 m) v) (by cbv) (by cbv) v r,λC M H n ρ σ P Q R w q=>?_];unfold Wc at w
 split at w
 .rename_i a J ks ds k
  let#[K,L,O,S,u,vs,T,#[na,U],W,Y,Z,hs]:=R.sl i _ k;have hz:(e.map V.ref).length<=sizeLine:=by simp only[No,Paired.length y,gn]; lk
  refine#[.ref a,getD_some K,hz,λt A=>?_];have g:qW H^Al H t^.tup^e.map V.ref:=Ab A;have B:∀b o,H b=P3 o->Al H t (.tup^e.map V.ref) b=P3 o:=λb o q=>by rw[AL λz=>by subst z; rw[A]at q; cases q]; exact q
  refine#[a,L,O,S,u,J,t,e,c,rfl,B _ _ U,W,λd f=>?_,T,AQ,y,q _ _ (.bl _) n g.ext (R.feed.grow g) rfl w]
  rcases Y with⟨z,_⟩|⟨dd,z,_,s⟩
  .rw[z]at f; cases f
  .rw[z]at f; injection f with f;subst f; exact#[_,B _ _ s]
 .exact w.elim
end
section

theorem Vz(I:∀C p,v C->v {C with zG:=p})(V:lE (model X.prog X.w) X.A X.env X.xe)(W:X.calm=p_)(P:DI X tg iter src)(Y:DG X tg b)(Z:Ny v X κ body wb)
  (hs:∀x,foldedSetIterable iter X.env x=pure x:=by intro _; rfl):Z2 v X κ (.For tg iter body [] pos)^N5 src b wb:=by
 let#[wi,a1,a2]:=P;let#[g,g1,g2]:=Y;let#[tb,b1,b2]:=Z;refine#[_,JD V W a1 g1 b1 hs,λC M H n Q σ h E hC R L w=>?_];refine a2 C M H n Q σ _ _ R w λJ z a n1 e1 f1 y w1=>?_;have R1:=R.step e1 f1;exists λi m B j=>m=a.length - i/\i<=a.length/\∃c k o,Rel X.K {C with zG:=(M,z)::C.zG} c j k o B/\BH b wb h (a.drop i) k o,#[a.length,by rfl,T0 _,M,n1,Q,R1.pinned,w1];rintro i m B j ⟨rfl,P,c,k,o,l,D⟩;have S:qZ M z c j:=l.pin (M,z) Op
 by_cases d:i<a.length
 .have ed:a.drop i=a[i]::a.drop (i+1):=g_ d
  rw[ed]at D;let#[go,yl]:=(y i c j S l.dom).1 a[i] (FM d);refine .inr #[go,λT H2=>∃M2 F G,Rel X.K {C with zG:=(M,z)::C.zG} M2 H2 F G T/\BH b wb h (a.drop (i+1)) F G,λT H2 #[M2,F,G,f,w2]=>#[a.length - (i+1),by omega,rfl,d,M2,F,G,f,w2],λx H2 hy=>?_];let#[U,hx]:=yl x H2 hy;have f:=l.step U.ext^l.feed.grow U;refine g2 _ c H2 k o B a[i] x _ _ f hx D λzP zV R3 w3=>?_;refine b2 _ c H2 k zP zV {h with nx:=BH b wb h^a.drop (i+1),ct:=BH b wb h^a.drop (i+1),bk:=h.nx} _ (I C _ hC) R3 #[λq N r s O t u=>#[q,r,s,t,u],L.rt,λq N r s O t u=>L.nx q N r s O t.vg u,λq N r s O t u=>#[q,r,s,t,u]] w3
 .have e:i=a.length:=by lk
  subst e;rw[jl]at D;exact .inl #[(y _ c j S l.dom).2 (On _),L.nx c j k o B l.vg D]
end
end Dp
namespace L2
end L2
namespace Dp
open L2
end Dp
namespace L2
end L2
namespace Dp
open L2
abbrev Fu(K:Frag)(x:Str)(a:gz)(f:Ch)(fd:gX):Prop:=Fun K x x a f fd
theorem fC{K:Frag}{c:gz}(F:Fu K x c f fd)(S:BJ N d^AK c)
  (m:∀{e:Db}{A:gE}{b:r_ Env}{s:Go}{H:Hp}{E:XK},qj k^A.deeper^envOfC x (AK c) s.heap.objs.size f e->MV (Dh Ef P w K j a N x (AK c) f e A b s H E).nox g (A9 c) l)
  (o:∀{ss n Pd},W ss n Pd->l {nx:=λn _=>g=.sh/\Pd .non n,rt:=Pd} n (ss++fq (N.length - d.length) .no)) (i:d.length<=N.length:=by decide):
  qV P w K j a Ef (k+1) f fd d (Qa K g W d.length):=d9 F S i (λ_ _ _ _ _ _ h=>m h) λ_ _ _ _ h=>o h
section

theorem cg(g:qj m X.A)(G:Got X.prog X.w X.K X.mg X.base x k h f W)(i:Rz X (e::a) b)(j:k<=m:=by decide)(l:Gl X x:=by rfl)
  (c:(x==("__debug__":Str))=q_:=by decide) (n:starEach (e::a) X.env=(q_,eval e X.env)::starEach a X.env:=by rfl) (d:(backTo pos^starEach a X.env).any (·.1)=q_:=by rfl):DE X (.Call (.Name x p) (e::a) [] pos) f^A1 W b:=CJ G (g.mono j) l i c n d

theorem fY(a:r_ Str)(c:r_^s_ Nat)(d:Xj X tg iter src)(e:∀{cl C s H fp},DG (Ap X sc a cl C s H fp) tg b)(f:∀{cl C s H fp},Zs (Ap X sc a cl C s H fp) ifs tt)(g:∀{cl C s H fp},DE (Ap X sc a cl C s H fp) elt zT te)
  (h:Ge sc X.env.scope X.N a c=p_) (i:X.calm=p_:=by rfl) (j:zT≠.tp:=by intro z; cases z) (k:∀x,foldedSetIterable iter X.env x=pure x:=by intro _; rfl):DE X (.ListComp elt [#[tg,iter,ifs,0]] sc pos) .fr^FP c src b tt te:=P9 i a c d (λ_ _ _ _ _=>e) (λ_ _ _ _ _=>f) (λ_ _ _ _ _=>g) h j k
end
theorem XJ{K:Frag}{o:gz}{W:Nat->W2}{u:W2->AZ}(c:Nat)(F:Fu K x o f fd)(S:BJ N e^AK o)(m:q x=P3^.ref f)(b:Binds K fd e [])
  (r:∀{k:Nat}{p:W2}{i:Db}{A:gE}{d:r_ Env}{s:Go}{H:Hp}{E:XK},c+1<=k->Got P w K q a x k e .sh p->qj k^A.deeper^envOfC x (AK o) s.heap.objs.size f i->MV (Dh Ef P w K q a N x (AK o) f i A d s H E).nox .sh (A9 o)^u p)
  (t:∀{p j g n Pd},(∀g n P,j≠0->W (j - 1) g n P->p g n P)->W j g n Pd->u p {nx:=λn _=>Kd.sh=.sh/\Pd .non n,rt:=Pd} n (g++fq (N.length - e.length) .no)) (v:∀j g n P,W j g n P->g.length=e.length) (l:e.length<=N.length:=by decide):
  ∀j,qV P w K q a Ef (c+2+j) f fd e^Qa K .sh (W j) e.length
 |0=>d9 (k:=c+1) F S l (λ_ _ _ _ _ _ h=>r (On _) (T3 (W:=λ_ _ _=>False) F m b (λ_ _ _ h=>h.elim)^F.ok (k:=c) S (λy H Q E h=>h.1) λi A d s H y Q E C h=>by let#[_,_,_,_,_,_,_,_,_,B,_]:=h; exact B.elim) h) λ_ _ _ _ h=>t (λ_ _ _ z _=>absurd rfl z) h
 |j+1=>d9 (k:=c+2+j) F S l (λ_ _ _ _ _ _ h=>r (by lk) (T3 F m b (v j)^XJ c F S m b r t v l j) h) λ_ _ _ _ h=>t (j:=j+1) (λ_ _ _ _ h=>h) h
end Dp
namespace K12
open L2 Dp Nt
def top(i:Nat):gz:=PySem.Challenge.pw_thinnet_k12_greedy_papers_bent.main.body.getD i^.Pass #[0,0,0,0]
def bL(s:gz):gz:=match s with
 |.ClassDef _ _ _ b _ _ _ _ _ _ _=>b.getD 0^.Pass #[0,0,0,0]
 |_=>.Pass #[0,0,0,0]
abbrev Fg:gz:=top 15
abbrev FT:gz:=top 42
abbrev En:gz:=top 44
abbrev Dv:gz:=top 45
abbrev HK:gz:=top 55
abbrev Em:gz:=top 65
abbrev I_:gz:=top 70
abbrev Cb:gz:=bL^top 2
structure Txt (K:Frag) (mg:Str->Option Db):Prop where
 Gak:mg "ValueError"=o_
 Gal:mg "abs"=o_
 Gah:mg "all"=o_
 Gao:mg "bool"=o_
 Gar:mg "dict"=o_
 Gai:mg "enumerate"=o_
 Gam:mg "int"=o_
 Gaa:mg "isinstance"=o_
 Gac:mg "len"=o_
 Gag:mg "list"=o_
 Gap:mg "min"=o_
 Gad:mg "range"=o_
 Gae:mg "repr"=o_
 Gan:mg "reversed"=o_
 Gaf:mg "sorted"=o_
 Gaj:mg "str"=o_
 Gab:mg "tuple"=o_
 Gaq:mg "zip"=o_
 x_NoPaper:∃C U,XC K "NoPaper" C U/\mg "NoPaper"=P3 (.ref C)
 x_NoLine:∃C U,XC K "NoLine" C U/\mg "NoLine"=P3 (.ref C)
 x_TooMany:∃C U,XC K "TooMany" C U/\mg "TooMany"=P3 (.ref C)
 x_Twice:∃C U,XC K "Twice" C U/\mg "Twice"=P3 (.ref C)
 x_NoPlace:∃C U,XC K "NoPlace" C U/\mg "NoPlace"=P3 (.ref C)
 x_NoTie:∃C U,XC K "NoTie" C U/\mg "NoTie"=P3 (.ref C)
 x_NoRow:∃C U,XC K "NoRow" C U/\mg "NoRow"=P3 (.ref C)
 x_ThinError:∃U,Z1 K U/\mg "ThinError"=P3^.ref U/\nsIn K mainGlobals "ThinError"=P3^P3^.ref U
section
variable {K:Frag}
theorem n6:BJ ["_law_feed_here","_law_many","_law_digit","_law_at","_law_cell","_law_first"] ["_law_feed_here","_law_many"]^AK Dv:=#[rfl,rfl,rfl,by decide +kernel,rfl,by decide +kernel,by decide +kernel]
theorem VX(F:Fun K "_law_next" "_law_next" Dv f fd)(ml:mg "len"=o_):qV P w K mg base Ef 1 f fd ["_law_feed_here","_law_many"]^Qa K .sh Ee 2:=by
 refine F.ok n6 (λvs H Q E h=>h.1) λa0 A a1 s H vs Q E hr h=>?_;let#[hl,F0,U,V',M,n,ss,Pd,ra,#[m,rfl,a8,S,hn,hP],q]:=h;let#[a9,fU,uV,vM,a2,T]:=ra;cases T with
 |cons r1 T=>
 cases T with
 |cons r2 T=>
 cases T;let#[#[d,c],e0,hF]:=r1.1;cases e0;let#[v2,e2,Z]:=r2.1;cases e2;cases(show _=V.int m from Z);let#[a,r,u,J,L,hc,a3,a4,b0]:=a2 (d,c) hF
 have N:∀(W r' z:Int) (y:Hp),(∀b o,H b=P3 o->b≠d->y b=P3 o)->y d=P3^.lst [.ref c,.int W,.int r']->0<=W->W<=a+1->0<=z->z<m->Q (.int z) y:=by
  intro W r' z y hk X h0 h1 a5 a6;refine q (.int z) y (.int z) (n - 1) (λb o e=>?_) (λg hg=>?_) rfl (hP z a5 a6)
  .by_cases v:b=d
   .subst v
    exact#[_,X,λnu=>absurd (fU (b,c) hF) nu,λvs z=>by simp only[z,J]at e; cases e]
   .exact#[o,hk b o e v,λ_=>rfl,λ_ _=>rfl]
  .have:g=(d,c):=fu^hg.symm.trans hF
   subst this;exact#[W,r',u,X,L,#[hc.1,hk c _ hc.2 L],a3,h0,by lk]
 have hu:(A.deeper^envOfC "_law_next" (AK Dv) s.heap.objs.size f a0).units<cLine:=hr.units0;have l:∀{y:Hp}{xs:r_ V},y d=P3^.lst xs->SqL K y d xs:=λh=>SqL.of h;have R:∀z:Int,0<=z % m/\z % m<m:=λz=>#[Int.emod_nonneg _^by lk,Int.emod_lt_of_pos _^by lk]
 exists _,BG (Pa (GD XA (EZ qB (pv 0) Av λ_ _=>rfl) Av^Bj _)
   (BG (Ep (i:=2) n6.nd rfl (gi rfl) (B3 D5 (EZ qB (pv 0) Av λ_ _=>rfl)^pv 1))
   (BG (Le (B3 IN (EZ qB (pv 0) Av λ_ _=>rfl)^pv 1)^ON (pv 0) Av set_list)
   (Cz^Fh^pv 2))) Ld)
  (BG (Ep (i:=3) n6.nd rfl (gi rfl) (EZ qB (pv 0) Av λ_ _=>rfl))
  (BG (Le (B3 vy (pv 3) Av)^ON (pv 0) Av set_list)
  (BG (Ep (i:=4) n6.nd rfl (gi rfl) (Mu (GD (Qp hu) (EZ qB (pv 0) Av λ_ _=>rfl) (OP B4)^Bj _)
   (EZ qB (EZ qB (pv 0) Av λ_ _=>rfl) (B3 D5 (pv 3) (C4 Jr rfl ml PySem.boot_len (A4 (EZ qB (pv 0) Av λ_ _=>rfl) B4))) λ_ _=>rfl) Av))
  (BG (Pa (PW.pt^Su (GD XB (pv 4) (B3 DZ Av Av)^Bj _)^PV^GD op_lt (pv 3) (C4 Jr rfl ml PySem.boot_len (A4 (EZ qB (pv 0) Av λ_ _=>rfl) B4))^Bj _)
   (BG (Le (B3 IN (pv 4)^pv 1)^ON (pv 0) Av set_list)
   (Cz^Fh^B3 D5 (pv 4)^pv 1)) Ld)
  (BG (Ep (i:=5) n6.nd rfl (gi rfl) (B3 D5 (B3 vz (B3 vy (B3 vy (B3 vy (B3 D5 (pv 4) Av)^B3 vz (B3 vz Av^pv 3)^pv 3)^B3 vz Av^pv 3) Av) Av) Av))
  (Cz^Fh^B3 D5 (B3 IN (B3 D5 (B3 vz (B3 vy (pv 5)^B3 vz Av^pv 3) Av) Av) Av)^pv 1))))))
 exists _,rfl,d,_,2,_,rfl,rfl,l J,rfl,_,_,rfl,rfl,_,rfl;refine B9 (λc1=>?_) λc1=>?_
 .exists _,rfl,d,_,2,_,rfl,rfl,l J,rfl,_,rfl,_,_,rfl,rfl,(by show(0:Int)<m; omega)
  exists _,rfl,d,_,2,_,rfl,rfl,l J,rfl,_,rfl,_,_,rfl,rfl,#[(by show(0:Int)<m; omega),S],_,rfl,d,_,2,2,rfl,rfl,J,rfl;exists _,rfl;exact N a _ _ _ (λb o e v=>by rw[AL v]; exact e) AQ a4 (by lk) (R _).1 (R _).2
 ·-- at=feed[1]; feed[1]=at+1
  exists _,rfl,d,_,1,_,rfl,rfl,l J,rfl;exists _,rfl,_,_,rfl,rfl,_,rfl,d,_,1,1,rfl,rfl,J,rfl;generalize Y:Al H d^.lst^[V.ref c,V.int a,V.int r].set 1^V.int (a+1)=H1;have f1:H1 d=P3^.lst [.ref c,.int (a+1),.int r]:=by rw[←Y]; exact AQ
  have k1:∀b o,H b=P3 o->b≠d->H1 b=P3 o:=λb o e v=>by rw[←Y,AL v]; exact e
  have B:H1 c=P3^.lst^u.map V.int:=k1 c _ hc.2 L
  have D:∀(z:Int) (H2:Hp),(∀b o,H1 b=P3 o->H2 b=P3 o)->
    (QY (aJ (aP (PP^EC (HL λi j=>V.bl (decide (j<=i))) (CH 4)^EC (rI WY λi j=>V.int (i ^ j.toNat)) (tC^V.int 10)^tC^V.int 18)^PP^EC (HL λi j=>V.bl (decide (i<j))) (CH 3)^cj (λxs H Q=>∃x n,xs=[x]/\Zl K x H n/\Q (V.int n) H)^PQ (EC (YI K) (CH 0)^tC^V.int 0) U5) (QY (Mi (EC (rI WZ λi j=>V.int (i / j)) (CH 4)^CH 1)^bT (CH 0) (tC^V.int 2) Wv)^U1^EC (rI (λ_ j=>0<j) λi j=>V.int (i % j)) (CH 4)^CH 1) Wn)^QY (Mi (EC (rI (λ_ j=>0<j) λi j=>V.int (i % j)) (EC (rI qN λi j=>V.int (i*j)) (EC (HL λi j=>V.int (i+j)) (EC (HL λi j=>V.int (i+j)) (EC (HL λi j=>V.int (i+j)) (EC (rI (λ_ j=>0<j) λi j=>V.int (i % j)) (CH 4)^tC^V.int 1000003)^EC (rI qN λi j=>V.int (i*j)) (EC (rI qN λi j=>V.int (i*j)) (tC^V.int 41)^CH 3)^CH 3)^EC (rI qN λi j=>V.int (i*j)) (tC^V.int 17)^CH 3)^tC^V.int 3)^tC^V.int 51749)^tC^V.int 999917)^HW 5)^U1^EC (rI (λ_ j=>0<j) λi j=>V.int (i % j)) (EC (rI WZ λi j=>V.int (i / j)) (EC (rI (λ_ j=>0<j) λi j=>V.int (i % j)) (EC (rI qN λi j=>V.int (i*j)) (EC (HL λi j=>V.int (i+j)) (CH 5)^EC (rI qN λi j=>V.int (i*j)) (tC^V.int 8111)^CH 3)^tC^V.int 39373)^tC^V.int 2097143)^tC^V.int 3)^CH 1)
     {nx:=λ_ y=>Q .non y,rt:=Q} [P3^.ref d,P3^.int m,o_,P3^.int a,P3^.int z,o_] H2:=by
   intro z H2 k2;have f2:=k2 _ _ f1;have c2:=k2 _ _ B
   have t:∀H3:Hp,H3=H2->(QY (Mi (EC (rI (λ_ j=>0<j) λi j=>V.int (i % j)) (EC (rI qN λi j=>V.int (i*j)) (EC (HL λi j=>V.int (i+j)) (EC (HL λi j=>V.int (i+j)) (EC (HL λi j=>V.int (i+j)) (EC (rI (λ_ j=>0<j) λi j=>V.int (i % j)) (CH 4)^tC^V.int 1000003)^EC (rI qN λi j=>V.int (i*j)) (EC (rI qN λi j=>V.int (i*j)) (tC^V.int 41)^CH 3)^CH 3)^EC (rI qN λi j=>V.int (i*j)) (tC^V.int 17)^CH 3)^tC^V.int 3)^tC^V.int 51749)^tC^V.int 999917)^HW 5)^U1^EC (rI (λ_ j=>0<j) λi j=>V.int (i % j)) (EC (rI WZ λi j=>V.int (i / j)) (EC (rI (λ_ j=>0<j) λi j=>V.int (i % j)) (EC (rI qN λi j=>V.int (i*j)) (EC (HL λi j=>V.int (i+j)) (CH 5)^EC (rI qN λi j=>V.int (i*j)) (tC^V.int 8111)^CH 3)^tC^V.int 39373)^tC^V.int 2097143)^tC^V.int 3)^CH 1)
     {nx:=λ_ y=>Q .non y,rt:=Q} [P3^.ref d,P3^.int m,o_,P3^.int a,P3^.int z,o_] H3:=by
    intro H3 e3;subst e3;have v:qN (41*a) a:=.inr #[by lk,by lk];exists _,rfl,_,_,rfl,rfl,(by show(0:Int)<1000003; decide),_,rfl,_,_,rfl,rfl,.inl #[by cbv,by cbv],_,rfl,_,_,rfl,rfl,v,_,_,rfl,rfl,_,rfl,_,_,rfl,rfl,.inl #[by cbv,by cbv],_,_,rfl,rfl,_,_,rfl,rfl,_,_,rfl,rfl,.inr #[by cbv,by cbv],_,_,rfl,rfl,(by show(0:Int)<999917; decide);exists _,rfl,_,rfl,_,_,rfl,rfl,.inl #[by cbv,by cbv],_,_,rfl,rfl,_,_,rfl,rfl,.inr #[by cbv,by cbv],_,_,rfl,rfl,(by show(0:Int)<2097143; decide),_,_,rfl,rfl,#[by cbv,by cbv],_,rfl,_,_,rfl,rfl,(by show(0:Int)<m; lk);exact N (a+1) r _ _ (λb o e v=>k2 b o^k1 b o e v) f2 (by lk) (by lk) (R _).1 (R _).2
   exists _,rfl,_,_,rfl,rfl,#[by cbv,by cbv,by cbv],_,_,rfl,rfl,_,rfl;refine B9 (λc3=>?_) λc3=>?_
   .exists _,rfl,_,rfl,d,_,0,_,rfl,rfl,l f2,rfl,_,_,rfl,.inl #[_,SqL.of c2,rfl],_,_,rfl,rfl,_,rfl
    refine B9 (λc4=>?_) λc4=>t H2 rfl;exists _,rfl,_,rfl,_,_,rfl,rfl,#[(by show(0:Int)<m; omega),S],_,rfl,d,_,2,2,rfl,rfl,f2,rfl;exists _,rfl,_,rfl,_,_,rfl,rfl,(by show(0:Int)<m; omega);exact N (a+1) _ _ _ (λb o e v=>by rw[AL v]; exact k2 b o^k1 b o e v) AQ (by lk) (by lk) (R _).1 (R _).2
   .refine B9 (λc4=>absurd c4^by simp) λ_=>t H2 rfl
  refine#[_,rfl,d,_,0,_,rfl,rfl,l f1,rfl,(by show 0<=sizeLine; decide),λp hp=>?_];have O:∀b o,H1 b=P3 o->Al H1 p (.lst []) b=P3 o:=λb o e=>by rw[AL^Ak e hp]; exact e
  exists c,p,_,rfl,rfl,SqL.of^O _ _ B,SqL.of AQ,_,rfl;cases u with
  |nil=>exact Az^D 0 _ O
  | cons G C=>
   refine Ay ?_;have a7:(((G::C).map V.int).length:Int)=(C.length:Int)+1:=by simp
   have I:(0:Int)<(((G::C).map V.int).length:Int):=by lk
   obtain⟨z,hz⟩:∃z,atI ((G::C).map V.int) (a % (((G::C).map V.int).length:Int))=P3^.int z:=by
    have h1:=Int.emod_nonneg a (show(((G::C).map V.int).length:Int)≠0 by lk);have Z:=Int.emod_lt_of_pos a I;generalize a % (((G::C).map V.int).length:Int)=j at h1 Z;obtain⟨k,rfl⟩:∃k:Nat,j=(k:Int):=#[j.toNat,by lk];have hk:k<(G::C).length:=by rw[No]at Z; lk
    refine#[(G::C)[k],AD ?_];simp only[fo,FM hk];rfl
   exists _,rfl,d,_,0,_,rfl,rfl,l^O _ _ f1,rfl,_,rfl,_,rfl,d,_,0,_,rfl,rfl,l^O _ _ f1,rfl,_,_,rfl,.inl #[_,SqL.of^O _ _ B,rfl],_,_,rfl,rfl,I,c,_,_,_,rfl,rfl,SqL.of^O _ _ B,hz;exact D z _ O
end
end K12
namespace Dp
open L2
section

theorem CB(i:Nat)(c:X.N.Nodup)(d:DE X e zT wa)(f:X.N[i]?=P3 x:=by rfl)(hx:Loc X.env.scope x:=by first|exact .inl rfl|exact .inr rfl)(g:zT≠.tp:=by intro z; cases z)(h:swapsWith e (P3^.Name x pos') pos.line X.env=pure q_:=by rfl)
  (j:X.fn x=p_\/X.env.scope.names.lookup x=P3 .local:=by first|exact .inl rfl|exact .inr rfl|assumption):DS X κ (.Assign [.Name x pos'] e pos)^CY i wa:=Y5 c f hx d g h j
theorem N0(i:Nat)(c:X.N.Nodup)(d:DE X e .fr wa)(f:X.N[i]?=P3 x:=by rfl)(hx:Loc X.env.scope x:=by first|exact .inl rfl|exact .inr rfl)(g:swapsWith e (P3^.Name x pos') pos.line X.env=pure q_:=by rfl)
  (h:X.fn x=p_\/X.env.scope.names.lookup x=P3 .local:=by first|exact .inl rfl|exact .inr rfl|assumption):DS X κ (.Assign [.Name x pos'] e pos)^PB i wa:=V0 c f hx d g h
theorem CU(i:Nat)(c:X.N.Nodup)(d:X.N[i]?=P3 x:=by rfl)(hx:Loc X.env.scope x:=by first|exact .inl rfl|exact .inr rfl)(e:X.fn x=p_\/X.env.scope.names.lookup x=P3 .local:=by first|exact .inl rfl|exact .inr rfl|assumption):DG X (.Name x pos)^Aq i:=Ga c d hx e
theorem Ry(h:cb X es bs)(d:X.calm=p_:=by rfl)(e:(assignEach es X.env).length=es.length:=by rfl)(c:(assignEach es X.env).findIdx? (·.1)=o_:=by rfl):DG X (.Tuple es j pos)^HE es.length bs:=Y_ d h e c
theorem BZ(h:DE X e κ wa)(c:Rz X es was)(d:κ≠.tp:=by intro z; cases z)(f:starEach (e::es) X.env=(q_,eval e X.env)::starEach es X.env:=by rfl):Rz X (e::es)^AI (AU wa) was:=AS (bu h d) c f
theorem BA(i:Nat)(d:Rz X es was)(e:X.N[i]?=P3 x:=by rfl)(f:QK X.env.scope x:=by first|exact gi rfl|exact iE (gi rfl)|exact iE (iE rfl))(hd:(x==("__debug__":Str))=q_:=by decide)(c:(x==("__classdict__":Str))=q_:=by decide)
  (g:starEach (.Name x pos::es) X.env=(q_,eval (.Name x pos) X.env)::starEach es X.env:=by rfl):Rz X (.Name x pos::es)^AI (AU^AH i) was:=BZ (dv i e f hd c) d (by intro z; cases z) g
theorem Aj(c:DE X a zU wa)(d:DE X b zO wb)(e:MT b:=by intro _ _; rfl):DE X (.Subscript a b pos) .sh^Am CV wa wb:=bp Yq eO c d e
theorem Hd(c:r_ Str)(d:r_^s_ Nat)(e:Xj X tg iter src)(f:∀{cl C s H fp},c.Nodup->DG (Ap X sc c cl C s H fp) tg bb)(g:∀{cl C s H fp},Zs (Ap X sc c cl C s H fp) ifs tt)(h:∀{cl C s H fp},DE (Ap X sc c cl C s H fp) elt zT te)
  (i:Ge sc X.env.scope X.N c d=p_:=by kernel_rfl) (j:c.Nodup:=by decide +kernel) (k:X.calm=p_:=by rfl) (l:zT≠.tp:=by intro z; cases z) (m:∀x,foldedSetIterable iter X.env x=pure x:=by intro _; rfl):DE X (.ListComp elt [#[tg,iter,ifs,0]] sc pos) .fr^FP d src bb tt te:=fY c d e (f j) g h i k l m
theorem Bl(d:OpR X (compareOp c) r)(e:D_ X.K .sh r f)(g:DE X a zU wa)(h:DE X b zO wb)(i:behindInMarks c b=q_:=by first|exact Bj _|with_unfolding_all rfl):DT X (.Compare a [c] [b] j)^Au^Am f wa wb:=Y3 d e g h i
theorem Fw(c:X.mg "len"=o_)(d:DE X e κ wa)(f:Gl X "len":=by rfl)(he:starEach [e] X.env=[(q_,eval e X.env)]:=by rfl):DE X (.Call (.Name "len" pos') [e] [] pos) .sh^Gr NV^AM wa Ad:=Ai Jr cA f c PySem.boot_len (AN d AW he) (he:=he)
theorem Vx(c:X.mg "tuple"=o_)(d:DE X e κ wa)(f:Gl X "tuple":=by rfl)(he:starEach [e] X.env=[(q_,eval e X.env)]:=by rfl):DE X (.Call (.Name "tuple" pos') [e] [] pos) .sh^Gr D1^AM wa Ad:=DR KL UY f c boot_tuple (AN d AW he) (he:=he)
def Qi:=PySem.F.plainAttrs_list
def Rw:=PySem.F.slot_list_append
def Ru:=PySem.F.type_list_append
end
section
variable {K:Frag}{st:Stmt}
theorem bW(F:Fu K x st f fd)(N:r_ Str)
  (g:∀{b:Db}{A:gE}{a:r_ Env}{s:Go}{H:Hp}{E:XK},N.Nodup->qj k^A.deeper^envOfC x (AK st) s.heap.objs.size f b->MV (Dh Ef P w K mg base N x (AK st) f b A a s H E).nox c (A9 st) e)
  (h:∀{ss n Pd},W ss n Pd->e {nx:=λn _=>c=.sh/\Pd .non n,rt:=Pd} n (ss++fq (N.length - ps.length) .no)) (S:BJ N ps^AK st:=by constructor <;>first|rfl|decide +kernel) (d:ps.length<=N.length:=by decide):
  qV P w K mg base Ef (k+1) f fd ps (Qa K c W ps.length):=fC F S (g S.nd) h d
end
end Dp
namespace Nt
open L2 Dp
abbrev EE(a:D->Nat->Prop):E2:={nx:=λn _=>Kd.sh=.sh/\a .non n,rt:=a}
theorem Ag(g:D->D)(I:r_ Slot->Prop):∀(e a:r_ D) (n:Nat) (c:r_ Slot),
  (∀d∈e,∀(c:r_ Slot) (n:Nat) (l:D->Nat->r_ Slot->Prop),I c->(∀i,I i->l (g d) n i)->b d c λm=>k n m λy p=>l y p m)->I c->P (a++e.map g) n->Dx b Gp k P e a n c
 |[],a,n,c,_,_,h=>by simp only[lO,gM]at h; exact h
 |d::e,a,n,c,o,j,h=>o d Op c n _ j λi f=>
  Ag g I e _ n _ (λd q=>o d^TM _ q) f (by simp_all)
theorem GU{b:Type}{l:r_ b}{p:b->Bool}(h:P^.bl^l.all p):RP [.lst^l.map λa=>.bl^p a] P:=
 #[_,_,rfl,E6 p l,by simp_all]
theorem HF{k:(D->Nat->Prop)->Prop}(a:b1=p_->P (.bl b2) n->k P)(h:P (.bl (b1&&b2)) n):(match (.bl b1:D)with|.bl p_=>k P|.bl q_=>P (.bl q_) n|_=>False):=UT a h
abbrev Wb(g:D->Bool):W2:=W5 1 λa=>.bl^g^a.getD 0 .non
theorem Wb.out(h:Wb g a n P):∃d,a=[.sh d]/\P (.bl^g d) n:=by
 let#[b,c,rfl,h]:=h
 match b,c with
 |[d],_=>simp_all
def R8:D->Bool
 |.int _=>p_
 |_=>q_
def GO:D->Bool
 |.int i=>decide (1<=i)&&decide (i<=1000000)
 |_=>q_
def tupleOfB(k:Int):D->Bool
 |.tup a=>((a.length:Int)==k)
 |_=>q_
def B6:D->Bool
 |.str x=>(decide (1<=x.length)&&decide (x.length<=8))&&(cs x).all λc=>decide (97<=c)&&decide (c<=122)
 |_=>q_
def G6(d e:D):s_ Bool:=match d,e with
 |.int i,.int j=>P3 (decide (i<j))
 |.str i,.str j=>P3 (decide (cs i<cs j))
 |.tup c,.tup f=>match HU c,HU f with
  |some a,P3 b=>if CO a b then P3^Ei a b else o_
  |_,_=>o_
 |_,_=>o_
set_option tactic.hygienic true in
theorem Pz(h:G6 d e=P3 b)(p:P^.bl b):HA d e P:=by
 unfold G6 at h
 split at h
 .cases h; exact p
 .cases h; exact p
 .split at h
  .rename_i a c f g
   split at h
   .rename_i i
    cases h;exact#[a,c,f,g,i,p]
   .cases h
  .cases h
 .cases h
def Jw:r_ D->Bool
 |x::y::r=>(G6 x y==P3 p_)&&Jw (y::r)
 |_=>p_
abbrev ZW:W2:=Wb R8
abbrev cK:W2:=Wb B6
abbrev Nv:W2:=λa n P=>∃k d,a=[.sh^.int k,.sh d]/\P (.bl^tupleOfB k d) n
abbrev MR:W2:=λc n P=>∃d a,c=[.sh d]/\Fe d=P3 a/\a.length<=200000/\(∀x∈a,∀y∈a,∃b,G6 x y=P3 b)/\P (.bl^Jw a) n
def Nn:AZ:=(CG^Gr RP^AM (FP [o_,o_] (Xq^AM (AH 0)^AM (N4 FL (AH 0) (C3^wC^D.int 1) CA) Ad) (HE 2^BK (Aq 0)^BK (Aq 1) Eb) Gp^Am HA (AH 0)^AH 1) Ad)
section

theorem Qc(x:Str):(Dp.signs x).length=x.length:=by unfold Dp.signs; rw[No]; exact Dk x
theorem ZH(a:r_ b):Dp.cutD a (P3 1) o_=a.drop 1:=by
 unfold Dp.cutD;simp only[HT.zh,show 1=((1:Nat):Int)from rfl,HT.qL]
 by_cases h:1<=a.length
 .rw[jO h]
  exact k7^by simp_all
 simp_all
theorem QF:∀c:r_ D,((EA c^c.drop 1).all λd=>match d with|.tup [a,b]=>G6 a b==P3 p_|_=>q_)=Jw c
 |[]=>rfl
 |[x]=>rfl
 |x::y::r=>by
  have e:=QF (y::r);show((EA _ (y::r)).all _)=_;unfold EA Jw;rw[List.zipWith_cons_cons,ij]
  congr 1
theorem Ut(h:d∈EA c e):∃a∈c,∃b∈e,d=.tup [a,b]:=by
 unfold EA at h;let#[i,f]:=List.getElem?_of_mem h;rw[kA]at f;cases g:c[i]? with
 |none=>simp_all
 | some a=>
  cases j:e[i]? with
  |none=>simp_all
  |some b=>
   simp only[g,j]at f;exact#[a,gZ g,b,gZ j,(fu f).symm]
set_option tactic.hygienic true in
theorem Lb(h:MR ss n Pd):Nn (EE Pd) n (ss++fq 0 .no):=by
 let#[d,c,rfl,e,A,f,h]:=h
 have i:(EA c^c.drop 1).length<=10000000/\Dx (HE 2^BK (Aq 0)^BK (Aq 1) Eb) Gp (Am HA (AH 0)^AH 1) (λg k=>RP [.lst g] λz=>Pd z k) (EA c^c.drop 1) [] n [.no,.no]:=by
  refine#[by unfold EA; rw[List.length_zipWith]; omega,?_];refine Ag (λd=>.bl (match d with|.tup [a,b]=>G6 a b==P3 p_|_=>q_)) (λj=>∃s t,j=[s,t]) _ _ _ _ ?_ #[_,_,rfl] ?_
  .rintro z l j m o ⟨s,t,rfl⟩ q
   let#[a,u,b,v,rfl]:=Ut l;let#[r,w]:=f a u b^kI v;exists rfl,rfl;show HA a b λy=>o y m [.sh a,.sh b];refine Pz w ?_
   simp_all
  .rw[fw]
   refine GU (p:=fun(d:D)=>match d with|.tup [a,b]=>G6 a b==P3 p_|_=>q_) ?_;rw[QF];exact h
 cases d with
 |lst x=>
  cases e;exact#[_,_,c,c.drop 1,rfl,rfl,by rw[ZH]; rfl,i]
 |tup x=>
  cases e;exact#[_,_,c,c.drop 1,rfl,rfl,by rw[ZH]; rfl,i]
 |_=>cases e
end
def Hg:D->Bool
 |.tup [a,b,c]=>(B6 a&&B6 b)&&((G6 a b==P3 p_)&&GO c)
 |_=>q_
def IK:D->Bool
 |.tup a=>decide (a.length<=24)&&(a.all B6&&Jw a)
 |_=>q_
def D8(c:r_ Str):D->Bool
 |.tup [.str a,.str b,_]=>c.any (·==a)&&c.any (·==b)
 |_=>q_
def Ex:D->D
 |.tup (a::b::_)=>.tup [a,b]
 |d=>d
def Wl(b:r_ Str):D->Bool
 |.tup a=>decide (a.length<=60)&&(a.all Hg&&(a.all^D8 b&&Jw^a.map Ex))
 |_=>q_
def strsOf(a:r_ D):r_ Str:=(Nq a).getD []
def N9(p t:D):Bool:=match p with
 |.tup a=>Wl (strsOf a) t
 |_=>q_
def OX:D->Bool
 |.tup [p,t]=>IK p&&N9 p t
 |_=>q_
abbrev cI:W2:=Wb OX
theorem UW{a:Type}(p:a->Bool)(l:r_ a):(l.map p).all id=l.all p:=by simp_all
theorem qG:B6 d=p_↔∃x,d=.str x/\D7 x:=by
 cases d with
 |str x=>
  simp[B6,D7];constructor
  .simp_all
  simp_all
 |_=>exact#[(λh=>by cases h),fun#[x,e,_]=>(by cases e)]
theorem Iv(h:∀c∈cs x,c<1114112):PyData.strOk x=p_:=by
 unfold PyData.strOk;rw[←Array.all_toList,gI];intro c a;exact decide_eq_true^h c a
theorem Eu(h:D7 x):Bz^.str x:=#[rfl,Iv λc a=>by have:=h.2.2 c a; lk,T0 _]
theorem NK{a:r_ Str}(h:∀p∈a,D7 p):B5^a.map .str=p_/\ip^BB^a.map .str=p_/\iF^BB^a.map .str=0:=by
 induction a with
 |nil=>exact#[rfl,rfl,rfl]
 | cons p r b=>
  let#[e,c,f]:=b λq d=>h q^TM _ d;exists by assumption,?_
  .rw[gJ,BB,ip,c,nR]
   exact(Eu^h p Op).2.1
  assumption
theorem Cq{ps:r_ Str}(h:∀p∈ps,D7 p):Bz^.tup^ps.map .str:=by
 let#[a,b,c]:=NK h;exists a,b;show iF _+1<=100
 simp_all
theorem FE(x y:Str):Dt (.str x)^.str y=(x==y):=rfl
theorem IS(x y:Str):G6 (.str x)^.str y=P3 (decide (cs x<cs y)):=rfl
theorem M9(h:b.all B6=p_):∃a:r_ Str,b=a.map .str/\∀p∈a,D7 p:=by
 induction b with
 |nil=>simp_all
 |cons d r c=>
  simp only[ij,ZB]at h;let#[a,e,f]:=c h.2;let#[x,rfl,g]:=qG.mp h.1;refine#[x::a,by simp_all,λp i=>?_]
  grind
theorem Bo(a:r_ Str):strsOf^a.map .str=a:=by unfold strsOf; rw[Gi]; rfl
section
theorem dB(h:tupleOfB 3 d=p_):∃a b c,d=.tup [a,b,c]:=by
 cases d with
 |tup e=>
  have:=eq_of_beq h
  match e,this with
  |[a,b,c],_=>grind
  |[],h=>cases h
  |[_],h=>cases h
  |[_,_],h=>cases h
  |_::_::_::_::r,h=>grind
 |_=>cases h
theorem X1(h:tupleOfB 2 d=p_):∃a b,d=.tup [a,b]:=by
 cases d with
 |tup c=>
  have:=eq_of_beq h
  match c,this with
  |[a,b],_=>grind
  |[],h=>cases h
  |[_],h=>cases h
  |_::_::_::r,h=>grind
 |_=>cases h
theorem dX(h:tupleOfB 3 d=q_):Hg d=q_:=by
 cases d with
 |tup e=>
  match e,h with
  |[a,b,c],h=>cases h
  |[],_=>rfl
  |[_],_=>rfl
  |[_,_],_=>rfl
  |_::_::_::_::r,_=>rfl
 |_=>rfl
theorem bE(h:tupleOfB 2 d=q_):OX d=q_:=by
 cases d with
 |tup c=>
  match c,h with
  |[a,b],h=>cases h
  |[],_=>rfl
  |[_],_=>rfl
  |_::_::_::r,_=>rfl
 |_=>rfl
theorem LR(h:Hg d=p_):∃x y l,d=.tup [.str x,.str y,.int l]/\D7 x/\D7 y/\cs x<cs y/\1<=l/\l<=1000000:=by
 cases d with
 | tup i=>
  match i,h with
  | [a,b,c],h=>
   have f:((B6 a&&B6 b)&&((G6 a b==P3 p_)&&GO c))=p_:=h;simp only[ZB]at f;let#[x,rfl,j]:=qG.mp f.1.1;let#[y,rfl,k]:=qG.mp f.1.2;have e:=eq_of_beq f.2.1;have e:=of_decide_eq_true^fu e;cases c with
   |int l=>
    have g:(decide _&&decide _)=p_:=f.2.2;simp only[ZB,decide_eq_true_eq,decide_eq_true_eq]at g;exact#[x,y,l,rfl,j,k,e,g.1,g.2]
   |_=>cases f.2.2
  |[],h=>cases h
  |[_],h=>cases h
  |[_,_],h=>cases h
  |_::_::_::_::r,h=>cases h
 |_=>cases h
end
mutual
def qY(B:Nat):D->Prop
 |.int i=>i.natAbs<=B
 |.str x=>∀c∈cs x,c<1114112
 |.tup ds=>Cj B ds
 |.lst ds=>Cj B ds
 |.dic _ _=>False
 |.fdi _ _=>False
 |.dit _ _=>False
 |_=>True
def Cj(B:Nat):r_ D->Prop
 |[]=>True
 |d::ds=>qY B d/\Cj B ds
end
mutual
def BY:D->Nat
 |.int _=>200
 |.str x=>x.length
 |.tup ds=>Be ds
 |.lst ds=>Be ds
 |_=>0
def Be:r_ D->Nat
 |[]=>0
 |d::ds=>BY d+1+Be ds
end
mutual
def Ct:D->Nat
 |.tup ds=>CW ds+1
 |.lst ds=>CW ds+1
 |_=>0
def CW:r_ D->Nat
 |[]=>0
 |d::ds=>max (Ct d)^CW ds
end
theorem qz{B:Nat}:∀{b:r_ D},Cj B b↔∀d∈b,qY B d
 |[]=>#[(λ_ d h=>by cases h),λ_=>trivial]
 | d::b=>by
  have c:=@qz B b;constructor
  .rintro⟨f,g⟩ e a
   rcases TW.mp a with rfl|a
   .exact f
   .exact c.mp g e a
  .exact λh=>#[h d Op,c.mpr λe a=>h e^TM _ a]
theorem qJ{k:Nat}:∀{a:r_ D},CW a<=k↔∀d∈a,Ct d<=k
 |[]=>#[(λ_ d h=>by cases h),λ_=>T0 _]
 | d::a=>by
  have c:=@qJ k a;show max (Ct d)^CW a<=k↔_;rw[Nat.max_le,c];constructor
  .rintro⟨f,g⟩ e b
   rcases TW.mp b with rfl|b
   .exact f
   .exact g e b
  .exact λh=>#[h d Op,λe b=>h e^TM _ b]
theorem BS:∀(b a:r_ D),Be (b++a)=Be b+Be a
 |[],a=>by simp[Be]
 |d::b,a=>by
  simp only[jn];show BY d+1+Be (b++a)=BY d+1+Be b+Be a;rw[BS b a]; lk
theorem IE:∀(a:r_ D),Be a.reverse=Be a
 |[]=>rfl
 |d::a=>by
  simp only[j1,BS,IE a];show Be a+(BY d+1+0)=BY d+1+Be a;lk
theorem Mj(a:r_ D)(k:Nat):Be^a.take k<=Be a:=by
 have:=BS (a.take k)^a.drop k
 rw[jQ]at this;lk
theorem SW(a:r_ D)(k:Nat):Be^a.drop k<=Be a:=by
 have:=BS (a.take k)^a.drop k
 rw[jQ]at this;lk
theorem LS(h:d∈c):BY d+1<=Be c:=by
 let#[a,b,rfl]:=List.append_of_mem h;simp only[BS];show _<=_+(BY d+1+Be b);lk
theorem BL:∀(a:r_ D),a.length<=Be a
 |[]=>T0 _
 |d::a=>by
  have:=BL a
  show a.length+1<=BY d+1+Be a;lk
theorem Bg(a:r_ D)(b c:s_ Int):Be^Dp.cutD a b c<=Be a:=f_ (Mj _ _)^SW _ _
theorem A_{b c:s_ Int}{d:D}(h:d∈Dp.cutD a b c):d∈a:=kI^lU h
theorem RL(h:B<=C):∀(n:Nat),(∀d:D,sizeOf d<=n->qY B d->qY C d)/\∀a:r_ D,sizeOf a<=n->Cj B a->Cj C a:=by
 intro n
 induction n with
 |zero=>
  refine#[λd e _=>?_,λa e _=>?_]
  .cases d <;>simp at e
  .cases a <;>simp at e
 | succ n f=>
  refine#[λd e c=>?_,λa e c=>?_]
  .cases d with
   |int i=>exact f_ (show i.natAbs<=B from c) h
   |str x=>exact c
   |tup a=>exact f.2 a (by simp at e; omega) c
   |lst a=>exact f.2 a (by simp at e; omega) c
   |dic g a=>exact(show False from c).elim
   |fdi g a=>exact(show False from c).elim
   |dit g a=>exact(show False from c).elim
   |non=>trivial
   |bl b=>trivial
  .cases a with
   |nil=>trivial
   |cons d a=>exact#[f.1 d (by simp at e; omega) c.1,f.2 a (by simp at e; omega) c.2]
theorem qY.mono(a:qY B d)(h:B<=C):qY C d:=(RL h _).1 d (On _) a
mutual
theorem IU{B:Nat}(hB:B<10 ^ 45):∀{d:D},qY B d->C5 d=p_/\(toPy d).showable=p_/\(toPy d).canLay0=p_/\(toPy d).depth=Ct d/\(toPy d).leavesShort 60=p_/\(toPy d).weight<=BY d
 |.non,_=>#[rfl,rfl,rfl,rfl,rfl,On _]
 |.bl b,_=>#[rfl,rfl,rfl,rfl,rfl,On _]
 | .int i,h=>by
  have h':i.natAbs<=B:=h;have hlt:i.natAbs<10 ^ 45:=kW h' hB;have h2:i.natAbs<2 ^ 150:=kX hlt^by cbv
  have hl:i.natAbs.log2<150:=by
   by_cases h0:i.natAbs=0
   .rw[h0]; decide
   .exact(Nat.log2_lt h0).mpr h2
  refine#[rfl,?_,rfl,rfl,?_,?_]
  .show decide (i.natAbs.log2<1920)=p_
   exact decide_eq_true^by lk
  .show decide ((nj^.int i).length<=60)=p_
   refine decide_eq_true ?_
   have:=int_text_length_le10 (a:=i) (k:=45) (by cbv) hlt
   show(gu^toString i).length<=60;rw[PySem.ofString_length];lk
  .show(if i==0 then 0 else i.natAbs.log2+1)<=200
   split <;>lk
 |.str x,h=>by
  have h':∀c∈cs x,c<1114112:=h;refine#[rfl,rfl,Iv h',rfl,?_,On _];show(x.cps.toList.all λc=>decide (c<16 ^ 8))=p_;rw[gI];intro c hc;exact decide_eq_true^kX (h' c hc)^by cbv
 |.tup ds,h=>by
  let#[h1,h2,h3,h4,h5,h6]:=Ji hB (ds:=ds) h;refine#[h1,h2,h3,?_,h5,h6];show iF^BB ds+1=CW ds+1;rw[h4]
 |.lst ds,h=>by
  let#[h1,h2,h3,h4,h5,h6]:=Ji hB (ds:=ds) h;refine#[h1,h2,h3,?_,h5,h6];show iF^BB ds+1=CW ds+1;rw[h4]
 |.dic ks ds,h=>(show False from h).elim
 |.fdi ks ds,h=>(show False from h).elim
 |.dit ks ds,h=>(show False from h).elim
theorem Ji{B:Nat}(hB:B<10 ^ 45):∀{ds:r_ D},Cj B ds->B5 ds=p_/\PyData.showableAll^BB ds=p_/\ip^BB ds=p_/\iF^BB ds=CW ds/\nH 60^BB ds=p_/\PyData.weightAll^BB ds<=Be ds
 |[],_=>#[rfl,rfl,rfl,rfl,rfl,On _]
 | d::ds,h=>by
  let#[h1,h2,h3,h4,h5,h6]:=IU hB (d:=d) h.1;let#[g1,g2,g3,g4,g5,g6]:=Ji hB (ds:=ds) h.2;refine#[?_,?_,?_,?_,?_,?_]
  .show(C5 d&&B5 ds)=p_
   rw[h1,g1]; rfl
  .show((toPy d).showable&&PyData.showableAll^BB ds)=p_
   rw[h2,g2]; rfl
  .show((toPy d).canLay0&&ip^BB ds)=p_
   rw[h3,g3]; rfl
  .show max (toPy d).depth^iF^BB ds=max (Ct d)^CW ds
   rw[h4,g4]
  .show((toPy d).leavesShort 60&&nH 60^BB ds)=p_
   rw[h5,g5]; rfl
  .show(toPy d).weight+1+PyData.weightAll^BB ds<=BY d+1+Be ds
   lk
end
theorem Mn(a:B<10 ^ 45)(h:qY B d)(hd:Ct d<=100)(g:BY d<=270000):FS d:=by
 let#[b,c,i,e,f,j]:=IU a h;exists b,c,by rw[e]; exact hd
 have:=PyData.shown_le 60 (by cbv) (toPy d) f
 simp only[PySem.sizeLine_eq]
 have:62*(toPy d).weight<=62*270000:=Nat.mul_le_mul_left _^by lk
 lk
theorem F_(a:B<10 ^ 45)(h:qY B d)(hd:Ct d<=100)(b:BY d<=200000):FS d:=Mn a h hd^by lk
theorem Bb(a:B<10 ^ 45)(h:qY B d)(hd:Ct d<=100):Bz d:=by
 let#[b,f,c,e,g,i]:=IU a h;exact#[b,c,by rw[e]; exact hd]
def cH:W2:=λb n P=>∃(d:D) (B:Nat),b=[.fd,.sh d]/\qY B d/\2000000<=B/\B<10 ^ 40/\BY d<=80000/\2<=n/\∀(e:D) (a:Nat),qY (B+1) e->BY e<=2*BY d+250->Ct e<=Ct d+1->n - 2<=a->P e a
theorem Kx(i:Int):∀c∈cs^gu^toString i,c<1114112:=by
 intro c a
 by_cases h:c=45\/(48<=c/\c<=57)
 .lk
 .exact absurd a^int_text_free' c (by lk) i
theorem K8(b:r_ D)(a:Int)(h:0<=a):Be^Dp.cutD b o_^P3 a+Be^Dp.cutD b (P3 a)^P3 (a+1)<=Be b:=by
 obtain⟨k,rfl⟩:∃k:Nat,a=k:=#[a.toNat,by lk]
 have c:Dp.cutD b o_^P3 k=b.take^min k b.length:=by
  unfold Dp.cutD;simp only[HT.zh,HT.qL,nF,mo]
 have d:Dp.cutD b (P3 (k:Int))^P3 ((k:Int)+1)=(b.drop^min k b.length).take (min (k+1) b.length - min k b.length):=by
  unfold Dp.cutD;rw[show((k:Int)+1)=(k+1:Nat) by lk,HT.qL,HT.qL]
 simp only[c,d];have e:=BS (b.take^min k b.length)^b.drop^min k b.length;simp only[jQ]at e;have f:=Mj (b.drop^min k b.length) (min (k+1) b.length - min k b.length);lk
def Um(j:Nat):W2:=λb n P=>∃(d:D) (B i:Nat),b=[.fd,.sh d,.sh^.int i]/\i<=j/\qY B d/\2000000<=B/\B<10 ^ 40/\BY d<=80000/\2*j+4<=n/\∀(e:D) (a:Nat),qY (B+1) e->BY e<=2*BY d+250->Ct e<=Ct d+1->n - (2*j+4)<=a->P e a
theorem ZG(b:r_ D)(a:Nat):Dp.cutD b o_^P3 (a:Int)=b.take^min a b.length:=by
 unfold Dp.cutD;simp only[HT.zh,HT.qL,nF,mo]
theorem UO(b:r_ D)(a:Nat):Dp.cutD b (P3 (a:Int)) o_=b.drop^min a b.length:=by
 unfold Dp.cutD;simp only[HT.zh];exact k7^by simp_all
theorem Sv{a:Nat}(h:a<b.length)(e:D):Be (Dp.cutD b o_^P3 (a:Int)++[e]++Dp.cutD b (P3 ((a:Int)+1)) o_)+BY b[a]=Be b+BY e:=by
 have c:Dp.cutD b (P3 (a+1)) o_=b.drop (a+1):=by
  rw[show((a:Int)+1)=(a+1:Nat) by lk,UO,jO^by lk]
 rw[ZG b a,c,jO^by lk,BS,BS];have d:=BS (b.take a)^b.drop a;rw[jQ,g_ h]at d;have f:Be (b[a]::b.drop (a+1))=BY _+1+Be _:=rfl;have g:Be [e]=BY e+1+0:=rfl;lk
def IR(a b:Int):D->Bool
 |.int i=>decide (a<=i)&&decide (i<=b)
 |_=>q_
def ND(a:r_ Str)(d:D):Bool:=Hg d&&D8 a d
abbrev WT:W2:=λc n P=>∃d a b,c=[.sh d,.sh^.int a,.sh^.int b]/\P (.bl^IR a b d) n
abbrev cL:W2:=λb n P=>∃(a:r_ Str) (d:D),b=[.sh^.tup^a.map .str,.sh d]/\(∀p∈a,D7 p)/\P (.bl^ND a d) n
theorem Q9{b:Type}(p:b->Bool)(l:r_ b):B5 (l.map λa=>D.bl^p a)=p_/\ip (BB^l.map λa=>D.bl^p a)=p_/\iF (BB^l.map λa=>D.bl^p a)=0:=by
 induction l with
 |nil=>exact#[rfl,rfl,rfl]
 |cons a r c=>
  assumption
theorem Y0(b:Bool):Dt (.bl b)^.bl q_=!b:=by cases b <;>rfl
theorem ZO{b:Type}(p:b->Bool)(l:r_ b):((l.map λa=>D.bl^p a).any λy=>Dt y^.bl q_)=!(l.all p):=by
 induction l with
 |nil=>rfl
 |cons a r c=>simp only[gJ,mF,ij,c,Y0,Bool.not_and]
theorem C8{b:Type}{p:b->Bool}{l:r_ b}(h:P^.bl (if neg then l.all p else !(l.all p))):L4 neg (.bl q_) (.lst^l.map λa=>.bl^p a) P:=by
 let#[c,d,e]:=Q9 p l;exists#[rfl,rfl,T0 _],#[c,d,?_],_,rfl
 .show iF _+1<=100
  simp_all
 .rw[ZO,Bool.not_not]
  exact h
theorem NH(c:Nat):(!(iC qX #[#[ c]] 0 qX.length 1).isEmpty)=(decide (97<=c)&&decide (c<=122)):=by
 rw[PySem.StrLaws.found_one _ c]
 by_cases h:97<=c/\c<=122
 .have:∀c<123,97<=c->qX.cps.toList.contains c=p_:=by decide +kernel
  grind
 .have a:∀x∈qX.cps.toList,97<=x/\x<=122:=by decide +kernel
  have:qX.cps.toList.contains c=q_:=by
   grind
  grind
theorem Tb(b:r_ Str)(a:r_ D):a.all^ND b=(a.all Hg&&a.all^D8 b):=by
 unfold ND
 induction a with
 |nil=>rfl
 |cons t r c=>simp only[ij,ij,ij,c]; cases Hg t <;>cases D8 b t <;>cases r.all _ <;>rfl
theorem LG:∀a:r_ D,((gG (a.length - 1)).all λi=>G6 (a.getD i .non)^a.getD (i+1) .non==P3 p_)=Jw a
 |[]=>rfl
 |[x]=>rfl
 |x::y::r=>by
  show((gG (r.length+1)).all _)=((G6 x y==P3 _)&&Jw _);simp only[kz,ij,j9,←LG _];rfl
def item(d:D):Prop:=qY 1000001 d/\BY d<=450/\Ct d<=1
theorem EO:∀{ds:r_ D},(∀d∈ds,BY d+1<=k)->Be ds<=k*ds.length
 |[],_=>T0 _
 |d::ds,h=>by
  have b:=EO λe a=>h e^TM _ a;show BY d+1+Be ds<=k*(ds.length+1)
  grind
theorem EJ(h:∀d∈a,qY B d):qY B^.tup a:=qz.mpr h
theorem item_str(b:x.length<=8)(a:∀c∈cs x,c<1114112):item^.str x:=#[a,by show x.length<=450; lk,T0 _]
theorem Cs(h:D7 x):item^.str x:=item_str h.2.1 λc a=>by have:=h.2.2 c a; lk
theorem NM(e:item^.str a)(f:item^.str b)(h:a.length<=8)(i:b.length<=8)(g:l.natAbs<=1000001):item^.tup [.str a,.str b,.int l]:=by
 exists EJ λd c=>?_,?_
 .simp at c
  rcases c with rfl|rfl|rfl
  .exact e.1
  .exact f.1
  .exact g
 .show a.length+1+(b.length+1+(200+1+0))<=450
  lk
 .show max 0^max 0^max 0 0+1<=1
  decide
theorem JY{N:Net}(ok:N.Ok):∀d∈N.ts.map AR,item d:=λd c=>by
 let#[t,e,rfl]:=Rs.mp c;let#[f,g,_,h,i]:=ok.tin t e;have a:=ok.names _ f;have b:=ok.names _ g;exact NM (Cs a) (Cs b) a.2.1 b.2.1^by omega
theorem Vj{N:Net}(ok:N.Ok):∀d∈N.ps.map D.str,item d:=λd a=>by
 let#[x,b,rfl]:=Rs.mp a;exact Cs^ok.names x b
theorem X0(hx:∀d∈b,item d)(e:∀d∈c,item d)(f:b.length<=26)(g:c.length<=80):qY 1000001^.tup [.tup b,.tup c]/\BY^.tup [.tup b,.tup c]<=48000/\Ct^.tup [.tup b,.tup c]<=3:=by
 have h:=EO λd a=>jk (hx d a).2.1;have i:=EO λd a=>jk (e d a).2.1;have j:=qJ.mpr λd a=>(hx d a).2.2;have k:=qJ.mpr λd a=>(e d a).2.2;exists EJ λd a=>?_,?_
 .simp at a
  rcases a with rfl|rfl
  .exact EJ λd a=>(hx d a).1
  .exact EJ λd a=>(e d a).1
 .show Be b+1+(Be c+1+0)<=48000
  lk
 .show max (CW b+1)^max (CW c+1) 0+1<=3
  lk
theorem UU{p:D->Prop}(h:∀d∈xs,p d)(b:0<=o)(c:o<(xs.length:Int)):∃z,atI xs o=P3 z/\p z:=by
 obtain⟨k,rfl⟩:∃k:Nat,o=k:=#[o.toNat,by lk];have a:k<xs.length:=by lk
 exact#[_,AD^FM a,h _^gH a]
theorem Jv:∀{c:r_ D},c.Pairwise (λa b=>G6 a b=P3 p_)->Jw c=p_
 |[],_=>rfl
 |[x],_=>rfl
 |x::y::r,h=>by
  rw[gm]at h;show((G6 x y==P3 _)&&Jw _)=p_;rw[h.1 y Op,Jv h.2];rfl
theorem DU(x:Str):¬cs x<cs x:=jg _
theorem Ta(ok:N.Ok)(k:N.ps.length<=24)(l:N.ts.length<=60):OX^enc N=p_:=by
 show((decide ((N.ps.map D.str).length<=24)&&((N.ps.map D.str).all B6&&Jw^N.ps.map D.str))&&(decide ((N.ts.map AR).length<=60)&&((N.ts.map AR).all Hg&&((N.ts.map AR).all^D8^strsOf^N.ps.map D.str&&Jw^(N.ts.map AR).map Ex))))=p_;simp only[Bo,No,No,decide_eq_true k,decide_eq_true l];simp only[iM,ZB,gI];refine#[#[λd c=>?_,Jv ?_],λd c=>?_,λd c=>?_,Jv ?_]
 .let#[x,m,rfl]:=Rs.mp c
  exact qG.mpr #[x,rfl,ok.names x m]
 .rw[ir]
  refine ok.rise.imp λ{a b} h=>?_;simp only[IS,decide_eq_true h]
 .let#[t,f,rfl]:=Rs.mp c
  let#[g,i,n,o,p]:=ok.tin t f;show((B6^.str t.a&&B6^.str t.b)&&((G6 (.str t.a)^.str t.b==P3 p_)&&(decide (1<=t.len)&&decide (t.len<=1000000))))=p_;simp only[qG.mpr #[_,rfl,ok.names _ g],qG.mpr #[_,rfl,ok.names _ i],IS,decide_eq_true n,decide_eq_true o,decide_eq_true p];rfl
 .let#[t,f,rfl]:=Rs.mp c
  let#[g,i,_]:=ok.tin t f;show(N.ps.any (·==t.a)&&N.ps.any (·==t.b))=p_;simp only[ZB,iR,iR];exact#[#[_,g,beq_self_eq_true _],#[_,i,beq_self_eq_true _]]
 .rw[g9,ir]
  refine ok.qg.imp λ{s t} h=>?_;show(if(p_&&(p_&&p_))=p_ then P3^Ei [.inr s.a,.inr s.b] [.inr t.a,.inr t.b] else o_)=P3 p_;rw[if_pos (show(p_&&(p_&&p_))=p_ from rfl)]
  congr 1
  show(if(iS s.a:Key)=.inr t.a then(if(iS s.b:Key)=.inr t.b then q_ else decide (cs s.b<cs t.b))else decide (cs s.a<cs t.a))=p_
  rcases h with h|⟨h,j⟩
  .rw[if_neg (λe=>DU s.a^by rw[im e]at h ⊢; exact h),decide_eq_true h]
  .rw[if_pos (by rw[h]),if_neg (λe=>DU s.b^by rw[im e]at j ⊢; exact j),decide_eq_true j]
theorem z1:1<=sizeLine:=by cbv
theorem z2:2<=sizeLine:=by cbv
theorem z3:3<=sizeLine:=by cbv
theorem z0:0<=sizeLine:=T0 _
theorem eJ:WY 10 6:=#[by cbv,by cbv,by cbv]
def aF(s t:An):Decidable (s=t):=
 if h:s.a=t.a/\s.b=t.b/\s.len=t.len then .isTrue (by let#[a,b,l]:=s; let#[g,i,j]:=t; let#[c,d,f]:=h; simp only at c d f; subst c d f; rfl)else .isFalse λe=>h^by rw[e]; exact#[rfl,rfl,rfl]
instance:DecidableEq An:=aF
abbrev EF(a:D->Nat->Prop):E2:={nx:=λn _=>Kd.fr=.sh/\a .non n,rt:=a}
def Ba(t:An):r_ Key:=[.inl t.len,.inr t.a,.inr t.b]
def Cw(a:r_ An):Prop:=a.Pairwise λs t=>A6 (Ba t)^Ba s=q_
def Mq:D->D
 |.tup [x,y,z]=>.tup [z,x,y]
 |d=>d
def df(x:Str×Int):D:=.tup [.str x.1,.int x.2]
abbrev cG:W2:=λa n P=>∃x y z:D,a=[.sh^.tup [x,y,z]]/\P (.tup [z,x,y]) n
def O8:W2:=λc n P=>∃(d:D) (b:r_ An),c=[.sh d]/\Fe d=P3^b.map AR/\b.length<64/\∀a:r_ An,a.Perm b->Cw a->P (.lst^a.map AR) n
theorem JB(h:Ba s=Ba t):s=t:=by
 let#[a,b,l]:=s;let#[c,d,e]:=t;unfold Ba at h
 grind
theorem Lf{g:Type}{R:g->g->Prop}(c:∀a b,R a b->R b a->a=b):∀{d f:r_ g},d.Perm f->d.Pairwise R->f.Pairwise R->d=f
 |[],f,p,_,_=>(List.nil_perm.mp p).symm
 |a::d,[],p,_,_=>absurd (List.perm_nil.mp p)^iu _ _
 | a::d,b::f,p,i,j=>by
  have e:a=b:=by
   rcases TW.mp^p.mem_iff.mp Op with e|h
   .exact e
   .rcases TW.mp^p.mem_iff.mpr^Op with e|k
    .exact e.symm
    .exact c a b ((gm.mp i).1 b k)^(gm.mp j).1 a h
  subst e;rw[Lf c ((List.perm_cons a).mp p) (gm.mp i).2 (gm.mp j).2]
theorem Eo(p:c.Perm d)(e:Cw c)(f:Cw d):c=d:=Lf (λa b x y=>JB^B8 _ _ y x) p e f
theorem PD{b:Type}{f:b->D}{g:D->b}(e:∀x,g^f x=x){d:r_ b}(h:c.Perm^d.map f):∃a:r_ b,a.Perm d/\c=a.map f:=by
 exists c.map g,?_
 .have:=h.map g
  simp only[g9,show g∘f=id from funext e,ll]at this;exact this
 .rw[g9]
  have:∀x∈c,(f∘g) x=x:=λx i=>by
   let#[t,_,rfl]:=Rs.mp^h.mem_iff.mp i
   simp_all
  simp only[kR this,List.map_id']
def ZA:D->An
 |.tup [.str a,.str b,.int l]=>#[a,b,l]
 |_=>#["","",0]
section
theorem TN(h:Gn (λx=>Cr^Mq x)^a.map AR):Cw a:=by
 unfold Gn at h;rw[ir]at h;exact h.imp λ{s t} z=>z _ _ rfl rfl
theorem Lo{N:Net}(ok:N.Ok)(h:p∈DK N.ts x):p.1∈N.ps/\1<=p.2/\p.2<=1000000/\∃t∈N.ts,t.len=p.2/\((t.a=x/\t.b=p.1)\/(t.b=x/\t.a=p.1)):=by
 let#[t,c,h]:=iH.mp h;let#[g,i,j,d,f]:=ok.tin t c
 rcases Uf.mp h with h|h
 .split at h
  .rename_i e
   rw[Re.mp h];exact#[i,d,f,t,c,rfl,.inl #[e,rfl]]
  .cases h
 .split at h
  .rename_i e
   rw[Re.mp h];exact#[g,d,f,t,c,rfl,.inr #[e,rfl]]
  .cases h
theorem Q6(s t:An):Ei (Ba s)^Ba t=A6 (Ba s)^Ba t:=FA _ _ rfl
theorem P2(s t:An):Dt (AR s)^AR t=p_↔s=t:=by
 let#[a,b,l]:=s;let#[c,d,e]:=t;show(a==c&&(b==d&&(l==e&&p_)))=p_↔_
 simp_all
theorem Kt(h:∀d∈a,item d):Bz^.lst a:=by
 have c:=qJ.mpr λd b=>(h d b).2.2;exact Bb (by cbv) (qz.mpr λd b=>(h d b).1)^by show CW a+1<=100; lk
theorem K3{a b:Type}(f:a->b):∀(l:r_ a) (i:Nat),(l.map f).eraseIdx i=(l.eraseIdx i).map f
 |[],i=>rfl
 |x::l,0=>rfl
 |x::l,i+1=>by
  show f x::(l.map f).eraseIdx i=f x::(l.eraseIdx i).map f;rw[K3 f l i]
theorem Vw{N:Net}(ok:N.Ok)(j:s∈N.ts)(k:t∈N.ts)(e:Bq s t)(l:(s.a=x/\s.b=o)\/(s.b=x/\s.a=o))(m:(t.a=x/\t.b=o)\/(t.b=x/\t.a=o)):False:=by
 have i:=(ok.tin s j).2.2.1;have lt:=(ok.tin t k).2.2.1;have c:∀a,¬cs a<cs a:=λa=>jg _
 rcases l with⟨d,f⟩|⟨d,f⟩ <;>rcases m with⟨g,h⟩|⟨g,h⟩ <;>rw[d,f]at i <;>rw[g,h]at lt
 .rcases e with e|⟨_,e⟩
  .rw[d,g]at e; exact c _ e
  grind
 .grind
 .exact c _^List.lt_trans i lt
 .rcases e with e|⟨_,e⟩
  .rw[f,h]at e; exact c _ e
  grind
theorem Kl{N:Net}(ok:N.Ok)(x:Str):((DK N.ts x).map (·.1)).Nodup:=by
 have m:∀c:r_ An,(∀t∈c,t∈N.ts)->c.Pairwise Bq->((DK c x).map (·.1)).Nodup:=by
  intro c
  induction c with
  |nil=>intro _ _; exact gl
  | cons t c n=>
   intro d l;have k:=n (λs i=>d s^TM _ i) (gm.mp l).2;have lt:=(ok.tin t^d t Op).2.2.1
   have f:∀y,((t.a=x/\t.b=y)\/(t.b=x/\t.a=y))->y∉(DK c x).map (·.1):=λy o p=>by
    let#[s,i,h]:=Ln p;exact Vw ok (d t Op) (d s^TM _ i) ((gm.mp l).1 s i) o h
   have e:DK (t::c) x=((if t.a=x then [(t.b,t.len)]else [])++(if t.b=x then [(t.a,t.len)]else []))++DK c x:=by
    unfold DK;simp only[j7]
   rw[e]
   by_cases j:t.a=x
   .have g:¬t.b=x:=λz=>by rw[j,z]at lt; exact jg _ lt
    rw[if_pos j,if_neg g,gM,lF,gJ,gF];exact#[f _^.inl #[j,rfl],k]
   .rw[if_neg j,fw]
    by_cases g:t.b=x
    .rw[if_pos g,lF,gJ,gF]
     exact#[f _^.inr #[g,rfl],k]
    .rw[if_neg g,fw]
     exact k
 exact m N.ts (λ_ h=>h) ok.qg
end
theorem OC:∀c,97<=c->c<=122->gc 39 c=[c]:=by
 have:∀c<123,97<=c->gc 39 c=[c]:=by decide +kernel
 grind
theorem Je:∀(l:r_ Nat) (a:Array Nat),(∀c∈l,97<=c/\c<=122)->(l.foldl (λb c=>b++(gc 39 c).toArray) a).toList=a.toList++l
 |[],a,_=>by simp
 |c::l,a,h=>by
  have e:=h c Op;simp only[m8,Je l _ λd f=>h d^TM _ f,OC c e.1 e.2];simp
theorem BQ(h:D7 x):∀c∈cs x,97<=c/\c<=122:=λc a=>by
 have:=h.2.2 c a
 omega
theorem IZ(h:D7 x):cs^reprText x=39::(cs x++[39]):=by
 have a:=BQ h
 have b:reprQuote x=39:=by
  unfold reprQuote
  have:x.cps.contains 39=q_:=by
   rw[gj];intro c
   have d:39∈cs x:=by
    have:=Array.contains_iff_mem.mp c
    exact nJ.mpr this
   grind
  simp_all
 unfold reprText;rw[b];show((x.cps.foldl _ #[ 39]).push 39).toList=_;rw[←l9,mU,Je x.cps.toList _ a];rfl
def Rv:r_ Str->r_ Nat->r_ Nat
 |[],f=>f
 |p::r,f=>44::32::39::(cs p++39::Rv r f)
theorem UP:cs (", ":Str)=[44,32]:=by decide +kernel
theorem CK:∀(p:Str) (r:r_ Str) (f:r_ Nat),(∀q∈p::r,D7 q)->cs^lg ", "^(p::r).map reprText++f=39::(cs p++39::Rv r f)
 |p,[],f,h=>by
  show cs^reprText p++f=_;rw[IZ^h p Op];simp[Rv]
 |p,q::r,f,h=>by
  show cs (reprText p ++ ", "++lg _ _)++f=_;simp only[CF,CF,IZ^h p Op,iB,CK q r f λz a=>h z^TM _ a,UP];simp[Rv]
theorem S9:∀{a b r e:r_ Nat},(∀c∈a,97<=c/\c<=122)->(∀c∈b,97<=c/\c<=122)->a++39::r=b++39::e->a=b/\r=e
 |[],[],r,e,_,_,h=>#[rfl,(iN h).2]
 |[],c::b,r,e,_,f,h=>by
  have:=f c Op
  grind
 |c::a,[],r,e,i,_,h=>by
  simp_all
 |c::a,d::b,r,e,i,f,h=>by
  let#[j,k]:=S9 (λz g=>i z^TM _ g) (λz g=>f z^TM _ g) (iN h).2
  simp_all
def Yx(f:r_ Nat):Prop:=f=[41]\/f=[44,41]
theorem PK:∀{r b:r_ Str}{f a:r_ Nat},(∀q∈r,D7 q)->(∀q∈b,D7 q)->Yx f->Yx a->Rv r f=Rv b a->r=b
 |[],[],_,_,_,_,_,_,_=>rfl
 |[],q::b,f,a,_,_,c,_,h=>by
  have h:f=44::32::39::(cs q++39::Rv b a):=h
  rcases c with e|e <;>rw[e]at h <;>simp at h
 |q::r,[],f,a,_,_,_,c,h=>by
  have h:44::32::39::(cs q++39::Rv r f)=a:=h
  rcases c with e|e <;>simp only[e]at h <;>simp at h
 |q::r,d::b,f,a,j,k,c,g,h=>by
  have h:44::32::39::(cs q++39::Rv r f)=44::32::39::(cs d++39::Rv b a):=h;have h:cs q++39::Rv r f=cs d++39::Rv b a:=by simp_all
  let#[l,m]:=S9 (BQ^j q Op) (BQ^k d Op) h;simp only[Fy l,PK (λz i=>j z^TM _ i) (λz i=>k z^TM _ i) c g m]
theorem Io:∀a:r_ Str,BB^a.map .str=a.map PyData.str
 |[]=>rfl
 |p::r=>by
  show PyData.str p::BB _=_;rw[Io r];rfl
theorem Iz(a:r_ Str):Ae^.tup^a.map .str=tupleText^a.map reprText:=by
 show(PyData.tuple _).shown=_;simp only[Io,nj,PyData.shownAll_strs]
theorem ZK(b:Bool):cs ((if b=p_ then ",)" else ")":String):Str)=if b=p_ then [44,41]else [41]:=by
 cases b
 .decide +kernel
 .decide +kernel
theorem Gd(a:r_ Str):cs^tupleText a=40::(cs^lg ", " a++(if(a.length==1)=p_ then [44,41]else [41])):=by
 unfold tupleText;simp only[CF,CF,ZK];rfl
theorem T6(b:Bool):Yx (if b=p_ then [44,41]else [41]):=by
 cases b
 .exact .inl rfl
 .exact .inr rfl
theorem M8{b a:r_ Str}(c:∀p∈b,D7 p)(d:∀q∈a,D7 q)(h:Ae^.tup^b.map .str=Ae^.tup^a.map .str):b=a:=by
 simp only[Iz,Iz]at h;have h:=congrArg cs h;rw[Gd,Gd,No,No]at h;have h:=(iN h).2;cases b with
 | nil=>
  cases a with
  |nil=>rfl
  |cons q a=>
   rw[CK q a _ d]at h;have h:[41]=39::_:=h;simp at h
 | cons p b=>
  cases a with
  |nil=>
   rw[CK p b _ c]at h;have h:39::_=[41]:=h;simp at h
  |cons q a=>
   rw[CK q a _ d,CK p b _ c]at h;let#[f,g]:=S9 (BQ^c p Op) (BQ^d q Op) (iN h).2;simp only[Fy f,PK (λz e=>c z^TM _ e) (λz e=>d z^TM _ e) (T6 _) (T6 _) g]
theorem O0(n:Nat):cs ((toString (n:Int):String):Str)=(Nat.toDigits 10 n).map lV:=by
 rw[k8];show(toString _).toList.map _=_
 have:toString (n:Int)=Nat.repr n:=rfl
 simp_all
theorem Ni{a b:Char}(h:a.toNat=b.toNat):a=b:=Char.ext^UInt32.toNat_inj.mp h
theorem NC:∀{a b:r_ Char},a.map lV=b.map lV->a=b
 |[],[],_=>rfl
 |[],_::_,h=>by cases h
 |_::_,[],h=>by cases h
 |x::a,y::b,h=>by
  have h:=iN h;simp only[Ni h.1,NC h.2]
theorem RG{i j:Int}(b:0<=i)(c:0<=j)(h:cs ((toString i:String):Str)=cs ((toString j:String):Str)):i=j:=by
 let#[n,rfl]:=kn b;let#[m,rfl]:=kn c;simp only[O0,O0]at h
 have:=congrArg (λl=>Nat.ofDigitChars 10 l 0)^NC h
 simp_all
theorem Qd(t:An):Ae^AR t=tupleText [reprText t.a,reprText t.b,((toString t.len:String):Str)]:=by
 show(PyData.tuple [.str _,.str _,.int _]).shown=_;simp[nj,jR]
theorem Oz(c:D7 t.a)(d:D7 t.b):cs^Ae^AR t=40::39::(cs t.a++39::44::32::39::(cs t.b++39::44::32::(cs ((toString t.len:String):Str)++[41]))):=by
 simp only[Qd,Gd];show 40::(cs (reprText _ ++ ", "++(reprText _ ++ ", "++toString _))++[41])=_;simp only[CF,CF,CF,CF,IZ c,IZ d,UP];simp
theorem QW(c:D7 s.a)(d:D7 s.b)(e:D7 t.a)(f:D7 t.b)(j:0<=s.len)(k:0<=t.len)(h:Ae^AR s=Ae^AR t):s=t:=by
 have h:=congrArg cs h;simp only[Oz c d,Oz e f]at h;let#[g,m]:=S9 (BQ c) (BQ e) (iN (iN h).2).2;let#[i,n]:=S9 (BQ d) (BQ f) (iN (iN (iN m).2).2).2;have o:=RG j k^mw (iN (iN n).2).2;let#[a,b,l]:=s;let#[p,q,r]:=t;have g:=Fy g;have i:=Fy i
 simp_all
def D4(t:An):r_ Key:=[.inr t.a,.inr t.b,.inl t.len]
def RU(t:An):r_ Key:=[.inr t.a,.inr t.b]
def K_(a:r_ An):Prop:=a.Pairwise λs t=>A6 (D4 t)^D4 s=q_
def MS(N:Net)(d:D):Prop:=∃a:r_ An,d=.tup [.tup^N.ps.map .str,.tup^a.map AR]/\(∀t∈a,t∈N.ts)/\a.Pairwise Bq
noncomputable def qh(N:Net)(d:D):Bool:=@decide (MS N d)^ko _
theorem qK:qh N d=p_↔MS N d:=by
 unfold qh
 simp_all
theorem NW(h:b=p_↔MS N d):b=qh N d:=by
 rw[hX,qK];exact h
def aE(N:Net)(d:D):Prop:=∃s∈N.ts,d=AR s
noncomputable def Im(N:Net)(d:D):Bool:=@decide (aE N d)^ko _
theorem vJ:Im N d=p_↔aE N d:=by
 unfold Im
 simp_all
theorem XX(h:Dt (.str a) x=p_):x=.str a:=by
 cases x with
 |str b=>
  have h:(a==b)=p_:=h
  simp_all
 |_=>cases h
theorem bn(h:Dt x^.str a=p_):x=.str a:=by
 cases x with
 |str b=>
  have h:(b==a)=p_:=h
  simp_all
 |_=>cases h
theorem HZ:∀{a:r_ D}{b:r_ Str},mI (BB a)^BB^b.map .str=p_->a=b.map .str
 |[],[],_=>rfl
 |[],_::_,h=>by cases h
 |_::_,[],h=>by cases h
 |x::a,p::b,h=>by
  have h:(g8 _ _&&mI _ _)=p_:=h;simp only[ZB]at h;simp only[bn h.1,HZ h.2];rfl
theorem eqvAll_refl:∀a:r_ Str,mI (BB^a.map .str)^BB^a.map .str=p_
 |[]=>rfl
 |p::a=>by
  show((p==p)&&mI _ _)=p_;simp only[beq_self_eq_true,eqvAll_refl a];rfl
theorem eqD_strs{a:r_ Str}:Dt p^.tup^a.map .str=p_↔p=.tup^a.map .str:=by
 constructor
 .intro h
  cases p with
  |tup b=>rw[HZ h]
  |_=>cases h
 .rintro rfl
  exact eqvAll_refl a
theorem RS(h:Dt (AR s) d=p_):∃z,d=.tup [.str s.a,.str s.b,z]/\∀i,z=.int i->i=s.len:=by
 cases d with
 | tup c=>
  match c,h with
  |[x,y,z],h=>
   have h:(g8 (toPy^.str s.a)^toPy x&&(g8 (toPy^.str s.b)^toPy y&&(g8 (.int s.len)^toPy z&&p_)))=p_:=h;simp only[nR,ZB,ZB]at h;refine#[z,by rw[XX (a:=s.a) (x:=x) h.1,XX (a:=s.b) (x:=y) h.2.1],λi e=>?_];subst e;have f:(s.len==i)=p_:=h.2.2
   simp_all
  |[],h=>cases h
  |[x],h=>exact absurd h^by show ¬((g8 (toPy^.str s.a)^toPy x&&q_)=p_); simp
  |[x,y],h=>exact absurd h^by show ¬((g8 (toPy^.str s.a)^toPy x&&(g8 (toPy^.str s.b)^toPy y&&q_))=p_); simp
  |x::y::z::u::r,h=>exact absurd h^by show ¬((g8 (toPy^.str s.a)^toPy x&&(g8 (toPy^.str s.b)^toPy y&&(g8 (.int s.len)^toPy z&&q_)))=p_); simp
 |_=>cases h
theorem Ic{k:An->r_ Key}(d:∀s t,G6 (f s)^f t=P3^A6 (k s)^k t):∀{ts:r_ An},Jw^ts.map f=p_↔ts.Pairwise λs t=>A6 (k s)^k t=p_
 |[]=>#[λ_=>.nil,λ_=>rfl]
 |[t]=>#[λ_=>km _ _,λ_=>rfl]
 | s::t::r=>by
  show((G6 _ _==P3 _)&&Jw^(t::r).map f)=p_↔_;rw[ZB,Ic d (ts:=t::r),d,gm (a:=s)];constructor
  .rintro⟨b,e⟩
   have b:=fu^eq_of_beq b;refine#[λu c=>?_,e]
   rcases TW.mp c with rfl|c
   .exact b
   .exact B7 _ _ _ b^(gm.mp e).1 u c
  simp_all
theorem Oe(s t:An):G6 (AR s)^AR t=P3^A6 (D4 s)^D4 t:=by
 show(if(p_&&(p_&&(p_&&p_)))=p_ then P3^Ei (D4 s)^D4 t else o_)=_;rw[if_pos (show(p_&&(p_&&(p_&&p_)))=p_ from rfl),FA _ _ rfl]
theorem Vf(s t:An):G6 (Ex^AR s)^Ex^AR t=P3^A6 (RU s)^RU t:=by
 show(if(p_&&(p_&&p_))=p_ then P3^Ei (RU s)^RU t else o_)=_;rw[if_pos (show(p_&&(p_&&p_))=p_ from rfl),FA _ _ rfl]
theorem ekey_iff:A6 (RU s)^RU t=p_↔Bq s t:=by
 show(if iS _=.inr _ then(if iS _=.inr _ then q_ else decide (cs _<cs _))else decide (cs _<cs _))=p_↔(cs _<cs _\/(s.a=t.a/\cs _<cs _))
 by_cases c:s.a=t.a
 .rw[if_pos^by rw[c]]
  by_cases d:s.b=t.b
  .simp_all
  .rw[if_neg λe=>d^im e,decide_eq_true_eq,c]
   constructor
   .intro h; simp_all
   grind
 simp_all
theorem KH(s:An):¬Bq s s:=by
 rintro(h|⟨_,h⟩) <;>exact DU _ h
theorem PL(h:Bq s t):A6 (D4 s)^D4 t=p_:=by
 show(if iS _=.inr _ then(if iS _=.inr _ then(if kd _=.inl _ then q_ else decide _)else decide (cs _<cs _))else decide (cs _<cs _))=p_
 rcases h with h|⟨h,c⟩
 .rw[if_neg λe=>DU s.a^by simp_all,decide_eq_true h]
 .rw[if_pos (by rw[h]),if_neg λe=>DU s.b^by simp_all,decide_eq_true c]
theorem Kf:∀{e:r_ An},e.Pairwise Bq->∀s∈e,∀t∈e,s.a=t.a->s.b=t.b->s=t
 |[],_,s,c,_,_,_,_=>by cases c
 | x::e,h,s,c,t,d,g,i=>by
  have h:=gm.mp h
  rcases TW.mp c with j|c
  .rcases TW.mp d with f|d
   .rw[j,f]
   .rcases h.1 t d with h|⟨_,h⟩
    .grind
    grind
  .rcases TW.mp d with f|d
   .rcases h.1 s c with h|⟨_,h⟩
    .rw[←f,g]at h; exact absurd h^DU _
    grind
   .exact Kf h.2 s c t d g i
theorem Vv{N:Net}(ok:N.Ok)(f:s∈N.ts)(g:t∈N.ts)(h:A6 (D4 s)^D4 t=p_):Bq s t:=by
 have h:(if iS _=.inr _ then(if iS _=.inr _ then(if kd _=.inl _ then q_ else decide _)else decide _)else decide _)=p_:=h
 by_cases c:s.a=t.a
 .rw[if_pos^by rw[c]]at h
  by_cases d:s.b=t.b
  .rw[if_pos (by rw[d]),if_pos^by rw[Kf ok.qg s f t g c d]]at h
   cases h
  .rw[if_neg λe=>d^im e,decide_eq_true_eq]at h
   exact .inr #[c,h]
 .rw[if_neg λe=>c^im e,decide_eq_true_eq]at h
  exact .inl h
theorem BF{a:r_ An}(h:a.Pairwise Bq):a.Nodup:=h.imp λ{s t} h e=>by rw[e]at h; exact KH _ h
theorem sub_len{l m:r_ An}(a:l.Nodup)(b:m.Nodup)(h:∀t∈l,t∈m):l.length<=m.length:=by
 have:l.Perm (m.filter λt=>decide (t∈l)):=(mJ a^b.filter _).mpr λt=>by
  simp_all
 rw[this.length_eq];exact iZ _ _
theorem Ir{N:Net}(ok:N.Ok)(h:∀t∈a,t∈N.ts)(b:a.Pairwise Bq):Net.Ok #[N.ps,a]:=#[ok.names,ok.rise,λt c=>ok.tin t^h t c,b]
theorem Gv{P:An->Prop}:∀{xs:r_ D},(∀d∈xs,∃s,P s/\d=AR s)->∃a:r_ An,xs=a.map AR/\∀t∈a,P t
 |[],_=>#[[],rfl,λt h=>by cases h]
 |d::xs,h=>by
  let#[s,c,rfl]:=h d Op;let#[a,rfl,f]:=Gv λe b=>h e^TM _ b;refine#[s::a,rfl,λt z=>?_]
  grind
theorem Mg(h:a.all^Im N=p_):∃b:r_ An,a=b.map AR/\∀t∈b,t∈N.ts:=
 Gv λd c=>by
  let#[s,f,e]:=vJ.mp^gI.mp h d c;exact#[s,f,e]
theorem QX(ok:N.Ok)(p:D)(b:r_ D):(Dt p^.tup^N.ps.map .str&&(b.all^Im N&&Jw b))=qh N^.tup [p,.tup b]:=by
 refine NW #[λh=>?_,λh=>?_]
 .rw[ZB,ZB]at h
  let#[f,rfl,a]:=Mg h.2.1;exists f,by rw[eqD_strs.mp h.1],a
  have:=(Ic Oe).mp h.2.2
  exact this.imp_of_mem λ{s t} g c z=>Vv ok (a s g) (a t c) z
 .let#[f,e,a,i]:=h
  cases e;simp only[ZB,ZB];refine#[eqD_strs.mpr rfl,gI.mpr λd j=>?_,(Ic Oe).mpr^i.imp λ{s t} z=>PL z];let#[t,c,rfl]:=Rs.mp j;exact vJ.mpr #[t,a t c,rfl]
theorem Mf(h:∀p a,d≠.tup [p,.tup a]):qh N d=q_:=by
 rw[gj];intro z;let#[b,e,_]:=qK.mp z;exact h _ _ e
theorem TZ(h:OX d=p_):∃(e:r_ Str) (g:r_ An),d=.tup [.tup^e.map .str,.tup^g.map AR]/\(∀p∈e,D7 p)/\e.length<=24/\g.length<=60/\(∀t∈g,D7 t.a/\D7 t.b/\1<=t.len/\t.len<=1000000)/\g.Pairwise Bq:=by
 cases o:tupleOfB 2 d with
 |false=>rw[bE o]at h; cases h
 | true=>
  let#[p,t,rfl]:=X1 o;have j:(IK p&&N9 p t)=p_:=h;simp only[ZB]at j;cases p with
  | tup xs=>
   have k:(decide (xs.length<=24)&&(xs.all B6&&Jw xs))=p_:=j.1;simp only[ZB,ZB,decide_eq_true_eq]at k;let#[e,rfl,m]:=M9 k.2.1;have c:Wl (strsOf^e.map .str) t=p_:=j.2;rw[Bo]at c;cases t with
   | tup i=>
    have c:(decide (i.length<=60)&&(i.all Hg&&(i.all^D8 e&&Jw^i.map Ex)))=p_:=c;simp only[ZB,ZB,ZB,decide_eq_true_eq]at c
    let#[g,rfl,n]:=Gv (P:=λt=>D7 t.a/\D7 t.b/\1<=t.len/\t.len<=1000000) (xs:=i) λd r=>by
     let#[x,y,l,rfl,u,v,_,w,A]:=LR^gI.mp c.2.1 d r;exact#[#[x,y,l],#[u,v,w,A],rfl]
    exists e,g,rfl,m,by have:=k.1; rw[No]at this; exact this,by have:=c.1; rw[No]at this; exact this,n;have q:=c.2.2.2;rw[g9]at q;exact((Ic (f:=Ex∘AR) Vf).mp q).imp λ{s t} z=>ekey_iff.mp z
   |_=>cases c
  |_=>cases j.1
theorem SS(ok:N.Ok){f:r_ Str}{c:r_ An}(g:∀p∈f,D7 p)(i:∀t∈c,D7 t.a/\D7 t.b/\1<=t.len/\t.len<=1000000)(n:c.Pairwise Bq):
  ((Ae^.tup^f.map .str==Ae^.tup^N.ps.map .str)&&(c.map AR).all λd=>(N.ts.map AR).any λe=>Ae e==Ae d)=qh N^.tup [.tup^f.map .str,.tup^c.map AR]:=by
 refine NW #[λh=>?_,λh=>?_]
 .rw[ZB]at h
  have e:=M8 g ok.names^eq_of_beq h.1;subst e;refine#[c,rfl,λt k=>?_,n]
  have:=gI.mp h.2 (AR t)^Rs.mpr #[t,k,rfl]
  let#[e,o,z]:=iR.mp this;let#[s,l,rfl]:=Rs.mp o;let#[q,r,_,C,_]:=ok.tin s l;let#[v,w,E,_]:=i t k;simp only[←QW (ok.names _ q) (ok.names _ r) v w (by lk) (by lk)^eq_of_beq z];exact l
 .let#[x,e,j,_]:=h
  have y:f.map D.str=N.ps.map D.str:=by injection e with e; injection e with e; injection e
  have A:c.map AR=x.map AR:=by injection e with e; injection e with _ e; injection e with e; injection e
  rw[ZB,y,beq_self_eq_true];refine#[rfl,gI.mpr λd m=>?_];rw[A]at m;let#[u,B,rfl]:=Rs.mp m;exact iR.mpr #[AR u,Rs.mpr #[u,j u B,rfl],beq_self_eq_true _]
theorem SR(ok:N.Ok)(c:N.ps.length<=24)(e:N.ts.length<=60)(h:MS N d):OX d=p_:=by
 let#[f,rfl,a,b]:=h;exact Ta (Ir ok a b) c^f_ (sub_len (BF b) (BF ok.qg) a) e
end Nt
namespace L2
open PySem.W
end L2
namespace Dp
open L2
end Dp
namespace Nt
open L2 Dp
def look(a:r_ An)(x y:Str):s_ Int:=((DK a x).find? λz=>decide (z.1=y)).map (·.2)
def EH(a:r_ An):Str->r_ Str->Int->s_ Int
 |_,[],s=>P3 s
 |x,y::r,s=>match look a x y with
  |some l=>EH a y r (s+l)
  |none=>o_
def J7:s_ Int->D
 |some i=>.int i
 |none=>.non
def Cg:D->Bool
 |.str _=>p_
 |_=>q_
def Q4(N:Net):r_ Str->D
 |x::r=>if x∈N.ps then J7^EH N.ts x r 0 else .non
 |[]=>.non
def JU(N:Net):D->D
 |.tup a=>if a.all Cg then Q4 N^strsOf a else .non
 |_=>.non
def DC(d:D):Prop:=qY (10 ^ 40) d/\BY d<=160000/\Ct d<=50
abbrev ZZ:W2:=λa n P=>∃(N:Net) (d:D),a=[.sh^enc N,.sh d]/\N.Ok/\N.ps.length<=26/\N.ts.length<=60/\DC d/\P (JU N d) n
theorem F8:∀{b:r_ D},b.all Cg=p_->∃a:r_ Str,b=a.map .str
 |[],_=>#[[],rfl]
 |d::r,h=>by
  simp only[ij,ZB]at h;let#[a,e]:=F8 h.2;cases d with
  |str x=>exact#[x::a,by simp_all]
  |_=>cases h.1
theorem all_strs(a:r_ Str):(a.map D.str).all Cg=p_:=by rw[j9]; exact gI.mpr λ_ _=>rfl
theorem IC:∀{a:r_ Str},BI (a.map .inr) (a.map g)^.inr x=if x∈a then P3^g x else o_
 |[]=>rfl
 |p::a=>by
  show(if iS p=.inr x then P3 _ else BI _ _ _)=_;rw[IC]
  grind
theorem LQ:∀{a:r_ (Str×Int)},BI (a.map λx=>.inr x.1) (a.map λx=>.int x.2)^.inr y=((a.find? λz=>decide (z.1=y)).map (·.2)).map .int
 |[]=>rfl
 |p::b=>by
  show(if iS _=.inr y then P3 _ else BI _ _ _)=_;rw[LQ]
  by_cases e:p.1=y
  .simp_all
  simp_all
theorem JT{N:Net}(ok:N.Ok)(h:look N.ts x y=P3 l):y∈N.ps/\1<=l/\l<=1000000:=by
 unfold look at h;cases c:(DK N.ts x).find? λz=>decide (z.1=y)with
 |none=>simp_all
 |some z=>
  have d:=lW c;let#[t,b,a]:=iH.mp^jd c;let#[e,f,_,g,i]:=ok.tin t b
  rcases Uf.mp a with a|a
  .simp_all
  simp_all
section
variable {n:Nat}
theorem NF(ok:N.Ok):∀(r:r_ Str) (x:Str) (s:Int) (a b:Slot),x∈N.ps->(match EH N.ts x r s with|some l=>∀a b,d.nx n [e,f,.sh^El N,.sh^.int l,a,b]|none=>d.rt .non n)->
  BH (HE 2^BK (Aq 4)^BK (Aq 5) Eb) (BV (CZ (Au^Am (RO p_) (AH 5)^Am GS (AH 2)^AH 4) (CG^wC D.non) Bm)^Wh 3^Am GS (Am GS (AH 2)^AH 4)^AH 5) d (EA ((x::r).map .str)^r.map .str) n [e,f,.sh^El N,.sh^.int s,a,b]
 |[],x,s,a,b,g,h=>h a b
 | y::r,x,s,a,b,g,h=>by
  have i:BI (N.ps.map .inr) (N.ps.map^Up N.ts)^.inr x=P3^Up N.ts x:=by rw[IC,if_pos g]
  exists rfl,rfl;exists _,_,.inr x,_,rfl,rfl,i,_,_,.inr y,rfl,rfl;rw[LQ];unfold EH at h;have j:((DK N.ts x).find? λz=>decide (z.1=y)).map (·.2)=look N.ts x y:=rfl;rw[j];cases c:look N.ts x y with
  |none=>simp only[c]at h; exact Ay h
  |some l=>
   rw[c]at h;have k:BI ((DK N.ts x).map λz=>.inr z.1) ((DK N.ts x).map λz=>.int z.2)^.inr y=P3^.int l:=by simp only[LQ,j,c]; rfl
   refine Az #[s,rfl,_,_,.inr x,_,rfl,rfl,i,_,_,.inr y,_,rfl,rfl,k,l,rfl,?_];exact NF ok r y (s+l) _ _ (JT ok c).1 h
theorem Dd(c:D->Bool)(g:D->D)(I:r_ Slot->Prop):∀(j e:r_ D) (n:Nat) (f:r_ Slot),
  (∀d∈j,∀(f:r_ Slot) (n:Nat) (r:D->Nat->r_ Slot->Prop) (s:Nat->r_ Slot->Prop),I f->(∀i,I i->c d=p_->r (g d) n i)->(∀i,I i->c d=q_->s n i)->b d f λk=>p n k λc t=>if c=p_ then q t k λy u=>r y u k else s t k)->I f->P (e++(j.filter c).map g) n->Dx b p q P j e n f
 |[],e,n,f,_,_,h=>by simp only[List.filter_nil,lO,gM]at h; exact h
 |d::j,e,n,f,l,m,h=>l d Op f n _ _ m
  (λi a v=>Dd c g I j _ n _ (λd o=>l d^TM _ o) a^by simp_all)
  (λi a v=>Dd c g I j _ n _ (λd o=>l d^TM _ o) a^by simp_all)
def Ea(x y:Str):D->Bool
 |.tup [.str a,.str b,_]=>!(x==y)&&((a==x||b==x)&&(a==y||b==y))
 |_=>q_
def Tg:D->D
 |.tup [_,_,l]=>l
 |d=>d
theorem JX:∀{ts:r_ An},(∀t∈ts,t.a≠t.b)->(((ts.map AR).filter^Ea x y).map Tg).head?=(look ts x y).map .int
 |[],_=>rfl
 | t::ts,h=>by
  have i:=JX (x:=x) (y:=y) (ts:=ts) λs k=>h s^TM _ k;have j:=h t Op;have g:Ea x y^AR t=(!(x==y)&&((t.a==x||t.b==x)&&(t.a==y||t.b==y))):=rfl;have l:look (t::ts) x y=((((if t.a=x then [(t.b,t.len)]else [])++(if t.b=x then [(t.a,t.len)]else []))++DK ts x).find? λz=>decide (z.1=y)).map (·.2):=rfl;simp only[gJ,l]
  by_cases f:t.a=x
  .have d:t.b≠x:=λe=>j^f.trans e.symm
   rw[if_pos f,if_neg d,gM]
   by_cases e:t.b=y
   .have c:x≠y:=λz=>d^e.trans z.symm
    have:Ea x y^AR t=p_:=by rw[g,beq_eq_false_iff_ne.mpr c,beq_iff_eq.mpr f,beq_iff_eq.mpr e]; simp
    rw[mz this,jn,nC^by exact decide_eq_true e];rfl
   .have:Ea x y^AR t=q_:=by
     rw[g]
     by_cases c:x=y
     .rw[beq_iff_eq.mpr c]; rfl
     .rw[beq_eq_false_iff_ne.mpr e,beq_eq_false_iff_ne.mpr (show t.a≠y from λz=>c^f.symm.trans z)]; simp
    rw[kr (by rw[this]; decide),jn,nE^by rw[decide_eq_true_eq]; exact e];exact i
  .rw [if_neg f,fw]
   by_cases d:t.b=x
   .rw[if_pos d]
    by_cases e:t.a=y
    .have c:x≠y:=λz=>f^e.trans z.symm
     have:Ea x y^AR t=p_:=by rw[g,beq_eq_false_iff_ne.mpr c,beq_iff_eq.mpr d,beq_iff_eq.mpr e]; simp
     rw[mz this,jn,nC^by exact decide_eq_true e];rfl
    .have:Ea x y^AR t=q_:=by
      rw[g]
      by_cases c:x=y
      .rw[beq_iff_eq.mpr c]; rfl
      .rw[beq_eq_false_iff_ne.mpr e,beq_eq_false_iff_ne.mpr (show t.b≠y from λz=>c^d.symm.trans z)]; simp
     rw[kr (by rw[this]; decide),jn,nE^by rw[decide_eq_true_eq]; exact e];exact i
   .have:Ea x y^AR t=q_:=by simp only[g,beq_eq_false_iff_ne.mpr f,beq_eq_false_iff_ne.mpr d]; simp
    rw[if_neg d,fw,kr^by rw[this]; decide];exact i
theorem NJ{N:Net}(ok:N.Ok):∀{r:r_ Str}{x:Str}{s:Int},(∃y∈r,y∉N.ps)->EH N.ts x r s=o_
 |[],x,s,h=>by simp_all
 | z::r,x,s,h=>by
  unfold EH;cases c:look _ x z with
  |none=>rfl
  |some l=>
   have d:=(JT ok c).1;let#[y,a,b]:=h
   rcases TW.mp a with rfl|a
   .grind
   .exact NJ ok #[y,a,b]
theorem WJ{a:r_ Str}(h:a.drop k=x::y::r):Dp.cutD (a.map D.str) (P3 (1+(k:Int) - 1))^P3 (1+(k:Int)+1)=[.str x,.str y]:=by
 have b:=congrArg jG h;simp only[kF,eq,eq]at b;unfold Dp.cutD;rw[show(1+k - 1)=(k:Int) by lk,show(1+k+1)=((k+2:Nat):Int) by lk,HT.qL,HT.qL,No,jO^by lk,jO^by lk,←List.map_drop,h,show k+2 - k=2 by lk];rfl
end
def eP:W2:=λa n P=>∃(N:Net) (d:D),a=[.sh^enc N,.sh d]/\N.Ok/\Bz d/\P (.bl^Im N d) n
def Ud:W2:=λa n P=>∃(N:Net) (d:D),a=[.sh^enc N,.sh d]/\N.Ok/\N.ps.length<=24/\N.ts.length<=60/\qY (10 ^ 41) d/\BY d<=200000/\Ct d<=90/\P (.bl^qh N d) n
theorem Pl(h:Gn Cr^a.map AR):K_ a:=by
 unfold Gn at h;rw[ir]at h;exact h.imp λ{s t} z=>z _ _ rfl rfl
theorem De{N:Net}(ok:N.Ok){a:r_ An}(h:∀t∈a,t∈N.ts):Bz^.tup^a.map AR/\Bz^.lst^a.map AR:=by
 have c:∀d∈a.map AR,item d:=λd b=>by
  let#[t,e,rfl]:=Rs.mp b;exact JY ok _^Rs.mpr #[t,h t e,rfl]
 have f:CW^a.map AR<=1:=qJ.mpr λd b=>(c d b).2.2;exact#[Bb (B:=1000001) (by cbv) (qz.mpr λd b=>(c d b).1) (by show CW^a.map AR+1<=100; lk),Kt c]
theorem Dz{N:Net}(ok:N.Ok)(h:t∈N.ts):Bz^AR t:=by
 have a:=JY ok _^Rs.mpr #[t,h,rfl];exact Bb (B:=1000001) (by cbv) a.1^by have:=a.2.2; lk
theorem Gh{a:r_ An}:((a.map AR).any λy=>Dt y^AR t)=decide (t∈a):=by
 rw[hX,iR,decide_eq_true_eq];constructor
 .rintro⟨d,b,e⟩
  let#[s,c,rfl]:=Rs.mp b;rw[←(P2 s t).mp e];exact c
 .intro h
  exact#[AR t,Rs.mpr #[t,h,rfl],(P2 t t).mpr rfl]
theorem Pp:∀a:r_ D,a.length<=Be a
 |[]=>T0 _
 |x::a=>by
  have:=Pp a
  show a.length+1<=BY x+1+Be a;lk
theorem NI:∀c:r_ An,200*c.length<=Be^c.map AR
 |[]=>T0 _
 |t::c=>by
  have:=NI c
  show 200*(c.length+1)<=t.a.length+1+(t.b.length+1+(200+1+0))+1+Be^c.map AR;lk
theorem HI(d:D7 t.a)(e:D7 t.b):∀c∈cs^Ae^AR t,c<1114112:=by
 simp only[Oz d e];intro c f;simp only[TW,Uf,ft,or_false]at f;have g:c∈cs t.a->c<1114112:=λh=>by have:=BQ d c h; omega
 have i:c∈cs t.b->c<1114112:=λh=>by have:=BQ e c h; omega
 have j:=Kx t.len c
 rcases f with h|h|h|h|h|h|h|h|h|h|h|h|h
 all_goals first|exact g h|exact i h|exact j h|lk
theorem SQ(h:D4 s=D4 t):s=t:=by
 let#[a,b,l]:=s;let#[c,d,e]:=t;unfold D4 at h;simp only[List.cons.injEq,Sum.inl.injEq,Sum.inr.injEq,and_true]at h;let#[rfl,rfl,rfl]:=h;rfl
theorem Iq(p:c.Perm d)(e:K_ c)(f:K_ d):c=d:=Lf (λa b x y=>SQ^B8 _ _ y x) p e f
theorem Jt(h:a.Pairwise Bq):K_ a:=h.imp λ{s t} z=>by
 cases e:A6 (D4 t)^D4 s with
 |false=>rfl
 |true=>
  have:=B7 _ _ _ (PL z) e
  rw[Bn]at this;cases this
def ZX:W2:=λc n P=>c=[.fd]/\3<=n/\∀(t b:Int) (a:Nat),1<=b->b<=t->t<=1000000->n - 3<=a->P (.tup [.int t,.int b]) a
def WQ:W2:=λa n P=>∃l t b x:Int,a=[.sh^.int l,.sh^.tup [.int t,.int b],.sh^.int x]/\1<=b/\b<=1000000/\1<=t/\t<=1000000/\P (.bl (decide (l*b<=x*t))) n
section
theorem fD(a:0<=j)(b:j<=1000000):qN i j:=.inr #[by lk,by lk]
theorem fZ(a:0<=i)(b:i<=1000000):qN i j:=.inl #[by lk,by lk]
end
def Ed(N:Net)(x y:Str)(l:Int):Prop:=(y,l)∈DK N.ts x
inductive Wk (N:Net) (s:Str):Str->Int->Prop
 |nil:Wk N s s 0
 |snoc {x y:Str}{d l:Int}:Wk N s x d->Ed N x y l->Wk N s y (d+l)
def qF(N:Net)(s x:Str)(d:Int):Prop:=Wk N s x d/\∀a,Wk N s x a->d<=a
theorem Ed.pos(ok:N.Ok)(h:Ed N x y l):1<=l/\l<=1000000:=by
 let#[_,a,b,_]:=Lo ok h
 simp_all
theorem Ed.ins{N:Net}(ok:N.Ok){x y:Str}{l:Int}(h:Ed N x y l):y∈N.ps:=(Lo ok h).1
theorem Wk.pos(ok:N.Ok)(h:Wk N s x d):0<=d:=by
 induction h with
 |nil=>lk
 |snoc _ a b=>have:=a.pos ok; lk
theorem qF.unique(h:qF N s x d)(b:qF N s x a):d=a:=by
 have:=h.2 a b.1
 have:=b.2 d h.1
 lk
theorem Gg{F:Str->s_ Int}(c:∃d,F s=P3 d/\d<=0)(f:∀x d,F x=P3 d->Wk N s x d)(j:∀x d y l,F x=P3 d->Ed N x y l->∃b,F y=P3 b/\b<=d+l):
  (∀x d,F x=P3 d->qF N s x d)/\∀x d,Wk N s x d->F x≠o_:=by
 have a:∀x d,Wk N s x d->∃b,F x=P3 b/\b<=d:=by
  intro x d h
  induction h with
  |nil=>exact c
  |snoc _ k m=>
   grind
 refine#[λx d e=>#[f x d e,λb h=>?_],λx d h e=>?_]
 .let#[g,i,n]:=a x b h
  simp_all
 .let#[g,i,_]:=a x d h
  simp_all
theorem L7(c:t∈N.ts):Ed N t.a t.b t.len/\Ed N t.b t.a t.len:=by
 constructor
 .exact iH.mpr #[t,c,gy _^by simp_all]
 .exact iH.mpr #[t,c,f8 _^by simp_all]
theorem Ed.tie(ok:N.Ok)(h:Ed N x y l):∃t∈N.ts,t.len=l/\((t.a=x/\t.b=y)\/(t.b=x/\t.a=y)):=by
 let#[_,_,_,t,c,e,h]:=Lo ok h;exact#[t,c,e,h]
structure qP (ks:List Key) (ds:List D) (enc:α->D) (F:Str->Option α):Prop where
 len:ks.length=ds.length
 at_:∀x:Str,BI ks ds^.inr x=(F x).map enc
 dom:∀k∈ks,∃x:Str,k=.inr x
 nd:ks.Nodup
theorem qP.mem{c:Type}{enc:c->D}{F:Str->s_ c}(h:qP b ds enc F)(x:Str):(.inr x∈b)↔F x≠o_:=by
 constructor
 .intro a e
  let#[z,d]:=Gu h.len a;rw[h.at_,e]at d;cases d
 .intro f
  by_cases a:iS x∈b
  .exact a
  .have:=KY (ds:=ds) a
   rw[h.at_]at this
   simp_all
theorem qP.one{b:Type}{enc:b->D}{a:b}:qP [.inr s] [enc a] enc (λx=>if x=s then P3 a else o_):=by
 refine#[rfl,λx=>?_,λk c=>#[s,Re.mp c],gF.mpr #[ft,gl]];show(if iS s=.inr x then P3 _ else o_)=(if x=s then P3 a else o_).map _
 by_cases e:x=s
 .simp_all
 .rw[if_neg e,if_neg λz=>e (im z).symm]; rfl
def Gy{b:Type}(F:Str->s_ b)(x:Str)(a:b):Str->s_ b:=λy=>if y=x then P3 a else F y
theorem Bi:Gy F x a x=P3 a:=if_pos rfl
theorem Bh(h:y≠x):Gy F x a y=F y:=if_neg h
theorem qP.put{enc:d->D}(h:qP f g enc F)(x:Str)(a:d):qP (DJ f^.inr x) (DX f g (.inr x)^enc a) enc^Gy F x a:=by
 exists PY h.len,λy=>?_,λk c=>?_
 .rw[SJ h.len]
  unfold Gy
  by_cases e:y=x
  .rw[if_pos e,if_pos^by rw[e]]; rfl
  .rw[if_neg e,if_neg λz=>e^im z,h.at_]
 .unfold DJ at c
  split at c
  .exact h.dom k c
  .rcases Uf.mp c with c|c
   .exact h.dom k c
   simp_all
 .unfold DJ
  split
  .exact h.nd
  .rename_i i
   rw[gg];refine#[h.nd,gF.mpr #[ft,gl],λa j b l e=>i^qE.mpr ?_]
   simp_all
theorem qP.le{d:Type}{enc:d->D}{F:Str->s_ d}(h:qP a g enc F){b:r_ Str}(i:∀x,F x≠o_->x∈b):a.length<=b.length:=by
 have:∀(a:r_ Key) (b:r_ Str),a.Nodup->(∀k∈a,∃x:Str,k=.inr x/\x∈b)->a.length<=b.length:=by
  intro a
  induction a with
  |nil=>simp_all
  | cons k a l=>
   intro b c e;let#[x,rfl,n]:=e k Op;have c:=gF.mp c
   have o:=l (b.erase x) c.2 λj m=>by
    let#[y,rfl,p]:=e j^TM _ m
    grind
   grind
 refine this a b h.nd λk f=>?_;let#[x,rfl]:=h.dom k f;exact#[x,rfl,i x^(h.mem x).mp f]
abbrev MU:=Str->s_ (Int×s_ Str)
structure Dj (N:Net) (s:Str) (F:MU) (Wt:List Str):Prop where
 start:F s=P3 (0,o_)
 ins:∀x,F x≠o_->x∈N.ps
 wk:∀x d p,F x=P3 (d,p)->Wk N s x d
 prev:∀x d p,F x=P3 (d,p)->(p=o_/\x=s)\/∃y dy q l,p=P3 y/\F y=P3 (dy,q)/\y∉Wt/\Ed N y x l/\d=dy+l
 qT:∀x∈Wt,F x≠o_
 nd:Wt.Nodup
 done:∀x d p y l,F x=P3 (d,p)->x∉Wt->Ed N x y l->∃dy q,F y=P3 (dy,q)/\dy<=d+l
 near:∀x d p y dy q,F x=P3 (d,p)->x∉Wt->F y=P3 (dy,q)->y∈Wt->d<=dy
theorem Dj.init(c:s∈N.ps):Dj N s (λx=>if x=s then P3 (0,o_)else o_) [s]:=by
 have a:∀x d p,(if x=s then P3 ((0:Int),(o_:s_ Str))else o_)=P3 (d,p)->x=s/\d=0/\p=o_:=λx d p e=>by
  simp_all
 refine#[if_pos rfl,λx e=>?_,λx d p e=>?_,λx d p e=>?_,λx b=>?_,gF.mpr #[ft,gl],λx d p y l e b=>?_,λx d p y f q e b=>?_]
 .grind
 .let#[rfl,rfl,rfl]:=a x d p e
  exact .nil
 .let#[rfl,rfl,rfl]:=a x d p e
  exact .inl #[rfl,rfl]
 .simp_all
 .exact absurd (Re.mpr (a x d p e).1) b
 .exact absurd (Re.mpr (a x d p e).1) b
structure Dm (N:Net) (s:Str) (F:MU) (Wt:List Str) (v:Str) (dv:Int) (seen:List (Str×Int)):Prop where
 start:F s=P3 (0,o_)
 ins:∀x,F x≠o_->x∈N.ps
 wk:∀x d p,F x=P3 (d,p)->Wk N s x d
 prev:∀x d p,F x=P3 (d,p)->(p=o_/\x=s)\/∃y dy q l,p=P3 y/\F y=P3 (dy,q)/\y∉Wt/\Ed N y x l/\d=dy+l
 qT:∀x∈Wt,F x≠o_
 nd:Wt.Nodup
 done:∀x d p y l,F x=P3 (d,p)->x∉Wt->x≠v->Ed N x y l->∃dy q,F y=P3 (dy,q)/\dy<=d+l
 near:∀x d p y dy q,F x=P3 (d,p)->x∉Wt->F y=P3 (dy,q)->y∈Wt->d<=dy
 here:∃p,F v=P3 (dv,p)
 out:v∉Wt
 least:∀x d p,F x=P3 (d,p)->x∉Wt->d<=dv
 gone:∀y l,(y,l)∈seen->∃dy q,F y=P3 (dy,q)/\dy<=dv+l
theorem Dj.take(h:Dj N s F c){dv:Int}(o:v∈c)(e:F v=P3 (dv,p))(i:∀y∈c,∀g q,F y=P3 (g,q)->dv<=g):Dm N s F (c.erase v) v dv []:=by
 have f:∀x,x∈c.erase v->x∈c:=λx b=>List.mem_of_mem_erase b;have m:v∉c.erase v:=λz=>(h.nd.mem_erase_iff.mp z).1 rfl
 have a:∀x,x∉c.erase v->x=v\/x∉c:=λx b=>by
  grind
 refine#[h.start,h.ins,h.wk,λx d q ex=>?_,λx b=>h.qT x^f x b,h.nd.erase v,λx d q y l ex b r t=>?_,λx d q y g j ex b n k=>?_,#[p,e],m,λx d q ex b=>?_,λy l k=>by cases k]
 .rcases h.prev x d q ex with z|⟨y,g,j,l,u,w,A,B,C⟩
  .exact .inl z
  .exact .inr #[y,g,j,l,u,w,λz=>A^f y z,B,C]
 .rcases a x b with z|z
  .exact absurd z r
  .exact h.done x d q y l ex z t
 .rcases a x b with z|z
  .subst z
   rw[e]at ex;cases ex;exact i y (f y k) g j n
  .exact h.near x d q y g j ex z n^f y k
 .rcases a x b with z|z
  .grind
  .exact h.near x d q v dv p ex z e o
theorem Dm.finish{dv:Int}{a:r_ (Str×Int)}(h:Dm N s F b v dv a)(f:∀y l,Ed N v y l->(y,l)∈a):Dj N s F b:=by
 refine#[h.start,h.ins,h.wk,h.prev,h.qT,h.nd,λx d p y l e g c=>?_,h.near]
 by_cases z:x=v
 .subst z
  let#[j,i]:=h.here;rw[i]at e;cases e;exact h.gone y l^f y l c
 .exact h.done x d p y l e g z c
theorem Dm.find(ok:N.Ok){dv:Int}{j:r_ (Str×Int)}(h:Dm N s F m v dv j)(w:Ed N v y l)(K:F y=o_):Dm N s (Gy F y (dv+l,P3 v)) (m++[y]) v dv (j++[(y,l)]):=by
 have L:=(w.pos ok).1;let#[A,B]:=h.here;have C:∀x d p,F x=P3 (d,p)->x≠y:=λx d p e z=>by rw[z,K]at e; cases e
 have f:∀x d p,F x=P3 (d,p)->Gy F y (dv+l,P3 v) x=P3 (d,p):=λx d p e=>by rw[Bh^C x d p e]; exact e
 have Q:y∉m:=λz=>h.qT y z K
 have c:∀x d p,Gy F y (dv+l,P3 v) x=P3 (d,p)->(x=y/\d=dv+l/\p=P3 v)\/(x≠y/\F x=P3 (d,p)):=λx d p e=>by
  by_cases z:x=y
  .rw[z,Bi]at e; cases e; exact .inl #[z,rfl,rfl]
  .rw[Bh z]at e; exact .inr #[z,e]
 have k:∀x,x∉m++[y]->x∉m/\x≠y:=λx g=>#[λz=>g^gy _ z,λz=>g^f8 _^by simp only[z]; exact Re.mpr rfl]
 have M:v∉m++[y]:=λz=>by
  rcases Uf.mp z with z|z
  .exact h.out z
  .exact C v dv A B^Re.mp z
 refine#[f _ _ _ h.start,λx g=>?_,λx d p e=>?_,λx d p e=>?_,λx g=>?_,?_,λx d p z o e g R D=>?_,λx d p z O q e g E i=>?_,#[A,f _ _ _ B],M,λx d p e g=>?_,λz o i=>?_]
 .by_cases z:x=y
  .rw[z]; exact w.ins ok
  .rw[Bh z]at g; exact h.ins x g
 .rcases c x d p e with⟨rfl,rfl,_⟩|⟨_,e⟩
  .exact .snoc (h.wk v dv A B) w
  .exact h.wk x d p e
 .rcases c x d p e with⟨rfl,rfl,rfl⟩|⟨_,e⟩
  .exact .inr #[v,dv,A,l,rfl,f _ _ _ B,M,w,rfl]
  .rcases h.prev x d p e with z|⟨u,P,q,o,S,G,r,T,U⟩
   .exact .inl z
   .refine .inr #[u,P,q,o,S,f _ _ _ G,λz=>?_,T,U]
    rcases Uf.mp z with z|z
    .exact r z
    .exact C u P q G^Re.mp z
 .rcases Uf.mp g with g|g
  .have:=h.qT x g
   cases e:F x with
   |none=>exact absurd e this
   |some a=>rw[f x a.1 a.2 e]; intro z; cases z
  .rw[Re.mp g,Bi]; intro z; cases z
 .rw[gg]
  exact#[h.nd,gF.mpr #[ft,gl],λa V b W e=>Q^by simp only[←Re.mp W,←e]; exact V]
 .let#[n,t]:=k x g
  rcases c x d p e with⟨z,_⟩|⟨_,e⟩
  .exact absurd z t
  .let#[H,I,r,J]:=h.done x d p z o e n R D
   exact#[H,I,f _ _ _ r,J]
 .let#[n,t]:=k x g
  rcases c x d p e with⟨z,_⟩|⟨_,ex⟩
  .exact absurd z t
  .rcases c z O q E with⟨_,G,_⟩|⟨X,E⟩
   .have:=h.least x d p ex n
    lk
   .rcases Uf.mp i with i|i
    .exact h.near x d p z O q ex n E i
    .exact absurd (Re.mp i) X
 .let#[n,t]:=k x g
  rcases c x d p e with⟨z,_⟩|⟨_,e⟩
  .exact absurd z t
  .exact h.least x d p e n
 .rcases Uf.mp i with i|i
  .let#[H,I,r,J]:=h.gone z o i
   exact#[H,I,f _ _ _ r,J]
  .cases Re.mp i
   exact#[_,_,Bi,je _]
theorem Dm.nearer(ok:N.Ok){dv:Int}{f:r_ (Str×Int)}(h:Dm N s F k v dv f)(o:Ed N v y l)(B:F y=P3 (A,J))(Q:dv+l<A):Dm N s (Gy F y (dv+l,P3 v)) k v dv (f++[(y,l)]):=by
 have K:=(o.pos ok).1;let#[r,t]:=h.here
 have L:y∈k:=by
  by_cases z:y∈k
  .exact z
  .have:=h.least y A J B z
   lk
 have M:v≠y:=λz=>h.out (by rw[z]; exact L);have c:∀x,x∉k->Gy F y (dv+l,P3 v) x=F x:=λx b=>Bh λz=>b^by rw[z]; exact L
 have a:∀x d p,Gy F y (dv+l,P3 v) x=P3 (d,p)->(x=y/\d=dv+l/\p=P3 v)\/(x≠y/\F x=P3 (d,p)):=λx d p e=>by
  by_cases z:x=y
  .rw[z,Bi]at e; cases e; exact .inl #[z,rfl,rfl]
  .rw[Bh z]at e; exact .inr #[z,e]
 have g:∀x d p,F x=P3 (d,p)->∃O q,Gy F y (dv+l,P3 v) x=P3 (O,q)/\O<=d:=λx d p e=>by
  by_cases z:x=y
  .subst z
   rw[B]at e;cases e;exact#[_,_,Bi,by lk]
  .exact#[d,p,by rw[Bh z]; exact e,je _]
 have R:s≠y:=λz=>by
  have:=h.start
  rw[z,B]at this;cases this
  have:=(h.wk v dv r t).pos ok
  lk
 refine#[by rw[Bh R]; exact h.start,λx b=>?_,λx d p e=>?_,λx d p e=>?_,λx b=>?_,h.nd,λx d p z m e b S C=>?_,λx d p z P q e b D i=>?_,#[r,by rw[Bh M]; exact t],h.out,λx d p e b=>?_,λz m i=>?_]
 .by_cases z:x=y
  .rw[z]; exact o.ins ok
  .rw[Bh z]at b; exact h.ins x b
 .rcases a x d p e with⟨rfl,rfl,_⟩|⟨_,e⟩
  .exact .snoc (h.wk v dv r t) o
  .exact h.wk x d p e
 .rcases a x d p e with⟨rfl,rfl,rfl⟩|⟨_,e⟩
  .exact .inr #[v,dv,r,l,rfl,by rw[Bh M]; exact t,h.out,o,rfl]
  .rcases h.prev x d p e with z|⟨u,T,q,m,U,V,j,n,W⟩
   .exact .inl z
   .exact .inr #[u,T,q,m,U,by rw[c u j]; exact V,j,n,W]
 .by_cases z:x=y
  .rw[z,Bi]; intro w; cases w
  .rw[Bh z]; exact h.qT x b
 .rw[c x b]at e
  let#[E,G,j,X]:=h.done x d p z m e b S C;let#[H,I,n,Y]:=g z E G j;exact#[H,I,n,by lk]
 .rw[c x b]at e
  rcases a z P q D with⟨rfl,rfl,_⟩|⟨Z,D⟩
  .have:=h.least x d p e b
   lk
  .exact h.near x d p z P q e b D i
 .rw[c x b]at e
  exact h.least x d p e b
 .rcases Uf.mp i with i|i
  .let#[E,G,j,X]:=h.gone z m i
   let#[H,I,n,Y]:=g z E G j;exact#[H,I,n,by lk]
  .cases Re.mp i
   exact#[_,_,Bi,je _]
theorem Dm.skip{dv:Int}{a:r_ (Str×Int)}(h:Dm N s F c v dv a)(i:F y=P3 (d,e))(f:d<=dv+l):Dm N s F c v dv (a++[(y,l)]):=by
 refine#[h.start,h.ins,h.wk,h.prev,h.qT,h.nd,h.done,h.near,h.here,h.out,h.least,λz g b=>?_]
 rcases Uf.mp b with b|b
 .exact h.gone z g b
 simp_all
structure Told (N:Net) (s:Str) (F:MU):Prop where
 start:F s=P3 (0,o_)
 ins:∀x,F x≠o_->x∈N.ps
 least:∀x d p,F x=P3 (d,p)->qF N s x d
 all:∀x d,Wk N s x d->F x≠o_
 prev:∀x d p,F x=P3 (d,p)->(p=o_/\x=s)\/∃y dy q l,p=P3 y/\F y=P3 (dy,q)/\Ed N y x l/\d=dy+l
theorem Dj.told(h:Dj N s F []):Told N s F:=by
 have c:=Gg (N:=N) (s:=s) (F:=λx=>(F x).map (·.1)) #[0,by rw[h.start]; rfl,je _] (λx d e=>by
  let#[#[g,p],a,b]:=gY.mp e;subst b;exact h.wk x _ p a) (λx d y l e i=>by
  let#[#[g,p],a,b]:=gY.mp e;subst b;let#[f,q,j,k]:=h.done x _ p y l a ft i;exact#[f,by rw[j]; rfl,k])
 refine#[h.start,h.ins,λx d p e=>c.1 x d (by rw[e]; rfl),λx d m e=>c.2 x d m (by rw[e]; rfl),λx d p e=>?_]
 rcases h.prev x d p e with z|⟨y,f,q,l,a,b,_,n,o⟩
 .exact .inl z
 simp_all
abbrev Kn:=Str->s_ Int
structure Bf (N:Net) (s:Str) (c:Nat) (K:Kn):Prop where
 start:∃d,K s=P3 d/\d<=0
 ins:∀x,K x≠o_->x∈N.ps
 wk:∀x d,K x=P3 d->Wk N s x d
 top:∀x d,K x=P3 d->d<=1000000*(c:Int)
def big:Nat:=27000001
def wt(K:Kn)(x:Str):Nat:=match K x with
 |some d=>d.toNat
 |none=>big
def Rx(a:r_ Str)(K:Kn):Nat:=(a.map^wt K).sum
theorem SY{f g:Str->Nat}:∀{a:r_ Str},(∀x∈a,f x<=g x)->(a.map f).sum<=(a.map g).sum
 |[],_=>On _
 |x::a,h=>by
  have c:=SY λy b=>h y^TM _ b
  grind
theorem SX{f g:Str->Nat}:∀{b:r_ Str},(∀x∈b,f x<=g x)->(∃x∈b,f x<g x)->(b.map f).sum<(b.map g).sum
 |[],_,#[x,c,_]=>by cases c
 | x::b,h,#[y,a,d]=>by
  have i:=h x Op;simp only[gJ,gJ,nQ,nQ]
  rcases TW.mp a with rfl|a
  .have e:=SY λy a=>h y^TM _ a
   lk
  .have e:=SX (λy a=>h y^TM _ a) #[y,a,d]
   lk
theorem Bf.put  (ok:N.Ok) {K:Kn} (h:Bf N s c K) (t:c' ≤ 26) (m:c ≤ c')  (hx:K x=P3 d) (b:Ed N x y l) (n:K y=o_ → c'=c + 1) (f:∀ a,K y=P3 a → d + l < a):Bf N s c'^Gy K y (d + l) ∧ Rx N.ps^Gy K y (d + l) < Rx N.ps K:=by
  have u:=b.pos ok;have v:=(h.wk x d hx).pos ok;have o:Wk N s y (d + l):=.snoc (h.wk x d hx) b;have A:=h.top x d hx
  have p : d + l ≤ 1000000 * (c':Int):=by
    cases e:K y with
    | none => rw[n e]; have:((c + 1:Nat):Int)=(c:Int) + 1:=by lk
              simp only[this,Int.mul_add]; omega
    | some a=>
      have B:=f a e;have q:=h.top y a e;have:(1000000:Int) * (c:Int) ≤ 1000000 * (c':Int):=lX (by lk) (by lk);lk
  refine#[#[?_,λz i=>?_,λz g e=>?_,λz g e=>?_],SX (λz _=>?_) #[y,b.ins ok,?_]]
  · let#[j,k,r]:=h.start
    by_cases z:s=y
    · have:=f j^by rw[←z]; exact k
      omega
    .exact#[j,by rw[Bh z]; exact k,r]
  · by_cases e:z=y
    .rw[e]; exact b.ins ok
    .rw[Bh e]at i; exact h.ins z i
  · by_cases w:z=y
    .rw[w,Bi]at e; cases e; rw[w]; exact o
    .rw[Bh w]at e; exact h.wk z g e
  · by_cases w:z=y
    .rw[w,Bi]at e; cases e; exact p
    · rw[Bh w]at e
      have q:=h.top z g e;have:(1000000:Int) * (c:Int) ≤ 1000000 * (c':Int):=lX (by lk) (by lk);lk
  · unfold wt
    by_cases w:z=y
    · rw[w,Bi]
      cases e:K y with
      |none=>show(d + l).toNat ≤ big; unfold big; omega
      |some a=>show(d + l).toNat ≤ a.toNat; have:=f a e; omega
    · rw[Bh w]
      exact On _
  · unfold wt
    rw[Bi];cases e:K y with
    |none=>show(d + l).toNat < big; unfold big; omega
    |some a=>show(d + l).toNat < a.toNat; have:=f a e; omega
theorem Bf.init(b:s∈N.ps):Bf N s 1 (λx=>if x=s then P3 0 else o_):=by
 have a:∀x d,(if x=s then P3 (0:Int)else o_)=P3 d->x=s/\d=0:=λx d e=>by
  simp_all
 refine#[#[0,if_pos rfl,je _],λx e=>by simp_all,λx d e=>?_,λx d e=>?_]
 .let#[rfl,rfl]:=a x d e
  exact .nil
 .let#[rfl,rfl]:=a x d e
  decide
def Ip(K:Kn)(e:Str×Str×Int):Prop:=∀d,K e.1=P3 d->∃a,K e.2.1=P3 a/\a<=d+e.2.2
structure vF (N:Net) (s:Str) (K:Kn):Prop where
 ins:∀x,K x≠o_->x∈N.ps
 least:∀x d,K x=P3 d->qF N s x d
 all:∀x d,Wk N s x d->K x≠o_
 top:∀x d,K x=P3 d->d<=30000000
theorem Bf.told(ok:N.Ok){K:Kn}(h:Bf N s c K)(n:c<=26)(f:∀t∈N.ts,Ip K (t.a,t.b,t.len)/\Ip K (t.b,t.a,t.len)):vF N s K:=by
 have g:=Gg h.start h.wk (λx d y l e j=>by
  let#[t,i,k,m]:=j.tie ok;subst k
  rcases m with⟨rfl,rfl⟩|⟨rfl,rfl⟩
  .exact(f t i).1 d e
  .exact(f t i).2 d e)
 exact#[h.ins,g.1,g.2,λx d e=>by have:=h.top x d e; lk]
def walk(N:Net):r_ Str->Int->Prop
 |[],_=>False
 |[_],d=>d=0
 |x::y::r,d=>∃l e,Ed N x y l/\walk N (y::r) e/\d=l+e
theorem QP(a:Ed N x y l)(h:walk N (y::r) d):walk N (x::y::r) (l+d):=#[l,d,a,h,rfl]
def cY(N:Net)(a b:Str):s_ Int->Prop
 |some d=>qF N a b d
 |none=>∀d,¬Wk N a b d
theorem Told.far(h:Told N s F)(x:Str):cY N s x ((F x).map (·.1)):=by
 cases e:F x with
 |none=>exact λd b=>h.all x d b e
 |some a=>exact h.least x _ _ e
theorem vF.far{K:Kn}(h:vF N s K)(x:Str):cY N s x^K x:=by
 cases e:K x with
 |none=>exact λd a=>h.all x d a e
 |some d=>exact h.least x d e
def Way(N:Net)(a b:Str)(o:s_^r_ Str):Prop:=match o with
 |some w=>∃d r,w=a::r/\w.getLast?=P3 b/\walk N w d/\qF N a b d/\w.length<=30/\∀x∈w,x∈N.ps
 |none=>∀d,¬Wk N a b d
def bC:s_ Str->D
 |some y=>.str y
 |none=>.non
def dU:s_ Int->D
 |some y=>.int y
 |none=>.non
def bB:s_^r_ Str->D
 |some w=>.tup^w.map .str
 |none=>.non
def H_(p:Int×s_ Str):D:=.tup [.int p.1,bC p.2]
def okN(N:Net):Prop:=N.Ok/\N.ps.length<=25/\N.ts.length<=60
def cJ:W2:=λf n P=>∃(a:r_ Str) (b:r_ Key) (c:r_ D) (F:MU),f=[.br^.lst^a.map .str,.br^.dic b c]/\qP b c H_ F/\(∀x∈a,F x≠o_)/\a≠[]/\a.length<=100 /\
 ∀v∈a,(∀y∈a,∀d g e h,F v=P3 (d,g)->F y=P3 (e,h)->d<=e)->P (.str v) n
def Za:W2:=λc n P=>∃(N:Net) (s:Str),c=[.sh^enc N,.sh^.str s]/\okN N/\s∈N.ps/\∀(a:r_ Key) (b:r_ D) (F:MU),qP a b H_ F->Told N s F->P (.dic a b) n
def cE:W2:=λc n P=>∃(N:Net) (a b:Str),c=[.sh^enc N,.sh^.str a,.sh^.str b]/\okN N/\a∈N.ps/\b∈N.ps/\∀o,Way N a b o->P (bB o) n
theorem eK(h:A6 [.inl j,.inr y] [.inl i,.inr x]=q_):i<=j:=by
 have h:(if kd j=.inl i then(if iS y=.inr x then q_ else decide _)else decide _)=q_:=h
 grind
section
theorem A3(x:Str):keyOf^.str x=P3^.inr x:=rfl
theorem Qx{N:Net}(ok:N.Ok){a:r_ Str}(h:∀x∈a,x∈N.ps):Bz^.lst^a.map .str:=Kt λd b=>by
  let#[x,c,rfl]:=Rs.mp b;exact Cs^ok.names x^h x c
theorem LN{N:Net}{d:r_ Str}(b:d.Nodup)(h:∀x∈d,x∈N.ps):d.length<=N.ps.length:=by
 have:∀(a c:r_ Str),a.Nodup->(∀x∈a,x∈c)->a.length<=c.length:=by
  intro a
  induction a with
  |nil=>simp_all
  |cons x a g=>
   intro c b f;have k:=f x Op;have b:=gF.mp b;have l:=g (c.erase x) b.2 λj i=>(List.mem_erase_of_ne λe=>b.1^by simp_all).mpr^f j^TM _ i
   grind
 simp_all
theorem JC(a:r_ Key)(k:Key):(DJ a k).length=if Jd a k=p_ then a.length else a.length+1:=by
 unfold DJ
 split
 .rfl
 simp_all
theorem qP.has{b:Type}{enc:b->D}{F:Str->s_ b}(h:qP a d enc F):(F x=o_->Jd a^.inr x=q_)/\(F x≠o_->Jd a^.inr x=p_):=by
 constructor
 .intro e
  cases c:Jd a _ with
  |false=>rfl
  |true=>exact absurd e^(h.mem x).mp^qE.mp c
 .intro e
  exact qE.mpr^(h.mem x).mpr e
theorem QZ{N:Net}(hx:x∈N.ps):BI (N.ps.map .inr) (N.ps.map^Up N.ts)^.inr x=P3^Up N.ts x:=by
 have c:∀a:r_ _,x∈a->BI (a.map .inr) (a.map^Up N.ts)^.inr x=P3^Up N.ts x:=by
  intro a
  induction a with
  |nil=>grind
  | cons q a b=>
   intro h;show(if iS q=.inr x then P3 _ else BI _ _ _)=_
   by_cases e:q=x
   .grind
   .rw[if_neg λz=>e^im z]
    exact b^(TW.mp h).resolve_left λz=>e z.symm
 simp_all
theorem Us(l:r_ (Str×Int)):EA ((l.map λx=>(.inr x.1:Key)).map Ra) (l.map λx=>.int x.2)=l.map df:=by
 induction l with
 |nil=>rfl
 |cons p l a=>
  show D.tup _::EA _ _=df p::l.map _;rw[←a];rfl
end
structure WInv (N:Net) (F:MU) (b:Str) (db:Int) (acc:List Str) (pl:Option Str):Prop where
 st:(acc=[]/\pl=P3 b)\/∃z r dz,acc.reverse=z::r/\F z=P3 (dz,pl)/\walk N acc.reverse (db - dz)/\acc.reverse.getLast?=P3 b
 nd:acc.Nodup
 ins:∀x∈acc,x∈N.ps
 less:∀y dy q,pl=P3 y->F y=P3 (dy,q)->∀x∈acc,∃dx qx,F x=P3 (dx,qx)/\dy<dx
 fnd:∀y,pl=P3 y->F y≠o_
def wm(F:MU):s_ Str->Nat
 |none=>0
 |some y=>((F y).getD (0,o_)).1.toNat+1
theorem WInv.step(ok:N.Ok)(T:Told N a F)(eb:F b=P3 (k,qb))(h:WInv N F b k m^P3 y)(c:F y=P3 (g,f)):WInv N F b k (m++[y]) f/\wm F f<wm F^P3 y:=by
 have L:=(T.least y g f c).1.pos ok
 have A:∀w o q,f=P3 w->F w=P3 (o,q)->o<g:=λw o q e i=>by
  rcases T.prev y g f c with⟨z,_⟩|⟨B,s,C,l,j,n,t,u⟩
  .rw[e]at z; cases z
  .rw[e]at j
   cases j;rw[i]at n;cases n
   have:=(t.pos ok).1
   lk
 have D:∀w,f=P3 w->F w≠o_:=λw e=>by
  rcases T.prev y g f c with⟨z,_⟩|⟨B,s,C,l,j,n,_⟩
  .rw[e]at z; cases z
  .rw[e]at j
   cases j;rw[n];intro z; cases z
 exists#[.inr ?_,?_,λx d=>?_,λw o q e i x d=>?_,D]
 .rw [List.reverse_append,List.reverse_singleton,lF]
  rcases h.st with⟨rfl,e⟩|⟨z,r,E,j,n,t,u⟩
  .cases e
   rw[eb]at c;cases c;exact#[_,_,_,rfl,eb,(by show k - k=0; lk),rfl]
  .exists y,m.reverse,g,rfl,c,?_
   .rw[j]at t ⊢
    rcases T.prev z E (P3 y) n with⟨w,_⟩|⟨B,s,C,l,M,G,O,Q⟩
    .cases w
    .cases M
     rw[c]at G;cases G
     have:=QP O t
     simp only[show l+(k - E)=k - g by lk]at this;exact this
   .rw[j]at u ⊢
    exact u
 .rw[gg]
  refine#[h.nd,gF.mpr #[ft,gl],λx d z P e=>?_];simp only[Re.mp P]at e;let#[H,I,ex,v]:=h.less y g f rfl c x d;simp only[e,c]at ex;cases ex;lk
 .rcases Uf.mp d with d|d
  .exact h.ins x d
  .rw[Re.mp d]
   exact T.ins y^by rw[c]; intro z; cases z
 .have J:=A w o q e i
  rcases Uf.mp d with d|d
  .let#[H,I,ex,v]:=h.less y g f rfl c x d
   exact#[H,I,ex,by lk]
  .rw[Re.mp d]
   exact#[g,f,c,J]
 .cases f with
  |none=>exact Nat.succ_pos _
  | some w=>
   cases i:F w with
   |none=>exact absurd i (D w rfl)
   |some p=>
    have J:=A w p.1 p.2 rfl i;have R:=(T.least w p.1 p.2 i).1.pos ok;show((F w).getD (0,o_)).1.toNat+1<((F y).getD (0,o_)).1.toNat+1;rw[i,c];show p.1.toNat+1<g.toNat+1;lk
theorem Lr{w:r_ Str}(h:w.getLast?=P3 b):atI (w.map D.str) (-1)=P3^.str b:=by
 let#[a,rfl]:=List.getLast?_eq_some_iff.mp h;rw[gW];exact UV _ _
theorem Gc(a:r_ b)(c d:s_ Int):(Dp.cutD a c d).Sublist a:=(mL _ _).trans^List.drop_sublist _ _
theorem Vq{K:Kn}(M:qP a b D.int K)(x:Str):(BI a b^.inr x).getD .non=dU^K x:=by
 rw[M.at_];cases K x <;>rfl
theorem Gw(a:okN N):qY 1000001^enc N/\BY^enc N<=48000/\Ct^enc N<=3:=X0 (Vj a.1) (JY a.1) (by rw[No]; have:=a.2.1; lk)^by rw[No]; have:=a.2.2; lk
def sub(N:Net)(kept:r_ An):Net:=#[N.ps,N.ts.filter λu=>decide (u∈kept)]
def XD(N:Net)(t b:Int)(u:An):Prop:=∃d,qF N u.a u.b d/\d*b<=u.len*t
noncomputable def C6(N:Net)(t b:Int)(u:An):Bool:=@decide (XD N t b u)^ko _
theorem qS:C6 N t b u=p_↔XD N t b u:=by
 unfold C6
 simp_all
noncomputable def Aw(N:Net)(t b:Int):r_ An->r_ An->r_ An
 |a,[]=>a
 |a,u::r=>if C6 (sub N a) t b u=p_ then Aw N t b a r else Aw N t b (a++[u]) r
def O9:W2:=λc n P=>∃(N:Net) (z:D) (b:r_ An),c=[.sh^enc N,.br z]/\Fe z=P3^b.map AR/\b.length<64/\∀a:r_ An,a.Perm b->K_ a->P (enc #[N.ps,a]) n
def Uj:W2:=λc n P=>∃(N:Net) (u:An) (t b:Int),c=[.sh^enc N,.sh^.tup [.int t,.int b],.sh^AR u]/\okN N/\u.a∈N.ps/\u.b∈N.ps/\1<=b/\b<=1000000/\1<=t/\t<=1000000/\∀o:s_^r_ Str,(∀w,o=P3 w->Way N u.a u.b^P3 w/\C6 N t b u=p_)->(o=o_->C6 N t b u=q_)->P (bB o) n
def Nw:W2:=λc n P=>∃(N:Net) (t b:Int),c=[.sh^enc N,.sh^.tup [.int t,.int b]]/\okN N/\1<=b/\b<=1000000/\1<=t/\t<=1000000/\∀a:r_ An,a.Perm N.ts->Cw a->P (enc^sub N^Aw N t b [] a) n
def J0:W2:=λd n P=>∃(N:Net) (s:Str) (z:D) (a:r_ An),d=[.br z,.sh^.str s]/\Fe z=P3^a.map AR/\(∀u,u∈a↔u∈N.ts)/\okN N/\s∈N.ps/\∀(b:r_ Key) (c:r_ D) (K:Kn),qP b c D.int K->vF N s K->P (.dic b c) n
theorem zL:u∈(sub N kept).ts↔u∈N.ts/\u∈kept:=by
 show u∈N.ts.filter _↔_
 simp_all
theorem IF(a:okN N)(kept:r_ An):okN^sub N kept:=#[Ir a.1 (λt h=>(zL.mp h).1)^a.1.qg.filter _,a.2.1,f_ (iZ _ _) a.2.2]
theorem OB(ok:N.Ok)(d:∀t∈kept,t∈N.ts)(nd:kept.Nodup)(b:a.Perm kept)(c:K_ a):(#[N.ps,a]:Net)=sub N kept:=by
 congr 1
 refine Iq ((mJ (b.nodup_iff.mpr nd)^(BF ok.qg).filter _).mpr λt=>?_) c^Jt^ok.qg.filter _;rw[b.mem_iff]
 simp_all
theorem Df:Aw N t b kept (u::r)=if C6 (sub N kept) t b u=p_ then Aw N t b kept r else Aw N t b (kept++[u]) r:=rfl
theorem CS:∀{rest kept:r_ An},(∀u∈kept,u∈Aw N t b kept rest)/\∀u∈Aw N t b kept rest,u∈kept\/u∈rest
 |[],kept=>#[λu h=>h,λu h=>.inl h]
 | v::r,kept=>by
  unfold Aw
  split
  .let#[a,c]:=CS
   exact#[a,λu d=>(c u d).imp id λz=>TM _ z]
  .let#[a,c]:=CS (N:=N) (t:=t) (b:=b) (rest:=r) (kept:=kept++[v])
   grind
theorem Fo{f g:Type}:∀{l:r_ (f×g)},(l.map (·.1)).Nodup->∀{p q:f×g},p∈l->q∈l->p.1=q.1->p=q
 |a::l,d,p,q,h,i,e=>by
  rw[gJ,gF]at d
  rcases TW.mp h with b|b <;>rcases TW.mp i with c|c
  .rw[b,c]
  .grind
  .exact absurd (Rs.mpr #[p,b,by rw[e,c]]) d.1
  .exact Fo d.2 b c e
theorem Lp(ok:N.Ok)(h:Ed N x y l):look N.ts x y=P3 l:=by
 unfold look;cases e:(DK _ x).find? _ with
 |none=>exact absurd (List.find?_eq_none.mp e _ h)^by simp
 |some q=>
  have a:=of_decide_eq_true^lW (p:=λz=>decide _) e;rw[Fo (Kl ok x) (jd e) h a];rfl
theorem MY(ok:N.Ok):∀{r:r_ Str}{x:Str}{s d:Int},walk N (x::r) d->EH N.ts x r s=P3 (s+d)
 |[],x,s,d,h=>by
  have:=h
  subst this;show P3 s=P3 _
  simp_all
 |y::r,x,s,d,h=>by
  let#[l,e,a,b,rfl]:=h;show(match look _ x y with|some l=>EH _ y r _|none=>o_)=_;rw[Lp ok a];show EH _ y r _=_;rw[MY ok b,Int.add_assoc]
theorem Vh(ok:N.Ok)(hx:x∈N.ps)(a:walk N (x::r) d):JU N^.tup^(x::r).map .str=.int d:=by
 show(if((x::r).map _).all _ then Q4 N _ else .non)=_;rw[if_pos^all_strs _,Bo];show(if x∈N.ps then J7 _ else .non)=_;rw[if_pos hx,MY ok a,Int.zero_add];rfl
theorem EB{N:Net}(ok:N.Ok):∀{w:r_ Str},(∀x∈w,x∈N.ps)->Cj B^w.map .str/\Be^w.map .str<=9*w.length/\CW^w.map .str<=0
 |[],_=>#[trivial,On _,On _]
 | x::r,h=>by
  let#[a,b,c]:=EB ok λy e=>h y^TM _ e;have d:=ok.names x^h x Op;exists#[λf g=>by have:=d.2.2 f g; lk,a],?_
  .show x.length+1+Be _<=9*(r.length+1)
   have:=d.2.1
   lk
  assumption
theorem R9{N:Net}(ok:N.Ok){w:r_ Str}(d:w.length<=30)(h:∀x∈w,x∈N.ps):DC^.tup^w.map .str:=by
 let#[a,b,c]:=EB ok h;exact#[a,by show Be _<=160000; lk,by show CW _+1<=50; lk]
def thn(N:Net)(a:r_ An):Prop:=(∀t∈a,t∈N.ts)/\a.Pairwise Bq
abbrev R_(w:r_ Str):D:=.tup^w.map .str
def SO(t b:Int):Prop:=1<=b/\b<=1000000/\1<=t/\t<=1000000
def Uv(k:Nat)(M:Net)(a b:Str)(w:r_ Str)(d:Int):Prop:=(∃r,w=a::r)/\w.getLast?=P3 b/\walk M w d/\w.length<=k/\∀x∈w,x∈M.ps
theorem QO{N:Net}(ok:N.Ok){w:r_ Str}(d:w.length<=1000)(h:∀x∈w,x∈N.ps):DC^.tup^w.map .str:=by
 let#[a,b,c]:=EB ok h;exact#[a,by show Be _<=160000; lk,by show CW _+1<=50; lk]
set_option tactic.hygienic true in
theorem thn.okN(a:okN N)(h:thn N b):okN #[N.ps,b]:=#[Ir a.1 h.1 h.2,a.2.1,by
 have:=sub_len (BF h.2) (BF a.1.qg) h.1
 have:=a.2.2
 grind]
set_option tactic.hygienic true in
theorem thn.qh(h:thn N a):qh N^enc #[N.ps,a]=p_:=qK.mpr #[a,rfl,h.1,h.2]
section
theorem Wk.cons{N:Net}{x y z:Str}{l d:Int}(e:Ed N x y l)(h:Wk N y z d):Wk N x z (l+d):=by
 induction h with
 |nil=>rw[Int.add_comm]; exact .snoc .nil e
 |snoc h f a=>rw[←Int.add_assoc]; exact .snoc a f
theorem U6(a:okN N)(h:b.Sublist N.ts):thn N b:=#[λt c=>h.subset c,a.1.qg.sublist h]
end
def U8:D->r_ Str
 |.tup a=>strsOf a
 |_=>[]
def Yj(M:Net)(a b:Str)(d:D):D:=match JU M d with
 |.int l=>if((U8 d).head?==P3 a&&(U8 d).getLast?==P3 b)=p_ then .int l else .non
 |_=>.non
def QN(M:Net)(t b:Int)(u:An)(d:D):D:=match Yj M u.a u.b d with
 |.int l=>if l*b<=u.len*t then .non else .str "far"
 |_=>.str "way"
def IQ(w:Str)(k:Nat):D:=.tup [.str w,.int (k:Int)]
def PM(r:D)(P:D->Nat->Prop)(a:PX)(n:Nat):Prop:=match r with
 |.tup [.str w,.int k]=>a "NoPaper" ["word","number"] [.str w,.int k] n
 |_=>P (.bl p_) n
def KP(d:D):Prop:=qY (10 ^ 41) d/\BY d<=200000/\Ct d<=90
def cM:W2:=λc n P=>∃(M:Net) (a b:Str) (d:D),c=[.sh^enc M,.sh^.str a,.sh^.str b,.sh d]/\okN M/\DC d/\P (Yj M a b d) n
def Xd:W2:=λa n P=>∃(M:Net) (t b:Int) (u:An) (d:D),a=[.sh^enc M,.sh^.tup [.int t,.int b],.sh^AR u,.sh d]/\okN M/\SO t b/\DC d/\P (QN M t b u d) n
def ZY:W2:=λb n P=>∃(a:Ch) (w:Str) (k:Int),b=[.ex a "NoPaper" ["word","number"] [.str w,.int k]]/\P (.tup [.str w,.int k]) n
def Ui:W2:=λc n P=>∃(M:Net) (a b:Str),c=[.sh^enc M,.sh^.str a,.sh^.str b]/\okN M/\a∈M.ps/\b∈M.ps/\2<=M.ps.length/\∀(x:Str) (r:r_ Str),(x::r).length<=M.ps.length->(∀y∈x::r,y∈M.ps)->P (R_ (x::r)) n
abbrev Xh:W2:=Um 4
theorem Kq(M:Net)(d:D):JU M d=.non\/∃(x:Str) (r:r_ Str) (l:Int),d=R_ (x::r)/\JU M d=.int l:=by
 cases d with
 | tup g=>
  by_cases b:g.all Cg=p_
  .let#[a,rfl]:=F8 b
   have e:JU M^.tup^a.map .str=Q4 M a:=by
    show(if(a.map D.str).all Cg then Q4 M^strsOf^a.map .str else .non)=_;rw[if_pos b,Bo]
   rw[e];cases a with
   |nil=>exact .inl rfl
   | cons x r=>
    show(if x∈M.ps then Nt.J7^EH M.ts x r 0 else .non)=.non\/_
    by_cases f:x∈M.ps
    .rw[if_pos f]
     cases c:EH M.ts x r 0 with
     |none=>exact .inl rfl
     |some l=>exact .inr #[x,r,l,rfl,by show(if x∈M.ps then Nt.J7^EH M.ts x r 0 else .non)=_; rw[if_pos f,c]; rfl]
    simp_all
  .exact .inl^if_neg b
 |_=>exact .inl rfl
theorem Q7(M:Net)(a b:Str)(d:D):Yj M a b d=.non\/∃l,Yj M a b d=.int l:=by
 unfold Yj
 split
 .split
  .grind
  grind
 grind
theorem DN(h:DC^.tup a)(hd:d∈a):DC d:=by
 have b:Be a<=160000:=h.2.1;have c:CW a+1<=50:=h.2.2
 have:=LS hd
 have:=qJ.mp (On _) d hd
 exact#[qz.mp h.1 d hd,by lk,by lk]
section
theorem KS(M:Net)(t b:Int)(u:An)(d:D):QN M t b u d=.non\/∃w,QN M t b u d=.str w:=by
 unfold QN
 split
 .split
  .exact .inl rfl
  simp_all
 simp_all
theorem bJ(d e:D):jF ("word":Str)^(["word","number"]:r_ Str).zip [d,e]=P3 d:=rfl
theorem bH(d e:D):jF ("number":Str)^(["word","number"]:r_ Str).zip [d,e]=P3 e:=by simp[jF]; rw[show(("number":Str)=="word")=q_ by cbv]
end
end Nt
namespace L2
open PySem.AutoSeq1 (wpAny_loadPart')
theorem Uy(t:Ch)(items:Array Db)(n:Nat)(x:Db)(e:Db->Bool)(j:Nat)(hj:j<items.size)(hit:e items[j]=p_)(hno:∀m (hm:m<items.size),m<j->e items[m]=q_)
  (hl:s.heap.get? t=P3 {cls:=.type "tuple",dict:=o_,data:=.seq items n,slots:=#[]}) (he:∀y,y∈items->PySem.SeqAt.EqAt A.in1 s y x^e y)
  (h:R (.ok^.ret^.int (j:Int) s.toks) {s with toks:=s.toks+1}):
  wpAny (model prog w) A.in1 (iU.«tuple.index» #[[.ref t,x],[]]) (λfin s'=>match fin with|.done f=>R (.ok f) s'|.again c'=>c'.quiet=p_/\codeAny (model prog w) A c' R s') (λe s'=>R (.error e) s') s:=by
 let#[hp,g,d,tk,os]:=s
 wp_walk using h7 hl
 have go:∀(Q:s_ _×Unit->Go->Prop) (E:Db->Go->Prop),(∀r,Q (P3 r,()) #[hp,g,d,tk+1,os]\/True)->∀(k i:Nat),i<=j->i+k=items.size->
   (∀r:Fin,r=.done^.ret^.int (j:Int) tk->Q (P3 r,()) #[hp,g,d,tk+1,os])->
   wpAny (model prog w) A.in1 (forIn (List.range' i k 1) ((o_:s_ Fin),()) (fun(i:Nat) __s=>match items[i]? with
      | some y=>do
       let __do_lift ←eqBool y x
       if __do_lift=p_ then do
         let __do_lift ←retInt (i:Int)
         pure (ForInStep.done (P3 __do_lift,()))
        else pure^i_ (o_,())
      |x=>pure^i_ (o_,()))) Q E #[hp,g,d,tk,os]:=by
  intro Q E _ k
  induction k with
  |zero=>intro i h1 h2; lk
  | succ k ih=>
   intro i h1 h2 hQ;have hlt:i<items.size:=by lk
   rw[List.range'_succ,kU];have hi:items[i]?=P3 items[i]:=ja hlt;simp only[hi];refine Cn^Cn^he _ (mS hlt) prog w _ _ ?_
   by_cases c:i=j
   .subst c
    rw[hit]
    wp_walk
    exact hQ _ rfl
   .rw[hno i hlt^by lk]
    wp_walk
    exact ih (i+1) (by lk) (by lk) hQ
 show wpAny (model prog w) A.in1 (forIn [:min items.size items.size] ((o_:s_ Fin),()) _) _ _ _;rw[Std.Legacy.Range.forIn_eq_forIn_range']
 have er:List.range' (Std.Legacy.Range.start [:min items.size items.size]) (nI [:min items.size items.size])^Std.Legacy.Range.step [:min items.size items.size]=List.range' 0 items.size 1:=by
  simp[nI]
 rw[er];refine go _ _ (λ_=>.inr trivial) items.size 0 (T0 _) (Nat.zero_add _) λr er=>?_;subst er;exact Sc h
section
variable {X:Cx}
def aT:V->r_ V->Hp->VK->Prop:=λx g H Q=>∃(a:Ch) (c:r_ V) (y:V) (b:r_ jv) (d:jv) (j:Nat),x=.ref a/\g=[y]/\H a=P3^.tup c/\RVs H b c/\RV H d y/\ip b=p_/\d.canLay0=p_/\d.depth<=100 /\
 (∃e,b[j]?=P3 e/\g8 e d=p_)/\(∀m f,m<j->b[m]?=P3 f->g8 f d=q_)/\Q (.int (j:Int)) H
theorem Yg(O:qj k X.A):Zk X "tuple.index" aT:=by
 intro P s S H x vs v us Q I T U h;let#[l,V,y,b,d,j,rfl,rfl,W,f,Y,C,Z,dd,#[dj,hj,a0],g,q]:=h;subst T;let#[u,rfl,ru]:=U.one;let#[z,a,r,#[#[a1,dt,D,sl],e,E,n,G,J,K]]:=(show qv X.prog X.w H s.heap l^.tup V from I.hok l _ W);simp only at E G J K;subst E G J K;let#[as,ra]:=RVs.reads I f r;let#[bs,rb]:=RV.reads I Y ru;have L:=PySem.SeqAt.readsAll_map b a as C ra;have M:b.length=a.length:=by simp only[←L,No]
 have hu:=O.un;have N:min (iF b) d.depth<=d.depth:=lB _ _
 have i:∀m o,b[m]?=P3 o->∀(h:m<a.toArray.size),PySem.SeqAt.readOf s.heap a.toArray[m]=o:=λm o e h=>by
  rw[←L,fo]at e;have h':m<a.length:=by simpa using h
  simp_all
 have a2:j<a.length:=by grind
 have p:=Uy (prog:=X.prog) (w:=X.w) (A:=X.A) (R:=wants (EP X P S Q) X.xe) l a.toArray n u (λy=>g8 (PySem.SeqAt.readOf s.heap y) d) j (by lk) (by simp_all) (λm t B=>by
  have c:m<b.length:=by simp_all
  rw[i m b[m] (FM c) t];exact g m b[m] B (FM c)) e (PySem.SeqAt.items_eqAt (vs:=a.toArray) (by lk) rb C Z^by lk) #[.int j,H,I.tok _,#[_,rfl],q]
 exact i8^jb PySem.F.slot_tuple_index.plain PySem.F.entry_tuple_index^PySem.F.slot_tuple_index.check _ _ _ _ _ _ _ _ #[_,e,rfl] (PySem.F.args_tuple_index_2 _ _) p
def dH(r:V->r_ V->Hp->VK->Prop)(e:TE)(t:TA):TE:=λc H Q=>e c H λx d=>(∃a b,x=.ref a/\d a=P3^.tup b)/\t c d λb H2=>r x b H2 Q
theorem YT{l:String}(j:Slot "tuple" name l)(p:typeOf^.builtin l=pure^.type "method_descriptor")(C:Zk X l r)(D:PE X o w)(E:PA X (e::f) t)
  (g:attributeBase o name X.env^eval o X.env=eval o X.env:=by rfl)
  (k:((backTo c^starEach (e::f) X.env).all (λx=>!x.1)&&(backToKw c^keywordEach [] X.env).all (λx=>x.1.isSome)
   && decide ((e::f).length+([]:r_ jf).length+(if([]:r_ jf).isEmpty then 0 else 1)<30))=p_:=by rfl)
  (i:(d.endLine==c.line)=p_:=by rfl) (G:starEach (e::f) X.env=(q_,eval e X.env)::starEach f X.env:=by rfl) (m:(backTo c^starEach f X.env).any (·.1)=q_:=by rfl):
  PE X (.Call (.Attribute o name d) (e::f) [] c) (dH r w t):=by
 intro q s u H Q I h;refine wpAny_Call_method_late g k i rfl (thn (D q s u H _ I h) λv J zz=>?_);let#[x,K,y,A,#[a,xs,ex,L],M]:=zz;subst ex;have N:v=fj a:=A;subst N;let#[z,O,_,o,P,R,n,e3,e4,e5]:=(y.hok a _ L);refine#["tuple",l,PySem.F.plainAttrs_tuple,j,p,#[o,P,R],λb eb=>by simp_all,?_];have B:=E c q J u K _ y M;rw[G]at B ⊢;refine jH (by grind)^kG ?_;refine thn B λS T zz=>?_;let#[U,H2,W,Y,Z]:=zz;exact C q T u H2 (.ref a) U (.ref a) S Q W A Y Z
end
end L2
namespace Dp
open L2
section
variable {X:Cx}{zU:Kd}{a e:Expr}{es:r_ Expr}{wa:DW}{ws:Dq}
def bY(d:D)(c:r_ D)(P:D->Prop):Prop:=∃(b:r_ D) (y:D) (j:Nat),d=.tup b/\c=[y]/\Bz^.tup b/\Bz y/\(∃x,b[j]?=P3 x/\Dt x y=p_)/\(∀m x,m<j->b[m]?=P3 x->Dt x y=q_)/\P^.int (j:Int)
def c0(c:DW)(ws:Dq):DW:=λn b P=>c n b λd e=>(∃f,d=.tup f)/\ws e b λg h=>bY d g λz=>P z h
theorem b8{K:Frag}:eY K .sh "tuple" aT bY:=by
 intro U M H d F x G P Q k I l n w q;let#[h,y,j,rfl,rfl,#[o,r,_],#[s,t,u],#[J,b,c],f,w]:=w;let#[v,rfl,z]:=DY n;let#[a,A,rfl,B,C]:=l.tup
 have g:∀(m:Nat) (p:jv),(BB h)[m]?=P3 p->∃x,h[m]?=P3 x/\p=toPy x:=λm p e=>by
  simp only[DQ,fo]at e;let#[x,i,rfl]:=gY.mp e
  simp_all
 refine#[a,A,v,_,_,j,rfl,rfl,B,C.rv o,z.rv s,r,t,u,#[_,by simp only[DQ,fo,b]; rfl,c],λm p D e=>?_,q _ H (.int j) .refl rfl w];let#[E,i,rfl]:=g m p e;exact f m E D i
theorem MC(G:qj k X.A)(I:DE X a zU wa)(J:Ur X (e::es) ws)
  (h:attributeBase a "index" X.env^eval a X.env=eval a X.env:=by rfl)
  (j:((backTo b^starEach (e::es) X.env).all (λx=>!x.1)&&(backToKw b^keywordEach [] X.env).all (λx=>x.1.isSome)
   && decide ((e::es).length+([]:r_ jf).length+(if([]:r_ jf).isEmpty then 0 else 1)<30))=p_:=by rfl)
  (i:(f.endLine==b.line)=p_:=by rfl) (s:starEach (e::es) X.env=(q_,eval e X.env)::starEach es X.env:=by rfl) (c:(backTo b^starEach es X.env).any (·.1)=q_:=by rfl):
  DE X (.Call (.Attribute a "index" f) (e::es) [] b) .sh (c0 wa ws):=by
 let#[t,K,L]:=I;let#[u,N,O]:=J;refine#[_,YT PySem.F.slot_tuple_index PySem.F.type_tuple_index (Yg G) K N h j i s c,λC M H n y B P Q R w q=>?_];refine L C M H n y B _ _ R w λx S d T o U W p=>?_;have r:=R.step o U;have D:=W.qw R.dom R.vM;let#[#[Y,rfl],p]:=p;refine#[by let#[a,Z,rfl,hn,s]:=D.tup; exact#[a,Z,rfl,hn],?_];refine O C M S T y B _ _ r p λvs H2 ds n2 l E r2 p2=>?_;have m:=r.step l E;refine b8 C.V M H2 (.tup Y) ds x vs _ _ m.dom m.vM (D.qq (r.qq l) l R.uV) r2 p2 λv H3 z g vr pz=>?_;exact q v H3 z n2 ((o.trans l).trans g.ext) (E.grow g) (VR.back (o.trans l) vr) pz
end
end Dp
namespace Nt
open L2 Dp
def Nz:D->Bool
 |.int i=>decide (0<=i)
 |_=>q_
def Zv(N:Net):D->Bool
 |.tup a=>((a.length:Int)==(N.ps.length:Int))&&a.all Nz
 |_=>q_
def dW:D->Int
 |.int i=>i
 |_=>0
def ER(N:Net)(b:r_ D)(a:Str):Int:=dW^(BI (N.ps.map .inr) b^.inr a).getD .non
def Dn(i:Int):Int:=if i<0 then -i else i
def FZ(N:Net):D->Bool
 |.tup c=>Zv N^.tup c&&N.ts.all λt=>decide (Dn (ER N c t.a - ER N c t.b)<=t.len)
 |_=>q_
def Di(m:Int):s_ Int->Int
 |some d=>if d<m then d else m
 |none=>m
def WR:W2:=λa n P=>∃(N:Net) (d:D),a=[.sh^enc N,.sh d]/\okN N/\P (.bl^Zv N d) n
def eT:W2:=λd n P=>∃(N:Net) (c:r_ D) (a b:Str),d=[.sh^enc N,.sh^.tup c,.sh^.str a,.sh^.str b]/\okN N/\c.length=N.ps.length/\(∀x∈c,Nz x=p_)/\a∈N.ps/\b∈N.ps/\P (.int^Dn (ER N c a - ER N c b)) n
def cN:W2:=λa n P=>∃(N:Net) (d:D),a=[.sh^enc N,.sh d]/\okN N/\P (.bl^FZ N d) n
def Ug:W2:=λa n P=>∃(N:Net) (s:Str) (m:Int),a=[.sh^enc N,.sh^.str s,.sh^.int m]/\okN N/\s∈N.ps/\∀F:MU,Told N s F->P (.tup (N.ps.map λx=>.int (Di m ((F x).map (·.1))))) n
theorem PC:∀{b:r_ Key}{a:r_ D}{k:Key}{z:D},BI b a k=P3 z->z∈a
 |[],_,k,z,h=>by cases h
 |_::_,[],k,z,h=>by cases h
 |e::b,d::a,k,z,h=>by
  have c:(if e=k then P3 d else BI b a k)=P3 z:=h
  split at c
  .grind
  .exact TM _^PC c
theorem LP:∀{b:r_ Str}{c:r_ D}{j:Nat}{a:Str},b.Nodup->b[j]?=P3 a->BI (b.map .inr) c^.inr a=c[j]?
 |[],c,j,a,_,h=>by simp at h
 |p::b,[],j,a,_,h=>by rfl
 | p::b,x::c,j,a,d,h=>by
  rw[gF]at d;show(if iS p=.inr a then P3 x else BI _ c _)=_;cases j with
  |zero=>
   simp_all
  |succ j=>
   rw[if_neg λz=>d.1 (by simp only[im z]; exact gZ h),LP d.2 h];simp
theorem ge_int(h:Nz d=p_):∃i,d=.int i/\0<=i:=by
 cases d with
 |int i=>exact#[i,rfl,of_decide_eq_true h]
 |_=>cases h
theorem IH(h:rising c):c.Nodup:=List.Pairwise.imp (λ{a b} z e=>by grind) h
theorem SK(f:b.length=N.ps.length)(d:∀x∈b,Nz x=p_)(e:a∈N.ps):BI (N.ps.map .inr) b^.inr a=P3^.int^ER N b a:=by
 let#[z,c]:=Gu (ds:=b) (by simp_all)^Rs.mpr #[a,e,rfl];let#[i,rfl,_]:=ge_int^d z^PC c;unfold ER;rw[c];rfl
section
theorem XH(b:okN N){d:r_ D}(k:d.length=N.ps.length)(l:∀x∈d,Nz x=p_)(f:a∈N.ps):∃j:Nat,d[j]?=P3^.int^ER N d a/\Bz^.tup^N.ps.map .str/\Bz^.str a/\(∃x,(N.ps.map D.str)[j]?=P3 x/\Dt x^.str a=p_)/\∀(m:Nat) (x:D),m<j->(N.ps.map D.str)[m]?=P3 x->Dt x^.str a=q_:=by
 have g:=IH b.1.rise;let#[j,h]:=jN.mp f;refine#[j,by rw[←LP g h,SK k l f],Cq b.1.names,?_,#[.str a,by simp_all,by simp only[FE,beq_self_eq_true]],λm x r i=>?_]
 .exact Bb (B:=0) (by cbv) (λc n=>by have:=(b.1.names a f).2.2 c n; lk)^T0 _
 .rw[fo]at i
  let#[y,o,rfl]:=gY.mp i;rw[FE,beq_eq_false_iff_ne];intro e;subst e;let#[s,p]:=XV.mp o;let#[t,q]:=XV.mp h
  have:=(List.getElem_inj g).mp^p.trans q.symm
  lk
theorem Pb:∀{a:r_ Str}{b:r_ D},a.length=b.length->Qg^jm (λp x=>D.tup [.str p,x]) a b=P3 (a.map .inr,b)
 |[],[],_=>rfl
 |p::a,x::b,h=>by
  show(match keyOf _,Qg _ with|some _,P3 q=>P3 _|_,_=>o_)=_;rw[Pb^by simpa using h];rfl
end
theorem Oy(a:0<=m)(b:∀d,o=P3 d->0<=d):0<=Di m o/\Di m o<=m:=by
 cases o with
 |none=>exact#[a,je _]
 |some d=>
  show 0<=(if d<m then d else m)/\(if d<m then d else m)<=m
  grind
end Nt
namespace Dp
open L2
mutual
def flat:D->Bool
 |.tup ds=>T5 ds
 |.lst _=>q_
 |.dic _ _=>q_
 |.fdi _ _=>q_
 |.dit _ _=>q_
 |_=>p_
def T5:r_ D->Bool
 |[]=>p_
 |d::ds=>flat d&&T5 ds
end
section
variable {K:Frag}{M M':Addr->Prop}{H:Hp}
mutual
theorem Px:∀(d:D) {v:V},flat d=p_->At K M H d v->At K M' H d v
 |.non,_,_,h=>h
 |.bl _,_,_,h=>h
 |.int _,_,_,h=>h
 |.str _,_,_,h=>h
 |.tup ds,_,f,#[a,vs,e,n,h]=>#[a,vs,e,n,NT ds f h]
 |.lst _,_,f,_=>by cases f
 |.dic _ _,_,f,_=>by cases f
 |.fdi _ _,_,f,_=>by cases f
 |.dit _ _,_,f,_=>by cases f
theorem NT:∀(ds:r_ D) {vs:r_ V},T5 ds=p_->Ats K M H ds vs->Ats K M' H ds vs
 |[],_,_,h=>h
 |d::ds,_,f,#[v,r,e,h,hs]=>#[v,r,e,Px d (ZB _ _▸f:_/\_).1 h,NT ds (ZB _ _▸f:_/\_).2 hs]
end
end
def We(i:Nat)(w:DW):DW:=λn a P=>∃d,a[i]?=P3^.ow d/\w n (a.set i^.sh d) λy b=>flat y=p_/\P y b
theorem WC(i:Nat)(h:DE X e .sh w):DE X e .sh^We i w:=by
 let#[t,j,k]:=h;refine#[t,j,λC M H n N l P Q R #[d,c,o] q=>?_];let#[a,s,m,O,tp]:=R.sl i _ c;have u:=R.freeze c s;refine k C _ H n _ l _ _ u o λv z y A B D E zz=>?_;let#[F,p]:=zz;refine q v z y A B ?_ (Px y F E) p;intro f g;let#[x,r,b,G,I,J,K]:=D f g;let#[_,_,_,_,_,L,_]:=R.feed f g;exact#[x,r,b,G,I,#[L.1,J.2],K]
end Dp
set_option maxHeartbeats 400000
namespace Dp
open L2
def c8(i j:Nat)(b:Dq):AZ:=λc n a=>b n a λf g=>∃d e,f=[d,e]/\c.nx g^(a.set i^.sh d).set j^.sh e
theorem Y6{kt k2 pt2}(l:X.calm=p_)(m:X.N.Nodup)(o:X.N[i]?=P3 x)(q:X.N[j]?=P3 y)(g:i≠j)
  (hx:X.env.scope.names.lookup x=P3 .local) (s:X.env.scope.names.lookup y=P3 .local) (z:WW X [a,b] h)
  (A:swappedStores [.Tuple [.Name x c,.Name y f] kt pt] (.Tuple [a,b] k2 pt2) X.env=pure^P3 [x,y])
  (B:swapsWithSole [.Tuple [.Name x c,.Name y f] kt pt] (.Tuple [a,b] k2 pt2) pos.line X.env=pure q_:=by rfl):DS X k (.Assign [.Tuple [.Name x c,.Name y f] kt pt] (.Tuple [a,b] k2 pt2) pos)^c8 i j h:=by
 let#[t,D,F]:=z;refine#[_,YO l m o q g hx s D A B,λC M H n G I W E R L w=>?_];refine F C M H n G I _ _ R w λY J Z K O P Q p=>?_;let#[d,e,rfl,p]:=p;let#[u,r,rfl,S,v,T,rfl,U,V]:=Q;cases(show T=[]from V);exact#[u,v,rfl,L.nx M J K _ _ (((R.step O P).set S).set U) p]
end Dp
namespace Nt
open L2 Dp
abbrev Kb(t b:Int):D:=.tup [.int t,.int b]
def LY(k:Nat)(A:Net)(t b:Int)(u:An)(c:D):Prop:=
 (C6 A t b u=q_/\∃p:r_ Int,c=.tup [.str "in",.tup^p.map .int]/\(∀x∈p,x<=10 ^ 29)/\FZ A^.tup^p.map .int=p_/\u.len*t<Dn (ER A (p.map .int) u.a - ER A (p.map .int) u.b)*b) \/
 (C6 A t b u=p_/\∃(w:r_ Str) (d:Int),c=.tup [.str "out",R_ w]/\Uv k A u.a u.b w d/\d*b<=u.len*t)
def zw(k:Nat)(N:Net)(t b:Int):r_ An->r_ An->r_ D->Prop
 |_,[],[]=>True
 |a,u::r,c::d=>LY k (sub N a) t b u c/\zw k N t b (Aw N t b a [u]) r d
 |_,_,_=>False
theorem zw.len:∀{kept a:r_ An}{c:r_ D},zw k N t b kept a c->c.length=a.length
 |_,[],[],_=>rfl
 |_,u::a,r::c,h=>by simp only[eq,eq,zw.len h.2]
 |_,[],_::_,h=>h.elim
 |_,_::_,[],h=>h.elim
theorem EI:∀(c:r_ An) {a r:r_ An},Aw N t b a (c++r)=Aw N t b (Aw N t b a c) r
 |[],_,_=>rfl
 |u::c,a,r=>by
  simp only[jn,Df,Df]
  split <;>exact EI _
section
variable {N:Net}{t b:Int}{pre post:r_ An}{u:An}
theorem Tj(nd:(pre++u::post).Nodup):u∈Aw N t b [] (pre++u::post)↔C6 (sub N^Aw N t b [] pre) t b u=q_:=by
 let#[_,c,a]:=gg.mp nd;have d:u∉Aw N t b [] _:=λz=>((CS).2 u z).elim (λz=>absurd z ft) λz=>a u z u Op rfl;simp only[EI,Df];cases e:C6 _ t b u with
 |true=>
  refine#[λz=>?_,λz=>by cases z]
  rcases(CS).2 u z with z|z
  .grind
  simp_all
 |false=>
  exact#[λ_=>rfl,λ_=>(CS).1 u^f8 _ (Re.mpr rfl)]
theorem Rj(nd:(pre++u::post).Nodup)(f:Cw (pre++u::post)):(v∈Aw N t b [] (pre++u::post)/\A6 (Ba v)^Ba u=p_)↔v∈Aw N t b [] pre:=by
 let#[_,i,g]:=gg.mp nd;let#[_,j,h]:=kH.mp f;constructor
 .rintro⟨a,c⟩
  rw[EI]at a
  rcases(CS (rest:=u::post)).2 v a with z|z
  .exact z
  .rcases TW.mp z with rfl|z
   .rw[Bn]at c; cases c
   simp_all
 .intro a
  have d:v∈pre:=((CS (rest:=pre)).2 v a).elim (λz=>absurd z ft) id;refine#[by rw[EI]; exact(CS (rest:=u::post)).1 v a,?_];cases e:A6 (Ba v)^Ba u with
  |true=>rfl
  |false=>exact absurd (JB^B8 _ _ e^h v d u Op)^g v d u Op
theorem Ri(nd:(pre++u::post).Nodup)(a:Cw (pre++u::post)):(#[(sub N^Aw N t b [] (pre++u::post)).ps,(sub N^Aw N t b [] (pre++u::post)).ts.filter λv=>A6 (Ba v)^Ba u]:Net)=sub N^Aw N t b [] pre:=by
 unfold sub
 congr 1
 rw[List.filter_filter];refine List.filter_congr λv _=>?_;rw[hX,ZB,decide_eq_true_eq,decide_eq_true_eq,and_comm];exact Rj nd a
end
def J1:W2:=λa n P=>∃(M:Net) (u:An),a=[.sh^enc M,.sh^AR u]/\okN M/\P (enc #[M.ps,M.ts.filter λv=>A6 (Ba v)^Ba u]) n
def LJ:W2:=λa n P=>∃t b l:Int,a=[.sh^Kb t b,.sh^.int l]/\SO t b/\P (.int (l*t / b+1)) n
def Rm:W2:=λd n P=>∃(N:Net) (t b:Int),d=[.sh^enc N,.sh^Kb t b]/\okN N/\SO t b/\∀(a:r_ An) (c:r_ D),a.Perm N.ts->Cw a->zw 30 N t b [] a c->P (.tup c) n
def bQ:AZ:=(BV (CY 5^A1 J1^AI (AU^AH 2)^AI (AU^AH 4) A5)
 (CZ (Au^Am (L4 q_) (AH 4)^Am CV (AH 2)^wC^D.int 1) (Rt 3 "list" Hz^AM (Bs^AM (wC^D.str "in")^AM (A1 Ug^AI (AU^AH 5)^AI (AU^Am CV (AH 4)^wC^D.int 0)^AI (AU^A1 LJ^AI (AU^AH 1)^AI (AU^Am CV (AH 4)^wC^D.int 2) A5) A5) Ad) Ad)^Rt 3 "list" Hz^AM (Bs^AM (wC^D.str "out")^AM (A1 cE^AI (AU^AH 5)^AI (AU^Am CV (AH 4)^wC^D.int 0)^AI (AU^Am CV (AH 4)^wC^D.int 1) A5) Ad) Ad))
theorem L0(h:FZ M^.tup a=p_):a.length=M.ps.length/\∀x∈a,Nz x=p_:=by
 have h:=(ZB _ _▸h).1;have h:=ZB _ _▸h
 grind
theorem MX(ok:M.Ok)(h:Wk M x y d):Wk M y x d:=by
 induction h with
 |nil=>exact .nil
 |snoc _ a b=>
  let#[t,c,rfl,e]:=a.tie ok;let#[f,g]:=L7 c;rw[Int.add_comm];refine Wk.cons ?_ b
  grind
theorem IJ(g:Str->Int)(b:a∈N.ps):ER N ((N.ps.map g).map .int) a=g a:=by
 unfold ER;rw[g9,IC,if_pos b];rfl
theorem RN(ok:M.Ok)(g:Str->Int)(c:∀x∈M.ps,0<=g x)(h:∀t∈M.ts,Dn (g t.a - g t.b)<=t.len):FZ M^.tup^(M.ps.map g).map .int=p_:=by
 show(((((M.ps.map g).map _).length==(M.ps.length:Int))&&((M.ps.map g).map _).all _)&&M.ts.all _)=p_;rw[No,No,beq_self_eq_true,ZB];refine#[gI.mpr λd e=>?_,gI.mpr λt f=>?_]
 .let#[i,j,rfl]:=Rs.mp e
  let#[x,k,rfl]:=Rs.mp j;exact decide_eq_true^c x k
 .let#[l,m,_]:=ok.tin t f
  simp only[IJ g l,IJ g m]
  simp_all
theorem Lz(ok:M.Ok)(h:cY M s x o):∀d,o=P3 d->0<=d:=λd e=>by
 simp only[e]at h;exact(h).1.pos ok
theorem Ox(ok:M.Ok){G:Kn}(h:∀x,cY M s x^G x)(i:t∈M.ts):Dn (Di m^G t.a - Di m^G t.b)<=t.len:=by
 let#[_,_,_,C,_]:=ok.tin t i;let#[u,v]:=L7 i
 have j:∀{y z:Str}{l:Int},Ed M y z l->∀d,G y=P3 d->∃c,G z=P3 c/\c<=d+l:=λ{y z l} w d e=>by
  have k:=h y;simp only[e]at k;have n:Wk M s z (d+l):=Wk.snoc (show qF M s y d from k).1 w;have f:=h z;cases o:G z with
  |none=>simp only[o]at f; exact absurd n^f _
  |some c=>simp only[o]at f; exact#[c,rfl,(show qF M s z c from f).2 _ n]
 have A:=j u;have B:=j v;cases p:G t.a with
 |none=>
  cases g:G t.b with
  |none=>unfold Dn Di; split <;>lk
  |some b=>simp_all
 | some a=>
  cases g:G t.b with
  |none=>simp_all
  |some b=>
   let#[D,q,E]:=A a p;rw[g]at q; cases q
   let#[F,r,H]:=B b g;rw[p]at r; cases r
   show(if(if a<m then a else m) - (if b<m then b else m)<0 then -((if a<m then a else m) - (if b<m then b else m))else(if a<m then a else m) - (if b<m then b else m))<=t.len
   split <;>split <;>split <;>lk
theorem Yu(j:okN A)(K:SO t b)(B:u.a∈A.ps)(C:u.b∈A.ps)(p:0<=u.len)(q:C6 A t b u=q_)(r:(s=u.a/\y=u.b)\/(s=u.b/\y=u.a)){G:Kn}(i:∀x,cY A s x^G x)(g:0<=m)(D:m<=10 ^ 20)(w:u.len*t<m*b)(L:0<=more)(M:more<=10 ^ 28):LY k A t b u^.tup [.str "in",.tup^(A.ps.map λx=>more+Di m^G x).map .int]:=by
 have ok:=j.1;refine .inl #[q,_,rfl,λx E=>?_,RN ok _ (λx _=>?_) λv F=>?_,?_]
 .let#[z,_,rfl]:=Rs.mp E
  have:=(Oy g^Lz ok^i z).2
  show more+Di m^G z<=_;lk
 .have:=(Oy g^Lz ok^i x).1
  show 0<=more+Di m^G x;lk
 .have:=Ox ok i (m:=m) F
  rw[show more+Di m^G v.a - (more+Di m^G v.b)=Di m^G v.a - Di m (G v.b) by lk];exact this
 .rw [IJ _ B,IJ _ C]
  have f:Di m^G s=0:=by
   have h:=i s;cases e:G s with
   |none=>simp only[e]at h; exact absurd .nil^h 0
   |some d=>
    simp only[e]at h;have h:qF A s s d:=h;have H:d=0:=Int.le_antisymm (h.2 0 .nil)^h.1.pos ok;subst H;show(if(0:Int)<m then 0 else m)=0
    split <;>lk
  have l:u.len*t<Di m^G y*b:=by
   have h:=i y;cases e:G y with
   |none=>exact w
   | some d=>
    simp only[e]at h;have h:qF A s y d:=h;show _<(if d<m then d else m)*b
    split
    .refine jc λc=>?_
     have:C6 A t b u=p_:=qS.mpr #[d,?_,by lk]
     .rw[q]at this; cases this
     .rcases r with⟨rfl,rfl⟩|⟨rfl,rfl⟩
      .exact h
      .exact#[MX ok h.1,λI n=>h.2 I^MX ok n]
    .exact w
  have J:0<=Di m^G y:=(Oy g^Lz ok^i y).1
  have o:Dn (more+Di m^G u.a - (more+Di m^G u.b))=Di m^G y:=by
   rcases r with⟨rfl,rfl⟩|⟨rfl,rfl⟩
   .rw[f]; unfold Dn; split <;>lk
   .rw[f]; unfold Dn; split <;>lk
  rw[o];exact l
theorem zw.snoc{k:Nat}{N:Net}{t b:Int}{u:An}{d:D}:∀{c a:r_ An}{e:r_ D},zw k N t b a c e->LY k (sub N^Aw N t b a c) t b u d->zw k N t b a (c++[u]) (e++[d])
 |[],a,[],_,h=>#[h,trivial]
 |v::c,a,r::e,h,f=>#[h.1,zw.snoc h.2^by rw[←EI _]; exact f]
 |[],_,_::_,h,_=>h.elim
 |_::_,_,[],h,_=>h.elim
section
theorem Rh{l t b:Int}(a:1<=b):l*t<(l*t / b+1)*b:=Int.lt_ediv_add_one_mul_self _^by lk
end
end Nt
set_option maxHeartbeats 4000000
namespace Nt
open L2 Dp
abbrev Br(M:Net)(u:An):Net:=#[M.ps,M.ts.filter λv=>A6 (Ba v)^Ba u]
def Pg(M:Net)(t b:Int)(u:An)(d:D):D:=if FZ M d=p_ then(match d with
 |.tup c=>if Dn (ER M c u.a - ER M c u.b)*b<=u.len*t then .str "near" else .non
 |_=>.non)else .str "fair"
def Vo(M:Net)(t b:Int)(u:An):D->D
 |.tup [.str s,y]=>if decide (u∈M.ts)=(s=="in")then(if u∈M.ts then Pg (Br M u) t b u y else QN (Br M u) t b u y)else .str "word"
 |_=>.non
def CI:D->Bool
 |.tup [.str s,_]=>s=="in"||s=="out"
 |_=>q_
def EK(M:Net)(t b:Int):Nat->r_ An->r_ D->D
 |k,u::a,d::c=>match Vo M t b u d with
  |.str w=>IQ w k
  |_=>EK M t b (k+1) a c
 |_,_,_=>.non
def Y1(M:Net)(t b:Int)(a:r_ An):D->D
 |.tup c=>if c.length=a.length then(if c.all CI=p_ then EK M t b 0 a c else IQ "shape" 0)else IQ "shape" 0
 |_=>IQ "shape" 0
theorem IT(h:CI d=p_):∃(s:Str) (y:D),d=.tup [.str s,y]/\(s="in"\/s="out"):=by
 unfold CI at h
 split at h
 .grind
 .cases h
theorem Ql(M:Net)(t b:Int)(u:An)(d:D):Pg M t b u d=.non\/∃w,Pg M t b u d=.str w:=by
 unfold Pg
 split
 .split
  .split
   .grind
   simp_all
  simp_all
 simp_all
theorem RJ(M:Net)(t b:Int)(u:An)(d:D):Vo M t b u d=.non\/∃w,Vo M t b u d=.str w:=by
 unfold Vo
 split
 .split
  .split
   .exact Ql _ _ _ _ _
   .exact KS _ _ _ _ _
  simp_all
 simp_all
end Nt
namespace Dp
open L2
section
variable {K:Frag}{C:Fm}{M:Addr->Prop}{H:Hp}{n:Nat}{ρ:r_ Slot}{σ:L2.St}{a0 a1 a2:Addr}{A B:r_ D}
structure eX (K:Frag) (C:Fm) (M:Ch->Prop) (H:Hp) (n:Nat) (ρ:List Slot) (σ:L2.St) (a0 a1 a2:Ch) (A B:List D):Prop where
 r:Rel K C M H n (ρ++[.ow^.lst A,.ow^.lst B]) (σ++[P3^.ref a1,P3^.ref a2])
 l:ρ.length=σ.length
 o:H a0=P3 (.lst [.ref a1,.ref a2])
 m:¬M a0
variable (h:eX K C M H n ρ σ a0 a1 a2 A B)
include h
end
end Dp
namespace L2
end L2
namespace Dp
open L2
end Dp
namespace Nt
open L2 Dp
def Xe:W2:=λc n P=>∃(M:Net) (t b:Int) (u:An) (d:D),c=[.sh^enc M,.sh^Kb t b,.sh^AR u,.sh d]/\okN M/\SO t b/\u.a∈M.ps/\u.b∈M.ps/\P (Pg M t b u d) n
def Xf:W2:=λc n P=>∃(N:Net) (a:r_ An) (t b:Int) (u:An) (d:D),c=[.sh^Kb t b,.sh^enc #[N.ps,a],.sh^AR u,.sh d]/\okN N/\thn N a/\SO t b/\u∈N.ts/\CI d=p_/\DC d/\P (Vo #[N.ps,a] t b u d) n
def Xg:W2:=λa n P=>∃d:D,a=[.sh d]/\DC d/\P (.bl^CI d) n
def Uo(N:Net)(t b:Int)(d p:D)(Q:D->Prop):Prop:=okN N/\N.ps.length<=24/\SO t b/\KP d/\DC p/\(qh N d=q_\/(∀e,p≠.tup e)->Q^IQ "shape" 0)/\∀c a:r_ An,d=enc #[N.ps,c]->thn N c->a.Perm N.ts->Cw a->Q^Y1 #[N.ps,c] t b a p
def Ul:WX:=λa n P c=>∃(N:Net) (t b:Int) (d p:D),a=[.sh^enc N,.sh^Kb t b,.sh d,.sh p]/\Uo N t b d p λr=>PM r P c n
def dq:AZ:=(BV (CY 5^A1 J1^AI (AU^AH 1)^AI (AU^AH 2) A5)
 (CG^Zt (Au^AH 4) (A1 Xe^AI (AU^AH 5)^AI (AU^AH 0)^AI (AU^AH 2)^AI (AU^Am CV (AH 3)^wC^D.int 1) A5)^A1 Xd^AI (AU^AH 5)^AI (AU^AH 0)^AI (AU^AH 2)^AI (AU^Am CV (AH 3)^wC^D.int 1) A5))
def bR(a:PX):AZ:=(BV (CY 6^A1 Xf^AI (AU^AH 1)^AI (AU^AH 2)^AI (AU^AH 5)^AI (AU^Am CV (AH 3)^AH 4) A5)
 (CZ (Au^Am (L3 p_) (AH 6)^wC D.non) (λb=>(LO "NoPaper" ["word","number"]^AM (AH 6)^AM (AH 4) Ad) b a) Bm))
def IA(a:PX):AZ:=(BV (CZ (QQ (F5^Au^A1 Ud^AI (AU^AH 0)^AI (AU^AH 2) A5)^F5^Au^A1 Nv^AI (AU^Gr NV^AM (Am CV (AH 0)^wC^D.int 1) Ad)^AI (AU^AH 3) A5) (λb=>(LO "NoPaper" ["word","number"]^AM (wC^D.str "shape")^AM (wC^D.int 0) Ad) b a) Bm)
 (BV (CZ (F5^Au^Gr RP^AM (FP [o_] (Fc^AH 3) (Aq 0) Gp^A1 Xg^AI (AU^AH 0) A5) Ad) (λb=>(LO "NoPaper" ["word","number"]^AM (wC^D.str "shape")^AM (wC^D.int 0) Ad) b a) Bm)
 (BV (N5 (Wg^A1 O8^AI (AU^Am CV (AH 0)^wC^D.int 1) A5) (HE 2^BK (Aq 4)^BK (Aq 5) Eb)^bR a)
 (CG^wC^D.bl p_))))
theorem Lc(f:r_ An):∃e:r_ An,e.Perm f/\Cw e:=by
 refine#[f.mergeSort λs t=>!A6 _ _,List.mergeSort_perm _ _,(List.pairwise_mergeSort (λa b c i g=>?_) (λa b=>?_) f).imp λh=>by simpa using h]
 .simp at i g ⊢
  cases j:A6 _ _ with
  |false=>rfl
  |true=>
   cases d:A6 _ _ with
   |true=>rw[B7 _ _ _ j d]at g; cases g
   |false=>rw[B8 _ _ d i]at j; simp_all
 .cases c:A6 _ _ with
  |false=>rfl
  |true=>
   cases d:A6 _ _ with
   |false=>rfl
   |true=>have:=B7 _ _ _ c d; rw[Bn]at this; cases this
section
theorem Th(h:DC d):Bz d:=Bb (by cbv) h.1^by have:=h.2.2; lk
end
theorem Me:∀{d e:r_ An},d.map AR=e.map AR->d=e
 |[],[],_=>rfl
 |t::d,u::e,h=>by
  have c:AR t=AR u:=by injection h
  have j:d.map AR=e.map AR:=by injection h
  rw[Me j];let#[a,b,l]:=t;let#[k,m,n]:=u;unfold AR at c;injection c with c
  injection c with f c
  injection c with g c
  injection c with i _
  injection f with f
  injection g with g
  injection i with i
  subst f g i;rfl
theorem Lq:JU M^.tup [.str y,.str x]=if y∈M.ps then Nt.J7 ((look M.ts y x).map (0+·))else .non:=by
 show(if y∈M.ps then Nt.J7^EH M.ts y [x] 0 else .non)=_;unfold EH;cases look M.ts y x <;>rfl
def Zw(M:Net)(x:Str)(d:D):Bool:=!NP (JU M^.tup [d,.str x])
def ZM(M:Net)(K:Kn)(x:Str)(a:Int):D->Bool
 |.str y=>match K y,look M.ts y x with
  |some b,P3 l=>b+(0+l)==a
  |_,_=>q_
 |_=>q_
theorem O4{K:Kn}(c:K y=P3 a):ZM M K x b^.str y=match look M.ts y x with|some l=>a+(0+l)==b|none=>q_:=by
 show(match K y,look M.ts y x with|some a,P3 l=>a+(0+l)==b|_,_=>q_)=_;rw[c];cases look M.ts y x <;>rfl
theorem UX(ok:M.Ok){K:Kn}(T:vF M a K)(e:K x=P3 c)(h:x≠a):∃y b l,K y=P3 b/\look M.ts y x=P3 l/\b+l=c:=by
 let#[i,j]:=T.least x c e;cases i with
 |nil=>exact absurd rfl h
 | @snoc y _ d l w f=>
  have k:=T.all y d w;cases g:K y with
  |none=>exact absurd g k
  |some b=>
   let#[m,n]:=T.least y b g;exists y,b,l,g,Lp ok f
   have:=n d w
   have:=j _^.snoc m f
   lk
structure OwnI (M:Net) (K:Kn) (acc:List Str) (x:Str):Prop where
 lst:acc.getLast?=P3 x
 nd:acc.Nodup
 ins:∀u∈acc,u∈M.ps
 far:∀dx,K x=P3 dx->∀u∈acc,∃du,K u=P3 du/\dx<=du
theorem OwnI.step{K:Kn}(T:vF M a K)(J:OwnI M K c x)(ex:K x=P3 d)(f:K y=P3 i)(p:1<=l)(e:i+l=d):OwnI M K (c++[y]) y:=by
 have m:y∉c:=λh=>by
  let#[j,g,n]:=J.far d ex y h;rw[f]at g;cases g;lk
 refine#[by simp,gg.mpr #[J.nd,by simp,λu b v o=>by rw[Re.mp o]; exact λz=>m (z▸b)],λu b=>?_,λd' k u b=>?_]
 .rcases Uf.mp b with b|b
  .exact J.ins u b
  .rw[Re.mp b]; exact T.ins y^by rw[f]; simp
 .rw[f]at k
  cases k
  rcases Uf.mp b with b|b
  .let#[j,g,n]:=J.far d ex u b
   exact#[j,g,by lk]
  .rw[Re.mp b]; exact#[i,f,je _]
theorem KZ:∀{b:r_ Key}{c:r_ D}{k:Key}{d:D}{i:Nat},b.Nodup->b[i]?=P3 k->c[i]?=P3 d->BI b c k=P3 d
 |[],_,_,_,_,_,h,_=>by simp at h
 |_::_,[],_,_,_,_,_,h=>by simp at h
 |a::b,e::c,k,d,0,_,f,g=>by
  show(if a=k then P3 e else BI b c k)=P3 d;rw[if_pos^fu f];exact g
 |a::b,e::c,k,d,i+1,j,f,g=>by
  show(if a=k then P3 e else BI b c k)=P3 d;rw[if_neg λz=>(gF.mp j).1 (by rw[z]; exact gZ f)];exact KZ (gF.mp j).2 f g
theorem RF{K:Kn}(M:qP c f D.int K):B5 f=p_:=by
 rw[OW,gI];intro d j;let#[i,g]:=List.getElem?_of_mem j;have k:=(XV.mp g).1;have h:i<c.length:=by rw[M.len]; exact k
 let#[x,ex]:=M.dom _^gH h
 obtain⟨a,l⟩:∃a,d=.int a:=by
  have b:=KZ M.nd (by rw[FM h,ex]) g;rw[M.at_]at b;cases e:K x with
  |none=>rw[e]at b; cases b
  |some a=>rw[e]at b; exact#[a,(fu b).symm]
 rw[l];rfl
end Nt
set_option maxHeartbeats 400000
namespace Nt
open L2 Dp
def Mo(M:Net)(a:r_ An):Prop:=(∀v,v∈a↔v∈M.ts)/\a.length<=60
theorem Vg(ok:M.Ok)(h:∀v,v∈a↔v∈M.ts)(b:Ed M x y l):look a x y=P3 l:=by
 have c:∀q,q∈DK a x↔q∈DK M.ts x:=λq=>by
  unfold DK;rw[iH,iH];exact#[fun#[t,h1,h2]=>#[t,(h t).mp h1,h2],fun#[t,h1,h2]=>#[t,(h t).mpr h1,h2]]
 unfold look;cases e:(DK a x).find? λz=>decide (z.1=y)with
 |none=>exact absurd (List.find?_eq_none.mp e (y,l)^(c _).mpr b)^by simp
 |some q=>
  have d:q.1=y:=of_decide_eq_true^lW (p:=λz:Str×Int=>decide (z.1=y)) e;rw[Fo (Kl ok x) ((c _).mp^jd e) b d];rfl
end Nt
set_option maxHeartbeats 4000000
namespace Nt
open L2 Dp
def QI:W2:=λc n P=>∃(N:Net) (a:r_ An) (b d:D),c=[.sh^.tup [.tup^N.ps.map .str,b],.sh d]/\Fe b=P3^a.map AR/\Mo N a/\N.Ok/\N.ps.length<=26/\DC d/\P (JU N d) n
theorem Ko(h:look M.ts x y=P3 l):Ed M x y l:=by
 unfold look at h;cases c:(DK M.ts x).find? λz=>decide (z.1=y)with
 |none=>rw[c]at h; cases h
 |some z=>
  rw[c]at h;have a:=lW c;have b:=jd c;simp at h a;show(y,l)∈DK M.ts x;simp only[←a,←h];exact b
theorem look_same{M:Net}(ok:M.Ok)(h:∀v,v∈a↔v∈M.ts):look a x y=look M.ts x y:=by
 cases e:look M.ts x y with
 |some l=>exact Vg ok h^Ko e
 | none=>
  cases b:look a x y with
  |none=>rfl
  |some l=>
   have c:Ed #[M.ps,a] x y l:=Ko (M:=#[M.ps,a]) b;let#[t,d,f]:=iH.mp (show(y,l)∈DK a x from c)
   have:(y,l)∈DK M.ts x:=iH.mpr #[t,(h t).mp d,f]
   rw[Lp ok this]at e;cases e
theorem VA(h:Fe a=P3 b):a=.tup b\/a=.lst b:=by
 cases a with
 |lst _=>cases h; exact .inr rfl
 |tup _=>cases h; exact .inl rfl
 |_=>cases h
def Uk:W2:=λb n P=>∃(M:Net) (a:r_ An) (d:D),b=[.sh^.tup^M.ps.map .str,.sh^.lst^a.map AR,.sh d]/\okN M/\Mo M a/\DC d/\P (.bl^FZ M d) n
def OF(M:Net)(t b:Int)(u:An)(s:Str)(y:D):D:=if(s=="out")=p_ then QN M t b u y else Pg M t b u y
def QJ:W2:=λa n P=>∃(N M:Net) (t b:Int) (kept:r_ An) (u:An) (s:Str) (y:D),a=[.sh^enc N,.sh^Kb t b,.sh^.lst^kept.map AR,.sh^AR u,.sh^.tup [.str s,y]]/\okN N/\okN M/\M.ps=N.ps/\SO t b/\Mo M kept/\u∈N.ts/\DC y/\P (OF M t b u s y) n
def WU:W2:=λa n P=>∃(N:Net) (t b:Int) (d p:D),a=[.sh^enc N,.sh^Kb t b,.sh d,.sh p]/\Uo N t b d p λr=>P r n
def Yw:AZ:=(BV (CZ (QQ (F5^Au^Z_ "tuple"^AH 4)^Au^Am (Oo p_) (Gr NV^AM (AH 4) Ad)^wC^D.int 2) (CG^Bs^AM (wC^D.str "shape")^AM (wC^D.int 0) Ad) Bm)
 (CZ (Au^Am (L4 p_) (Gr NU^AM (Am CV (AH 4)^wC^D.int 0) Ad)^Bs^AM (wC^D.str "'in'")^AM (wC^D.str "'out'") Ad) (CG^Bs^AM (wC^D.str "shape")^AM (wC^D.int 0) Ad) Bm))
def bS:AZ:=(BV (CZ (Au^Am (Oo p_) (Am (Oo q_) (Am CV (Am CV (AH 3)^AH 6)^wC^D.int 0)^wC^D.str "in")^Am (L4 q_) (AH 7)^Am CV (AH 2)^wC^D.int 1) (CG^Bs^AM (wC^D.str "word")^AM (AH 6) Ad) Bm)
 (BV (CY 8^We 5^A1 QJ^AI (AU^AH 0)^AI (AU^AH 1)^AI (AU^AH 5)^AI (AU^AH 7)^AI (AU^Am CV (AH 3)^AH 6) A5)
 (BV (CZ (Au^Am (L3 p_) (AH 8)^wC D.non) (CG^Bs^AM (AH 8)^AM (AH 6) Ad) Bm)
 (CZ (Au^Am (L4 q_) (AH 7)^Am CV (AH 2)^wC^D.int 1) (Rt 5 "list" Hz^AM (AH 7) Ad) Bm))))
theorem Ky{N:Net}(ok:N.Ok)(a:N.ps[i]?=P3 x):Bz^.tup^N.ps.map .str/\Bz^.str x/\(∃z,(N.ps.map D.str)[i]?=P3 z/\Dt z^.str x=p_)/\∀(m:Nat) z,m<i->(N.ps.map D.str)[m]?=P3 z->Dt z^.str x=q_:=by
 refine#[Cq ok.names,Eu^ok.names x^gZ a,#[.str x,by simp only[fo,a]; rfl,by simp only[FE,beq_self_eq_true]],λm z d b=>?_];rw[fo]at b;let#[y,c,rfl]:=gY.mp b;rw[FE,beq_eq_false_iff_ne];intro e;subst e
 have:=(List.getElem?_inj (XV.mp c).1 (IH ok.rise)).mp^c.trans a.symm
 lk
theorem Ps{N:Net}(h:x∈N.ps):∃i,N.ps[i]?=P3 x/\i<N.ps.length:=by
 let#[i,l,e]:=lT.mp h;exact#[i,by rw[FM l,e],l]
theorem WK(a:1<=j)(b:j<=1000000):qN i j:=.inr^by constructor <;>lk
theorem Jf(q:Nat):∀(l:r_ Nat) (a:Array Nat),(l.foldl (λb c=>b++(gc q c).toArray) a).toList=a.toList++l.flatMap^gc q
 |[],a=>by simp
 |c::l,a=>by
  simp only[m8,Jf q l];simp
theorem WL(q c:Nat):gc q c=[c]\/∃r,gc q c=92::r:=by
 unfold gc
 dsimp only
 by_cases a:(c==q||c==92)=p_
 .rw[if_pos a]; exact .inr #[_,rfl]
 rw[if_neg a]
 by_cases b:(c==10)=p_
 .rw[if_pos b]; exact .inr #[_,rfl]
 rw[if_neg b]
 by_cases d:(c==13)=p_
 .rw[if_pos d]; exact .inr #[_,rfl]
 rw[if_neg d]
 by_cases e:(c==9)=p_
 .rw[if_pos e]; exact .inr #[_,rfl]
 rw[if_neg e]
 by_cases f:PySem.Unicode.isPrintable c=p_
 .rw[if_pos f]; exact .inl rfl
 rw[if_neg f]
 by_cases g:c<256
 .rw[if_pos g]; exact .inr #[_,rfl]
 rw[if_neg g]
 by_cases h:c<65536
 .rw[if_pos h]; exact .inr #[_,rfl]
 rw[if_neg h];exact .inr #[_,rfl]
theorem Jh:∀{xs l:r_ Nat},xs.flatMap^gc q=l->92∉l->xs=l
 |[],l,h,_=>h
 | c::xs,l,h,a=>by
  rw[j7]at h
  rcases WL q c with e|⟨r,e⟩
  .rw[e]at h
   subst h;exact congrArg (c::·) (Jh (xs:=xs) rfl λz=>a^f8 _ z)
  .rw[e]at h
   exact absurd (by rw[←h]; simp) a
theorem Sg(h:cs^reprText x=39::(l++[39]))(b:92∉l):cs x=l:=by
 have e:cs^reprText x=reprQuote x::(x.cps.toList.flatMap^gc^reprQuote x++[reprQuote x]):=by
  unfold reprText;show((x.cps.foldl _ #[ reprQuote x]).push^reprQuote x).toList=_;rw[←l9,mU,Jf];rfl
 rw[h]at e;let#[c,a]:=iN e;rw[←c]at a;exact Jh (mw a).symm b
theorem Kc:∀(b:r_ Str) (k:Nat) (a:Str),(cs a).head?=P3 c->(cs^textFrom k a b).head?=P3 c
 |[],_,_,h=>h
 |t::b,k,a,h=>by
  unfold textFrom;refine Kc b _ _ ?_
  split <;>simp[CF,h]
theorem FD(h:a=39::l)(b:a.head?=P3 c)(d:c≠39):False:=by
 rw[h]at b;exact d (fu b).symm
theorem HJ(k:C5 d=p_)(h:cs^Ae d=39::(l++[39]))(m:92∉l):∃x,d=.str x/\cs x=l:=by
 cases d with
 |str x=>exact#[x,rfl,Sg h m]
 |non=>exact(FD (c:=78) h (by decide +kernel)^by cbv).elim
 |bl b=>
  cases b with
  |true=>exact(FD (c:=84) h (by decide +kernel)^by cbv).elim
  |false=>exact(FD (c:=70) h (by decide +kernel)^by cbv).elim
 |tup g=>
  have e:cs^Ae^.tup g=40::_:=Gd _;exact(FD (c:=40) h (by rw[e]; rfl)^by cbv).elim
 |lst g=>
  refine(FD (c:=91) h ?_^by cbv).elim;show(cs (textFrom 0 "[" _ ++ "]")).head?=_;rw[CF]
  have:=Kc (c:=91) (jR^BB g) 0 "["^by decide +kernel
  cases e:cs^textFrom 0 "["^jR^BB g with
  |nil=>rw[e]at this; cases this
  |cons a r=>rw[e]at this; exact this
 | int i=>
  have h:cs ((toString i:String):Str)=39::(l++[39]):=h
  rcases Int.lt_or_le i 0 with j|j
  .let#[n,rfl]:=Int.eq_negSucc_of_lt_zero j
   refine(FD (c:=45) h ?_^by cbv).elim;rw[k8];show((toString^Int.negSucc n).toList.map _).head?=_
   have:toString^Int.negSucc n="-"++Nat.repr (n+1):=rfl
   rw[this,String.toList_append];rfl
  .let#[n,rfl]:=kn j
   rw[O0]at h;have o:39∈(Nat.toDigits 10 n).map lV:=by rw[h]; exact Op
   let#[c,p,e]:=Rs.mp o
   have:=Nat.isDigit_of_mem_toDigits (by cbv) (by cbv) p
   have e:c='\'':=Ni e;subst e;cases this
 |_=>cases k
end Nt
set_option maxHeartbeats 400000
namespace Nt
open L2 Dp
theorem QC(c:Char):c.toNat<1114112:=by
 have h:=c.valid
 have:c.toNat=c.val.toNat:=rfl
 rcases h with h|⟨_,h⟩
 .have:c.val.toNat<55296:=h
  lk
 .have:c.val.toNat<1114112:=h
  lk
theorem VB(h:c<1114112):∀x∈gc q c,x<1114112:=by
 have g:∀w,∀x∈fq w 48++(Nat.toDigits 16 c).map lV,x<1114112:=λw x e=>by
  rcases Uf.mp e with e|e
  .rw[(l_.mp e).2]; decide
  .let#[d,_,rfl]:=Rs.mp e
   exact QC d
 have f:∀a b:Nat,a<1114112->b<1114112->∀x∈[a,b],x<1114112:=λa b i j x e=>by
  simp at e
  rcases e with rfl|rfl <;>assumption
 unfold gc
 dsimp only
 intro x e
 split at e
 .exact f _ _ (by cbv) h x e
 split at e
 .exact f _ _ (by cbv) (by cbv) x e
 split at e
 .exact f _ _ (by cbv) (by cbv) x e
 split at e
 .exact f _ _ (by cbv) (by cbv) x e
 split at e
 .rw[Re.mp e]; exact h
 split at e
 .exact(Uf.mp e).elim (f _ _ (by cbv) (by cbv) x)^g _ x
 split at e
 .exact(Uf.mp e).elim (f _ _ (by cbv) (by cbv) x)^g _ x
 .exact(Uf.mp e).elim (f _ _ (by cbv) (by cbv) x)^g _ x
def okS(x:Str):Prop:=∀c∈cs x,c<1114112
theorem okS.app(h:okS x)(g:okS y):okS (x++y):=λc a=>by
 rw[CF]at a;exact(Uf.mp a).elim (h c)^g c
theorem TV(h:okS x):okS^reprText x:=λc b=>by
 have e:cs^reprText x=reprQuote x::(x.cps.toList.flatMap^gc^reprQuote x++[reprQuote x]):=by
  unfold reprText;show((x.cps.foldl _ #[ reprQuote x]).push^reprQuote x).toList=_;rw[←l9,mU,Jf];rfl
 have d:reprQuote x<1114112:=by unfold reprQuote; split <;>decide
 rw[e]at b
 rcases TW.mp b with rfl|b
 .exact d
 rcases Uf.mp b with b|b
 .let#[a,f,b]:=iH.mp b
  exact VB (h a f) c b
 .rw[Re.mp b]; exact d
theorem M6:∀(b:r_ Str) (k:Nat) (a:Str),okS a->(∀t∈b,okS t)->okS^textFrom k a b
 |[],_,_,h,_=>h
 | t::b,k,a,h,g=>by
  unfold textFrom;refine M6 b _ _ ((h.app ?_).app^g t Op) λs d=>g s^TM _ d
  split
  .show ∀c∈cs (", ":Str),_
   decide +kernel
  .show ∀c∈cs ("":Str),_
   decide +kernel
theorem C1(x:Str)(h:(cs x).all (λc=>decide (c<1114112))=p_):okS x:=λc a=>of_decide_eq_true^gI.mp h c a
theorem M5:∀(a:r_ Str),(∀t∈a,okS t)->okS^lg ", " a
 |[],_=>C1 _^by decide +kernel
 |[t],h=>h t Op
 |t::s::a,h=>by
  show okS (t ++ ", "++lg ", " (s::a));exact((h t Op).app^C1 _^by decide +kernel).app^M5 (s::a) λu b=>h u^TM _ b
theorem VY(i:Int):okS ((toString i:String):Str):=λc b=>by
 rw[k8]at b;let#[d,_,rfl]:=Rs.mp (show c∈(toString i).toList.map lV from b);exact QC d
mutual
theorem Kk{B:Nat}:∀{d:D},C5 d=p_->qY B d->okS^Ae d
 |.non,_,_=>C1 _^by decide +kernel
 |.bl p_,_,_=>C1 _^by decide +kernel
 |.bl q_,_,_=>C1 _^by decide +kernel
 |.int i,_,_=>VY i
 |.str x,_,h=>TV h
 |.tup xs,h0,h=>by
  have:=Fn (xs:=xs) h0 h
  show okS (("(":Str)++lg ", "^jR^BB xs++_);refine((C1 _^by decide +kernel).app^M5 _ this).app ?_
  split
  .exact C1 _^by decide +kernel
  .exact C1 _^by decide +kernel
 |.lst xs,h0,h=>by
  have:=Fn (xs:=xs) h0 h
  show okS (textFrom 0 "["^jR^BB xs ++ "]");exact(M6 _ _ _ (C1 _^by decide +kernel) this).app^C1 _^by decide +kernel
 |.dic _ _,h0,_=>by cases h0
 |.fdi _ _,h0,_=>by cases h0
 |.dit _ _,h0,_=>by cases h0
theorem Fn{B:Nat}:∀{xs:r_ D},B5 xs=p_->Cj B xs->∀t∈jR^BB xs,okS t
 |[],_,_,t,h=>by cases h
 |x::xs,h0,h,t,ht=>by
  have h0:(C5 x&&B5 xs)=p_:=h0;rw[ZB]at h0;have ht:t∈Ae x::jR^BB xs:=ht
  rcases TW.mp ht with rfl|ht
  .exact Kk h0.1 h.1
  .exact Fn h0.2 h.2 t ht
end
theorem Q8(a:C5 d=p_)(h:qY B d):Bz^.str^Ae d:=#[rfl,Iv λc b=>Kk a h c b,T0 _]
end Nt
set_option maxHeartbeats 4000000
namespace Nt
open L2 Dp
theorem bz:cs^("'in'":Str)=39::([105,110]++[39]):=by decide +kernel
theorem ZI:cs^("'out'":Str)=39::([111,117,116]++[39]):=by decide +kernel
theorem XG(b:C5 x=p_):((("'in'":Str)==Ae x)||(("'out'":Str)==Ae x))=p_↔x=.str "in"\/x=.str "out":=by
 constructor
 .intro h
  rcases Bool.or_eq_true_iff.mp h with h|h
  .have e:=eq_of_beq h
   let#[y,rfl,a]:=HJ b (by rw[←e]; exact bz) (by cbv);exact .inl^by rw[Fy (x:=y) (y:="in")^a.trans^by decide +kernel]
  .have e:=eq_of_beq h
   let#[y,rfl,a]:=HJ b (by rw[←e]; exact ZI) (by cbv);exact .inr^by rw[Fy (x:=y) (y:="out")^a.trans^by decide +kernel]
 .rintro(rfl|rfl) <;>decide +kernel
theorem RM(h:DC d)(a:C5 d=p_):FS d:=by
 refine F_ (B:=10 ^ 40) (by cbv) h.1 (by have:=h.2.2; lk)^by have:=h.2.1; lk
theorem gent_two:CI^.tup [x,y]=p_↔x=.str "in"\/x=.str "out":=by
 constructor
 .intro h
  let#[s,b,e,a]:=IT h;injection e with e
  injection e with e _
  subst e
  rcases a with rfl|rfl
  .exact .inl rfl
  .exact .inr rfl
 .rintro(rfl|rfl) <;>rfl
theorem T4(h:CI^.tup a=p_):a.length=2:=by
 let#[s,y,e,_]:=IT h;injection e with e
 rw[e]; rfl
theorem RC(c:okN N)(k:thn N d)(i:(a++u::b).Perm N.ts)(l:Cw (a++u::b)):Mo (Br #[N.ps,d] u) (a.filter λv=>decide (v∈d)):=by
 have m:(a++u::b).Nodup:=i.nodup_iff.mpr^BF c.1.qg;let#[_,q,n]:=gg.mp m;let#[_,o,p]:=kH.mp l;exists λv=>?_
 .rw [g0,g0,decide_eq_true_eq]
  constructor
  .rintro⟨j,f⟩
   exists f;cases e:A6 (Ba v)^Ba u with
   |true=>rfl
   |false=>exact absurd (JB^B8 _ _ e^p v j u Op)^n v j u Op
  .rintro⟨f,g⟩
   refine#[?_,f]
   rcases Uf.mp^i.mem_iff.mpr^k.1 v f with h|h
   .exact h
   .rcases TW.mp h with rfl|h
    .rw[Bn]at g; cases g
    .have:=(gm.mp o).1 v h
     rw[this]at g; cases g
 .have:=iZ (λv=>decide (v∈d)) a
  have:=i.length_eq
  have:=c.2.2
  rw[fh]at *;lk
theorem WO(a:okN M)(u:An):okN^Br M u:=#[Ir a.1 (λv b=>(g0.mp b).1)^a.1.qg.filter _,a.2.1,f_ (iZ _ _) a.2.2]
theorem YF(M:Net)(t b:Int)(u:An)(s:Str)(y:D):OF M t b u s y=.non\/∃w,OF M t b u s y=.str w:=by
 unfold OF
 split
 .exact KS M t b u y
 .unfold Pg
  split
  .split
   .split
    .exact .inr #[_,rfl]
    .exact .inl rfl
   .exact .inl rfl
  .exact .inr #[_,rfl]
def F1:W2:=λa n P=>∃(N:Net) (t b:Int) (d p:D),a=[.sh^enc N,.sh^Kb t b,.sh d,.sh p]/\okN N/\N.ps.length<=24/\SO t b/\KP d/\DC p/\BY^enc N+BY d+BY p<=260000/\P (.bl p_) n
def b7:AZ:=(CG^aC (Am (Oo q_) (Gr NU^AM (AH 4) Ad)^Gr NU^AM (Zt (Au^Am (L3 q_) (AH 6)^wC D.non) (wC^D.bl p_)^AH 6) Ad)^Am (Oo q_) (Gr NU^AM (Bs^AM (AH 0)^AM (AH 2)^AM (AH 3) Ad) Ad)^AH 5)
def Zu:r_ Str:=["way","far","fair","near","word","shape"]
theorem NY(M:Net)(t b:Int):∀(a:r_ An) (c:r_ D) (k:Nat),EK M t b k a c=.non\/∃w j,EK M t b k a c=IQ w j/\w∈Zu/\j<=k+a.length
 |[],_,_=>.inl rfl
 |_::_,[],_=>.inl rfl
 | u::a,d::c,k=>by
  have e:Vo M t b u d=.non\/∃w∈Zu,Vo M t b u d=.str w:=by
   unfold Vo Pg QN
   repeat' split
   all_goals first|exact .inl rfl|exact .inr #[_,by decide +kernel,rfl]
  unfold EK
  rcases e with e|⟨w,f,e⟩
  .rw[e]
   rcases NY M t b a c (k+1)with h|⟨w,j,h,g,i⟩
   .exact .inl h
   .exact .inr #[w,j,h,g,by simp only[eq]; lk]
  .rw[e]; exact .inr #[w,k,rfl,f,by simp only[eq]; lk]
def Zn(N:Net)(t b:Int)(d p r:D):Prop:=((qh N d=q_\/∀e,p≠.tup e)/\r=IQ "shape" 0)\/∃c a:r_ An,d=enc #[N.ps,c]/\thn N c/\a.Perm N.ts/\Cw a/\r=Y1 #[N.ps,c] t b a p
theorem RT{N:Net}(h:enc #[N.ps,a]=enc #[N.ps,b]):a=b:=by
 unfold enc at h;injection h with h
 injection h with _ h
 injection h with h
 injection h with h
 exact Me h
theorem Vm(N:Net)(t b:Int)(d p:D):∃r,Zn N t b d p r:=by
 cases c:qh N d with
 |false=>exact#[_,.inl #[.inl c,rfl]]
 |true=>
  let#[a,rfl,e]:=qK.mp c;let#[f,g,h]:=Lc N.ts;exact#[_,.inr #[a,f,rfl,e,g,h,rfl]]
theorem Ib(c:okN N)(f:N.ps.length<=24)(n:SO t b)(hd:KP d)(o:DC p)(h:Zn N t b d p r)(q:Q r):Uo N t b d p Q:=by
 refine#[c,f,n,hd,o,λa=>?_,λs g e i k l=>?_]
 .rcases h with⟨_,rfl⟩|⟨s,g,rfl,i,k,l,rfl⟩
  .exact q
  .rcases a with a|a
   .rw[i.qh]at a; cases a
   .cases p with
    |tup j=>exact absurd rfl (a j)
    |_=>exact q
 .subst e
  rcases h with⟨a|a,rfl⟩|⟨x,m,e,u,v,w,rfl⟩
  .rw[i.qh]at a; cases a
  .cases p with
   |tup j=>exact absurd rfl (a j)
   |_=>exact q
  .cases RT e
   rw[Eo (k.trans v.symm) l w];exact q
theorem Vl(a:okN N)(h:Zn N t b d p r):r=.non\/∃w k,r=IQ w k/\w∈Zu/\k<=60:=by
 rcases h with⟨_,rfl⟩|⟨e,c,_,_,f,_,rfl⟩
 .exact .inr #[_,0,rfl,by decide +kernel,by lk]
 .have:=f.length_eq
  have:=a.2.2
  have sh:∃w k,IQ "shape" 0=IQ w k/\w∈Zu/\k<=60:=#[_,0,rfl,by decide +kernel,by lk];unfold Y1
  split
  .split
   .split
    .rcases NY #[N.ps,e] t b c _ 0 with h|⟨w,j,h,g,i⟩
     .exact .inl h
     .exact .inr #[w,j,h,g,by lk]
    .exact .inr sh
   .exact .inr sh
  .exact .inr sh
theorem U_(b:w∈Zu)(c:k<=60):FS^IQ w k:=by
 have a:item^.str w:=by
  simp only[Zu,TW,ft,or_false]at b
  rcases b with rfl|rfl|rfl|rfl|rfl|rfl <;>exact item_str (by cbv)^by decide +kernel
 refine F_ (B:=1000001) (by cbv) #[a.1,by show(k:Int).natAbs<=1000001; lk,trivial] ?_ ?_
 .have:=a.2.2
  show max (Ct^.str w)^max 0 0+1<=100;lk
 .have:=a.2.1
  show BY^.str w+1+(200+1+0)<=200000;lk
def rB(d:D):Prop:=∃(s:Str) (a:r_ D),d=.tup [.str s,.tup a]/\(s="in"\/s="out")/\1<=a.length/\a.length<=30/\Cj (10 ^ 29) a/\Be a<=1500/\CW a<=0/\(s="in"->∀x∈a,∃i,x=.int i)
def eB(e:D):Prop:=qY (10 ^ 30) e/\BY e<=3700/\Ct e<=2
def cF:W2:=λb n P=>∃d:D,b=[.fd,.sh d]/\rB d/\2<=n/\∀(e:D) (a:Nat),eB e->n - 2<=a->P e a
def aS:AZ:=(Rt 5 "list" Hz^AM (Bs^AM (AH 2)^AM (Am BO (Am BO (N4 FL (AH 3) CA^C3^AH 4)^Bs^AM (Am BO (Am CV (AH 3)^AH 4)^AH 6) Ad)^N4 FL (AH 3) (C3^Am BO (AH 4)^wC^D.int 1) CA) Ad) Ad)
def Wp:AZ:=(CG^Am CV (Bc 5)^A1 Ee^AI (DF 0)^AI (AU^Gr NV^AM (Bc 5) Ad) A5)
theorem HB{s:Str}(c:s="in"\/s="out")(f:Cj (10 ^ 30) a)(z:Be a<=3300)(d:CW a<=0):eB^.tup [.str s,.tup a]/\eB^.tup [.str s,.lst a]/\eB^.lst [.str s,.tup a]/\eB^.tup [.str s,.tup a,.int 0]/\eB^.tup [.str s]:=by
 have e:item^.str s:=by rcases c with rfl|rfl <;>exact item_str (by cbv)^by decide +kernel
 have b:qY (10 ^ 30)^.str s:=e.1.mono (by cbv);have g:BY^.str s<=3:=by rcases c with rfl|rfl <;>decide +kernel
 have h:Ct^.str s=0:=rfl;have i:BY^.tup a=Be a:=rfl;have j:BY^.lst a=Be a:=rfl;refine#[#[#[b,f,trivial],?_,?_],#[#[b,f,trivial],?_,?_],#[#[b,f,trivial],?_,?_],#[#[b,f,by show(0:Int).natAbs<=_; decide,trivial],?_,?_],#[#[b,trivial],?_,?_]]
 .show BY^.str s+1+(Be a+1+0)<=3700; omega
 .show max (Ct^.str s)^max (CW a+1) 0+1<=2; omega
 .show BY^.str s+1+(Be a+1+0)<=3700; omega
 .show max (Ct^.str s)^max (CW a+1) 0+1<=2; omega
 .show BY^.str s+1+(Be a+1+0)<=3700; omega
 .show max (Ct^.str s)^max (CW a+1) 0+1<=2; omega
 .show BY^.str s+1+(Be a+1+(200+1+0))<=3700; lk
 .show max (Ct^.str s)^max (CW a+1)^max 0 0+1<=2; lk
 .show BY^.str s+1+0<=3700; lk
 .show max (Ct^.str s) 0+1<=2; lk
def dS(N:Net)(d p:D):Prop:=KP d/\DC p/\BY d<=100000/\BY p<=100000
def Uh:W2:=λe n P=>∃(N:Net) (b:r_ An) (a:r_ D),e=[.fd,.sh^enc N,.sh^enc #[N.ps,b],.sh^.tup a]/\okN N/\N.ps.length<=7/\N.ts.length<=12/\thn N b/\a.length=N.ts.length/\(∀r∈a,rB r)/\30<=n/\∀(d p:D) (c:Nat),dS N d p->n - 30<=c->P (.tup [d,p]) c
def W7:AZ:=(BV (CY 9^Zt (Au^Am (L4 q_) (AH 6)^Am CV (AH 2)^wC^D.int 1) (wC^D.str "out")^wC^D.str "in")
 (BV (CY 7^Bs^AM (wC^D.str "in")^AM (Am T8 (Bs^AM (wC^D.int 0) Ad)^Gr NV^AM (Am CV (AH 1)^wC^D.int 0) Ad) Ad)
 (BV (CZ (Au^Am (Oo q_) (AH 9)^wC^D.str "out") (CY 7^Bs^AM (wC^D.str "out")^AM (A1 Ui^AI (AU^AH 8)^AI (AU^Am CV (AH 6)^wC^D.int 0)^AI (AU^Am CV (AH 6)^wC^D.int 1) A5) Ad) Bm)
 (CG^Bs^AM (AH 8)^AM (Am BO (Am BO (N4 FL (AH 3) CA^C3^AH 5)^Bs^AM (AH 7) Ad)^N4 FL (AH 3) (C3^Am BO (AH 5)^wC^D.int 1) CA) Ad))))
def W8:AZ:=(BV (CY 8^Bs^AM (Am CV (AH 2)^wC^D.int 0)^AM (Gr D1^AM (FP [P3 6,P3 2,o_] (Fc^Am CV (AH 1)^wC^D.int 1) (Aq 2) (Au^Am ba (Am (L4 q_) (AH 2)^Am CV (AH 1)^wC^D.int 1)^Am bg (AH 2)^AH 0)^AH 2) Ad) Ad)
 (BV (CZ (Au^Am (Oo q_) (AH 4)^wC^D.int 5) (CG^Bs^AM (AH 8)^AM (AH 3) Ad) Bm)
 W7))
def W9:AZ:=(BV (CZ (Au^Am HA (AH 4)^wC^D.int 5) (CG^Bs^AM (AH 2)^AM (Am BO (Am BO (N4 FL (AH 3) CA^C3^AH 5)^Bs^AM (AH 7) Ad)^N4 FL (AH 3) (C3^Am BO (AH 5)^wC^D.int 1) CA) Ad) Bm)
 W8)
def bA:AZ:=(CG^Zt (Au^Am (Oo q_) (A1 Ee^AI (DF 0)^AI (AU^wC^D.int 2) A5)^wC^D.int 0) (Bs^AM (A1 Xh^AI (DF 0)^AI (AU^AH 2)^AI (AU^wC^D.int 4) A5)^AM (AH 3) Ad)^Bs^AM (AH 2)^AM (A1 Xh^AI (DF 0)^AI (AU^AH 3)^AI (AU^wC^D.int 4) A5) Ad)
theorem Xz{N:Net}(ok:N.Ok)(d:u∈N.ts):2<=N.ps.length:=by
 let#[a,b,c,_]:=ok.tin u d
 match h:N.ps with
 |[]=>rw[h]at a; cases a
 |[x]=>
  rw[h]at a b;rw[Re.mp a,Re.mp b]at c;exact absurd c^jg _
 |_::_::_=>simp
theorem Ms(h:rB d):qY (10 ^ 29) d/\BY d<=1510/\Ct d<=2:=by
 let#[s,a,rfl,b,_,_,c,f,g,_]:=h;have e:item^.str s:=by rcases b with rfl|rfl <;>exact item_str (by cbv)^by decide +kernel
 have i:BY^.str s<=3:=by rcases b with rfl|rfl <;>decide +kernel
 exists#[e.1.mono^by cbv,c,trivial],?_
 .show BY^.str s+1+(Be a+1+0)<=1510; lk
 .show max 0^max (CW a+1) 0+1<=2; lk
theorem TL(c:rs.length<=40)(h:∀r∈rs,eB r):DC^.tup rs/\BY^.tup rs<=3701*rs.length:=by
 have e:=EO (k:=3701) λd a=>jk (h d a).2.1;have f:CW rs<=2:=qJ.mpr λd a=>(h d a).2.2;have z:BY^.tup rs=Be rs:=rfl;exact#[#[(EJ λx b=>(h x b).1).mono^by cbv,by lk,by show CW rs+1<=50; lk],by lk]
end Nt
namespace L2
theorem OZ(l:Ch)(v:Db)(n:Nat)(u:Tok):
  Meets (iU.«tuple.__mul__» #[[.ref l,.int 0 u],[]]) (λ_ R s=>s.heap.get? l=P3 {cls:=.type "tuple",dict:=o_,data:=.seq #[ v] n,slots:=#[]} /\
   R (.ok^.ret^.ref s.heap.objs.size) {s with heap:=s.heap.push {cls:=.type "tuple",data:=.seq #[]}}):=
 .of_wp λprog w A R s h=>by
  let#[hp,g,d,tk,os]:=s; let#[hl,h]:=h
  wp_walk
  exact#[_,rfl,h]
def Wy:R2:=λx y H Q=>∃a v n,x=.ref a/\y=.int n/\H a=P3^.tup [v]/\0<=n/\n<1000000/\(n=1->Q (.ref a) H)/\∀b,H b=o_->Q (.ref b)^Al H b^.tup^fq n.toNat v
set_option tactic.hygienic true in
theorem VT:OpR X (binaryOp .Mult) Wy:=by
 intro L s M H x y v u Q I l m h;let#[a,N,n,rfl,rfl,p,O,r,w,g]:=h;subst l;let#[t,rfl]:=m;let#[_,z,A,o,c,B,k,C,d,f]:=(I.hok a _ p);cases A with
 |cons D E=>
 cases E
 rename_i i
 let#[G,P,j,R]:=o;subst B C d f
 refine wpAny_binaryOp_repeat_ref (T:="tuple") (U:="int") (by cbv) #[_,c,rfl] (λJ=>mV J n t) ED PySem.F.fills_int_mul PySem.F.slot_int_rmul GC PySem.F.slot_int_index.lookup
  (jt PySem.F.slot_int_rmul (mV s n t) PySem.F.entry_int_rmul (PySem.F.args_int_rmul_2 _ _) (JA n t a _ k) #[c,rfl,#[_,c,rfl],?_])
 by_cases K:n=0
 .subst K
  refine jt PySem.F.slot_tuple_mul #[_,c,rfl] PySem.F.entry_tuple_mul (PySem.F.args_tuple_mul_2 _ _) (OZ a i k t) #[c,.ref s.heap.objs.size,_,?_,rfl,g _^I.hok.fresh^On _];exact I.laid (t':=s.toks) (λb o q=>Ev _ q) (On _) #[T0 _,_,.nil,_,UF _ rfl,rfl,0,rfl,rfl,rfl]
 by_cases e:n=1
 .subst e
  exact jt PySem.F.slot_tuple_mul #[_,c,rfl] PySem.F.entry_tuple_mul (PySem.F.args_tuple_mul_2 _ _) (JR a _ k t) #[c,.ref a,H,I,rfl,w rfl]
 .refine jt PySem.F.slot_tuple_mul #[_,c,rfl] PySem.F.entry_tuple_mul (PySem.F.args_tuple_mul_2 _ _) (JQ a i k n t (by lk) r) #[c,.ref s.heap.objs.size,_,?_,rfl,g _^I.hok.fresh^On _]
  refine I.laid (t':=s.toks) (λb o q=>Ev _ q) (On _) #[?_,_,Ij D _,_,UF _ rfl,rfl,0,?_,rfl,rfl]
  .rw[iz,PySem.sizeLine_eq]; lk
  .rw[EW]; simp
end L2
namespace Dp
open L2
def T7(d e:D)(P:D->Prop):Prop:=match d,e with
 |.tup [z],.int n=>0<=n/\n<1000000/\P^.tup^fq n.toNat z
 |_,_=>False
set_option tactic.hygienic true in
theorem ZQ{K:Frag}:D_ K .sh Wy T7:=λU M H d e x y P Q h o i j w q=>by
 unfold T7 at w
 split at w
 .rename_i z n
  let#[k,l,p]:=w;let#[a,s,rfl,c,v,r,rfl,f,rfl]:=i.tup;cases j.int;refine#[a,v,n,rfl,rfl,c,k,l,λe=>?_,λb m=>?_]
  .subst e
   exact q _ H (.tup [z]) .refl #[a,_,rfl,c,v,[],rfl,f,rfl] p
  .have g:qW H^Al H b^.tup^fq n.toNat v:=Ab m
   exact q _ _ (.tup _) g #[b,_,rfl,AQ,MJ (f.qq g.qq) _] p
 simp_all
end Dp
namespace Nt
open L2 Dp
def Yk:AZ:=(CZ (QQ (F5^Au^A1 F1^AI (AU^AH 2)^AI (AU^AH 3)^AI (AU^AH 4)^AI (AU^AH 8) A5)^F5^Au^A1 F1^AI (AU^AH 2)^AI (AU^AH 3)^AI (AU^AH 8)^AI (AU^AH 5) A5) (CG^wC^D.bl q_) Bm)
def bK:AZ:=(BV (CY 7^A1 Uh^AI (DF 1)^AI (AU^AH 2)^AI (AU^AH 4)^AI (AU^AH 5) A5)
 (BV (CZ (F5^Au^A1 F1^AI (AU^AH 2)^AI (AU^AH 3)^AI (AU^Am CV (AH 7)^wC^D.int 0)^AI (AU^Am CV (AH 7)^wC^D.int 1) A5) (CG^wC^D.bl q_) Bm)
 (BV (CZ (Au^Am (Oo q_) (A1 Ee^AI (DF 1)^AI (AU^wC^D.int 4) A5)^wC^D.int 0) (CY 7^Bs^AM (Am CV (AH 7)^wC^D.int 0)^AM (Am CV (A1 Uh^AI (DF 1)^AI (AU^AH 2)^AI (AU^AH 4)^AI (AU^AH 5) A5)^wC^D.int 1) Ad) Bm)
 (CZ (F5^Au^A1 F1^AI (AU^AH 2)^AI (AU^AH 3)^AI (AU^Am CV (AH 7)^wC^D.int 0)^AI (AU^Am CV (AH 7)^wC^D.int 1) A5) (CG^wC^D.bl q_) Bm))))
def Yi:AZ:=(BV (N5 (Fc^QR^AM (wC D.non)^AM (wC^D.bl p_)^AM (Bs Ad)^AM (QR Ad)^AM (wC^D.str "in")^AM (wC^D.int 0)^AM (Gr Om^AM (AH 5) Ad)^AM (Bs^AM (Bs Ad) Ad)^AM (Am T7 (Bs^AM (wC D.non) Ad)^Gr NV^AM (AH 5) Ad) Ad) (Aq 8) Yk)
 (CG^A1 F1^AI (AU^AH 2)^AI (AU^AH 3)^AI (AU^AH 4)^AI (AU^AH 5) A5))
theorem YE{N A:Net}(ok:N.Ok)(H:N.ps.length<=7)(n:A.ps=N.ps)(I:1<=N.ps.length)(h:LY 30 A t b u f):rB f:=by
 rcases h with⟨_,o,rfl,g,p,_⟩|⟨_,w,d,rfl,⟨⟨r,rfl⟩,_,_,l,m⟩,_⟩
 .let#[q,s]:=L0 p
  rw[No,n]at q
  have j:∀y∈o.map D.int,∃i,y=.int i/\i.natAbs<=10 ^ 29:=λy c=>by
   let#[i,v,rfl]:=Rs.mp c;have J:0<=i:=of_decide_eq_true^s _ c;have K:=g i v;exact#[i,rfl,by lk]
  have C:=EO (k:=201) (ds:=o.map D.int) λy c=>by let#[i,rfl,_]:=j y c; exact On _
  rw[No]at C;exact#["in",_,rfl,.inl rfl,by simp only[No]; lk,by rw[No]; lk,qz.mpr λy c=>by let#[i,rfl,h]:=j y c; exact h,by lk,qJ.mpr λy c=>by let#[i,rfl,_]:=j y c; exact On _,λ_ y c=>by let#[i,e,_]:=j y c; exact#[i,e]]
 .let#[E,L,F]:=EB (B:=10 ^ 29) ok (w:=u.a::r) λx G=>by rw[←n]; exact m x G
  exact#["out",_,rfl,.inr rfl,by simp,by rw[No]; exact l,E,by lk,F,λz=>absurd z^by decide +kernel]
theorem TK(ok:N.Ok)(e:N.ps.length<=7)(f:1<=N.ps.length):∀{g a:r_ An}{c:r_ D},zw 30 N t b a g c->∀r∈c,rB r
 |[],_,[],_,r,h=>by cases h
 |u::g,a,i::c,h,r,d=>by
  rcases TW.mp d with rfl|d
  .exact YE (A:=sub N a) ok e rfl f h.1
  .exact TK ok e f h.2 r d
 |[],_,_::_,h,_,_=>h.elim
 |_::_,_,[],h,_,_=>h.elim
end Nt
namespace Dp
open L2 Nt
theorem Tz{K:Frag}(h:∀i n P,W' i n P->W i n P)(G:Got P w K j e x k m o W):Got P w K j e x k m o W':=by
 let#[f,fd,F,a,b,c,d]:=G;refine#[f,fd,?_,a,b,c,λi n P g=>d i n P^h i n P g];refine F.imp λv H Q E zz=>?_;let#[l,p,U,r,M,n,i,s,t,u,q]:=zz;exact #[l,p,U,r,M,n,i,s,t,h _ _ _ u,q]
theorem SA(h:ZZ a n P):QI a n P:=by
 let#[N,d,rfl,ok,b,lt,fd,p]:=h;exact#[N,N.ts,_,d,rfl,rfl,#[λ_=>Iff.rfl,lt],ok,b,fd,p]
end Dp
namespace K12
open L2 Dp Nt
section
variable (P:Program)(w:World)(K:Frag)(mg:Str->s_ Value)(base:Heap)
abbrev KQ:Prop:=Zo P w K mg base "lets_greedy" 6 ["net","times","thin","paper"] .sh Ul
abbrev Jz:Prop:=Zp P w K mg base "_law_refusal" 1 ["_law_e"] .sh ZY
end
theorem fE{b:r_ Str}(c:∀f:Nat->Db,bindArgs d #[(gG n).map f,[]]=pure^b.zip^(gG n).map f)(a:r_ Db)(h:a.length=n):bindArgs d #[a,[]]=pure^b.zip a:=by
 have e:a=(gG n).map λi=>a.getD i .none:=by
  apply List.ext_getElem <;>simp_all
 rw[e];exact c _
local macro_rules|`(tactic|walk_at "L")=>`(tactic|(intro _ _ _ h; repeat (first|(obtain⟨e,_⟩:=h; subst e; rfl)|(obtain⟨_,h⟩:=h))))
local macro_rules|`(tactic|walk_at "B")=>`(tactic|(intro _ _ _ _ _ _; exact fE λ_=>rfl))
def Ht(K:Frag)(x:Str)(a:gz):Prop:=∃(f:Ch) (c:Db) (d e:s_ Ch) (g:Array^s_ Db) (kV h i b j:Db),nsIn K mainGlobals x=P3^P3^.ref f/\K.lookup f=P3 #[c,d,.func^fnOf x x (CC a) (A9 a) (AK a) .none kV h i e b j,g]/\codeIn K b x=p_/\keepIn K^.ref f=p_
def Hn(K:Frag)(x:Str):Prop:=nsIn K mainGlobals x=P3 o_
theorem Ht.mk{K:Frag}{b:gz}{kV j m d n:Db}(a:nsIn K mainGlobals x=P3^P3^.ref f)(l:K.lookup f=P3 #[e,g,.func^fnOf x x (CC b) (A9 b) (AK b) .none kV j m h d n,i])(c:codeIn K d x=p_)(k:keepIn K^.ref f=p_):Ht K x b:=#[f,e,g,h,i,kV,j,m,d,n,a,l,c,k]
theorem Hn.mk{K:Frag}(a:nsIn K mainGlobals x=P3 o_):Hn K x:=a
theorem xc_mk{K:Frag}{bs c sub a:r_ Db}(at_:nsIn K mainGlobals i=P3^P3^.ref C)(j:nsIn K mainGlobals "ThinError"=P3^P3^.ref U)
  (o:K.lookup C=P3^excClassObj i q C N bs (.ref U::[.type "ValueError",.type "Exception",.type "BaseException",.type "object"]) p_ m sub n g p r s t v w "ValueError.__new__")
  (u:K.lookup U=P3^excClassObj "ThinError" k U l c [.type "ValueError",.type "Exception",.type "BaseException",.type "object"] f d a e b h x y z A B "ValueError.__new__")
  (D:keepIn K^.ref C=p_) (E:PySem.W.findIn K (.ref C) "__getattribute__"=P3^P3^.builtin "BaseException.__getattribute__") (F:PySem.W.findIn K (.ref C) "__getattr__"=P3 o_) (G:PySem.W.findIn K (.ref C) "__setattr__"=P3^P3^.builtin "object.__setattr__") (H:PySem.W.findIn K (.ref C) "__class__"=P3^P3^.builtin "object.__class__")
  (I:PySem.W.findIn K (.ref C) "word"=P3 o_) (J:PySem.W.findIn K (.ref C) "number"=P3 o_) (L:PySem.W.findIn K (.ref C) "row"=P3 o_):XC K i C U:=
 #[#[q,N,bs,m,sub,n,g,p,r,s,t,v,w,o],#[k,l,c,d,a,e,b,h,x,y,z,A,B,f,u],D,E,F,G,at_,j,H,I,J,L]
def Hx(K:Frag)(a:Str):Prop:=∃C U,XC K a C U
theorem Hx.mk{K:Frag}(c:XC K a C U):Hx K a:=#[C,U,c]
def H2(K:Frag)(d a:Str)(b:gz):Prop:=∃C U,XC K d C U/\∃(f:Ch) (e:Db) (g h:s_ Ch) (i:Array^s_ Db) (kV j k c l:Db),PySem.W.findIn K (.ref C) "__init__"=P3^P3^.ref f/\PySem.W.typeIn K^.ref f=P3^.type "function"/\K.lookup f=P3 #[e,g,.func^fnOf "__init__" a (CC b) (A9 b) (AK b) .none kV j k h c l,i]/\codeIn K c a=p_/\keepIn K^.ref f=p_
theorem H2.mk{K:Frag}{b:gz}{kV n o d p:Db}(c:XC K e C U)(i:PySem.W.findIn K (.ref C) "__init__"=P3^P3^.ref f)(ty:PySem.W.typeIn K^.ref f=P3^.type "function")
  (l:K.lookup f=P3 #[g,h,.func^fnOf "__init__" a (CC b) (A9 b) (AK b) .none kV n o j d p,m]) (q:codeIn K d a=p_) (k:keepIn K^.ref f=p_):H2 K e a b:=#[C,U,c,f,g,h,j,m,kV,n,o,d,p,i,ty,l,q,k]
structure C0 (K:Frag) (mg:Str->Option Db) (h:fz):Prop where
 X:K.In h
 G:h.Ns mainGlobals mg
 h00:Ht K "is_whole" (top 10)
 h01:Ht K "is_tuple_of" (top 11)
 h02:Ht K "is_rising" (top 12)
 h03:Ht K "rank_of" (top 13)
 h04:Ht K "order_of" (top 14)
 h05:Ht K "steps_of" Fg
 h06:Ht K "only" (top 16)
 h07:Ht K "is_tie_of" (top 17)
 h08:Ht K "is_thin" (top 18)
 h09:Ht K "ahead_of" (top 19)
 h0a:Ht K "length_of" (top 21)
 h0b:Ht K "length_between" (top 22)
 h0c:Ht K "nearest_of" (top 23)
 h0d:Ht K "least_ways" (top 24)
 h0e:Ht K "way_of" (top 25)
 h0f:Ht K "are_prices" (top 27)
 h0g:Ht K "price_gap" (top 28)
 h0h:Ht K "is_fair" (top 29)
 h0i:Ht K "prices_from" (top 30)
 h0j:Ht K "is_within" (top 32)
 h0k:Ht K "least_beyond" (top 33)
 h0l:Ht K "near_way" (top 34)
 h0m:Ht K "thinned" (top 35)
 h0n:Ht K "greedy_paper" (top 36)
 h0o:Ht K "way_fault" (top 38)
 h0p:Ht K "prices_fault" (top 39)
 h0q:Ht K "greedy_fault" (top 40)
 h0r:Ht K "is_greedy_entry" (top 41)
 h0s:Ht K "lets_greedy" FT
 h0t:Ht K "_law_feed" En
 h0u:Ht K "_law_next" Dv
 h0v:Ht K "_law_whole" (top 46)
 h0w:Ht K "_law_places" (top 47)
 h0x:Ht K "_law_length" (top 48)
 h0y:Ht K "_law_net" (top 49)
 h0z:Ht K "_law_times" (top 50)
 h10:Ht K "_law_in_order" (top 51)
 h11:Ht K "_law_least" (top 52)
 h12:Ht K "_law_thinned" (top 53)
 h13:Ht K "_law_odd" (top 54)
 h14:Ht K "_law_bent" HK
 h15:Ht K "_law_is_name" (top 56)
 h16:Ht K "_law_is_tie" (top 57)
 h17:Ht K "_law_rise" (top 58)
 h18:Ht K "_law_is_net" (top 59)
 h19:Ht K "_law_is_thin" (top 60)
 h1a:Ht K "_law_walked" (top 61)
 h1b:Ht K "_law_is_fair" (top 62)
 h1c:Ht K "_law_row_due" (top 63)
 h1d:Ht K "_law_greedy_due" (top 64)
 h1e:Ht K "_law_refusal" Em
 h1f:Ht K "_law_asked" (top 66)
 h1g:Ht K "_law_row_bent" (top 67)
 h1h:Ht K "_law_own_way" (top 68)
 h1i:Ht K "_law_pair_bent" (top 69)
 h1j:Ht K "law" I_
 z0:Hn K "ValueError"
 z1:Hn K "abs"
 z2:Hn K "all"
 z3:Hn K "bool"
 z4:Hn K "dict"
 z5:Hn K "enumerate"
 z6:Hn K "int"
 z7:Hn K "isinstance"
 z8:Hn K "len"
 z9:Hn K "list"
 z10:Hn K "min"
 z11:Hn K "range"
 z12:Hn K "repr"
 z13:Hn K "reversed"
 z14:Hn K "sorted"
 z15:Hn K "str"
 z16:Hn K "tuple"
 z17:Hn K "zip"
 y0:H2 K "NoPaper" "NoPaper.__init__" Cb
 y1:Hx K "NoLine"
 y2:Hx K "TooMany"
 y3:Hx K "Twice"
 y4:Hx K "NoPlace"
 y5:Hx K "NoTie"
 y6:Hx K "NoRow"
def Ctx(P:f7)(w:gB)(K:Frag)(b:Str->s_ Db)(a h:fz):Prop:=C0 K b h
abbrev Ctx.Y{P:f7}{w:gB}{K:Frag}{b:Str->s_ Db}{a h:fz}(A:Ctx P w K b a h)(x:Str)(k:Nat)(c:r_ Str)(d:Kd)(W:W2):Prop:=Got P w K b a x k c d W
section
variable {P:Program}{w:World}{K:Frag}{mg:Str->s_ Value}{h base:Heap}{x:Str}{st:Stmt}
theorem Ht.fn(X:K.In h)(G:h.Ns mainGlobals mg)(H:Ht K x st):∃f fd,mg x=P3^.ref f/\Fun K x x st f fd:=by
 let#[f,b,d,e,g,i,j,m,n,o,a,l,c,k]:=H;exact#[f,_,mg_of X G a,Oj (st:=st) l c k]
theorem Hx.xm(X:K.In h)(G:h.Ns mainGlobals mg)(H:Hx K a):∃C U,XC K a C U/\mg a=P3^.ref C:=let #[C,U,c]:=H; #[C,U,c,mg_of X G c.at_]
theorem H2.u(X:K.In h)(G:h.Ns mainGlobals mg)(H:H2 K b a st):∃U,Z1 K U/\mg "ThinError"=P3^.ref U/\nsIn K mainGlobals "ThinError"=P3^P3^.ref U:=let #[C,U,c,_]:=H; #[U,c.isU,mg_of X G c.atU,c.atU]
theorem H2.hx(H:H2 K b a st):Hx K b:=let #[C,U,c,_]:=H; #[C,U,c]
theorem C0.T(A:C0 K mg h):Txt K mg:=#[mg_none_of A.X A.G A.z0,mg_none_of A.X A.G A.z1,mg_none_of A.X A.G A.z2,mg_none_of A.X A.G A.z3,mg_none_of A.X A.G A.z4,mg_none_of A.X A.G A.z5,mg_none_of A.X A.G A.z6,mg_none_of A.X A.G A.z7,mg_none_of A.X A.G A.z8,mg_none_of A.X A.G A.z9,mg_none_of A.X A.G A.z10,mg_none_of A.X A.G A.z11,mg_none_of A.X A.G A.z12,mg_none_of A.X A.G A.z13,mg_none_of A.X A.G A.z14,mg_none_of A.X A.G A.z15,mg_none_of A.X A.G A.z16,mg_none_of A.X A.G A.z17,A.y0.hx.xm A.X A.G,A.y1.xm A.X A.G,A.y2.xm A.X A.G,A.y3.xm A.X A.G,A.y4.xm A.X A.G,A.y5.xm A.X A.G,A.y6.xm A.X A.G,A.y0.u A.X A.G]
theorem Ctx.got(A:Ctx P w K mg base h)(H:Ht K x st)
  (ok:∀{f:Ch}{fd:gX},Txt K mg->Fun K x x st f fd->mg x=P3^.ref f->Binds K fd a []->qV P w K mg base Ef k f fd a^Qa K e W a.length)
  (j:∀g n P,W g n P->g.length=a.length:=by walk_at "L") (i:∀(kV b l:Db) (o:s_ Ch) (c p:Db) (d:r_ Db),d.length=a.length->bindArgs (fnOf x x (CC st) (A9 st) (AK st) .none kV b l o c p) #[d,[]]=pure^a.zip d:=by walk_at "B"):Got P w K mg base x k a e W:=by
 let#[f,fd,m,F]:=H.fn A.X A.G;exact#[f,fd,ok A.T F m^F.binds i,m,F.kp,F.binds i,j]
theorem Ctx.gk(A:Ctx P w K mg base h)(H:Ht K x st)(N:r_ Str)
  (m:∀{f:Ch}{a:Db}{A:gE}{c:r_ Env}{s:Go}{H:Hp}{E:XK},Txt K mg->N.Nodup->qj k^A.deeper^envOfC x (AK st) s.heap.objs.size f a->MV (Dh Ef P w K mg base N x (AK st) f a A c s H E).nox e (A9 st) l)
  (o:∀{d n Pd},W d n Pd->l {nx:=λn _=>e=.sh/\Pd .non n,rt:=Pd} n (d++fq (N.length - b.length) .no)) (S:BJ N b^AK st:=by constructor <;>first|rfl|decide +kernel) (g:b.length<=N.length:=by decide) (p:∀d n P,W d n P->d.length=b.length:=by walk_at "L") (q:∀(kV i r:Db) (t:s_ Ch) (a u:Db) (j:r_ Db),j.length=b.length->bindArgs (fnOf x x (CC st) (A9 st) (AK st) .none kV i r t a u) #[j,[]]=pure^b.zip j:=by walk_at "B"):Got P w K mg base x (k+1) b e W:=
 A.got H (λT F _ _=>fC F S (m T S.nd) o g) p q
theorem Ctx.gotH(A:Ctx P w K mg base h)(H:Ht K x st)
  (ok:∀{f:Ch}{fd:gX},Txt K mg->Fun K x x st f fd->Nx P w K mg base k f fd a^Qa K e W a.length)
  (i:∀g n P,W g n P->g.length=a.length:=by walk_at "L") (j:∀(kV b l:Db) (o:s_ Ch) (c p:Db) (d:r_ Db),d.length=a.length->bindArgs (fnOf x x (CC st) (A9 st) (AK st) .none kV b l o c p) #[d,[]]=pure^a.zip d:=by walk_at "B"):Zp P w K mg base x k a e W:=by
 let#[f,fd,m,F]:=H.fn A.X A.G;exact#[f,fd,ok A.T F,m,F.kp,F.binds j,i]
theorem Ctx.gotR(A:Ctx P w K mg base h)(H:Ht K x st)
  (ok:∀{f:Ch}{fd:gX},Txt K mg->Fun K x x st f fd->qV P w K mg base (Rq P w) k f fd a^dQ K e W a.length) (i:∀g n P j,W g n P j->g.length=a.length) (l:∀(kV b o:Db) (p:s_ Ch) (c q:Db) (d:r_ Db),d.length=a.length->bindArgs (fnOf x x (CC st) (A9 st) (AK st) .none kV b o p c q) #[d,[]]=pure^a.zip d:=by walk_at "B"):Zo P w K mg base x k a e W:=by
 let#[f,fd,m,F]:=H.fn A.X A.G;exact#[f,fd,ok A.T F,m,F.kp,F.binds l,i]
end
section
variable {P:Program}{w:World}{K:Frag}{mg:Str->s_ Value}{base:Heap}
variable {f:Addr}{fd:FuncData}
theorem Hi:BJ ["self","word","number"] ["self","word","number"]^AK Cb:=by constructor <;>first|rfl|decide +kernel
theorem Hw(c:XC K "NoPaper" C U)(F:Fun K "__init__" "NoPaper.__init__" Cb f fd):qV P w K mg base Ef 1 f fd ["self","word","number"]^Iw C "word" "number":=by
 refine F.ok Hi (λj H Q E h=>by let#[a,b,g,rfl,_]:=h; rfl) λk A i s H j Q E o h=>?_;let#[a,b,g,rfl,l,m]:=h;exists _,BG (ay c c.nw (pv 0) (pv 1) rfl)^Cz (aw c c.nn (pv 0) (pv 2) rfl);refine#[b,rfl,V.ref a,rfl,a,rfl,l,λd n e=>#[g,rfl,V.ref a,rfl,a,d,[(("word":Str),b)],rfl,AQ,?_,(by cbv:1<1000),?_]]
 .rw[AL e,AQ]
 .rw[show Eh "number" g [(("word":Str),b)]=[(("word":Str),b),(("number":Str),g)]from by unfold Eh; rw[if_neg^by cbv]; rfl]
  exact m d n e
theorem Oi(A:Ctx P w K mg base h):cX P w K mg base "NoPaper" ["word","number"] 1:=by
 have H:=A.y0;let#[C,U,c,f,b,d,e,g,j,m,n,o,p,i,ty,l,a,k]:=H;have F:=Oj (st:=Cb) l a k;exact#[C,U,c,mg_of A.X A.G c.at_,.inr #[_,_,f,_,_,_,_,rfl,i,ty,Hw c F,F.binds^by walk_at "B"]]
variable {h:Heap}(A:Ctx P w K mg base h)
include A
theorem HN:A.Y "is_whole" 1 ["thing"] .sh ZW:=A.got A.h00 (λT F m b=>bW F ["thing"] (λ_ a=>(AE^AJ^Cv (Bk Lu (dv 0) rfl T.Gaa rfl T.Gam (by decide +kernel))^D9^UJ (Bk NL (dv 0) rfl T.Gaa rfl T.Gao (by decide +kernel)))) (@λc n e h=>by
 let#[d,rfl,q]:=h.out;cases d <;>exact q)) λ_ _ _ h=>G0 h
theorem Cf:A.Y "is_tuple_of" 1 ["count","thing"] .sh Nv:=A.gk A.h01 ["count","thing"] (λT _ a=>(AE^AJ^Cv (Bk kit_tuple (dv 1) rfl T.Gaa rfl T.Gab (by decide +kernel))^D9^BD Bt DD (Fw T.Gac^dv 1) (dv 0)^Bj _)) (@λb n c h=>by
 let#[k,d,rfl,h]:=h;cases d with
 |tup e=>exact#[_,_,rfl,rfl,h]
 |_=>exact h)
theorem Lk:A.Y "is_rising" 1 ["things"] .sh MR:=A.gk A.h02 ["things"] (λT _ b=>(AE^AJ (Ai (Dl rfl) Jy rfl T.Gah ia (AN (Hd ["ahead","behind"] [o_,o_] (V9 rfl T.Gaq (AN (dv 0)^AN (Bu DA Bv (dv 0) (Ao AB) BE) AW)) (λa=>Ry^Af (CU 0 a)^Af (CU 1 a) CM) A0^BD (Ck b) EN (dv 0) (dv 1)^Bj _) AW)))) Lb
theorem Fj:A.Y "rank_of" 1 ["tie"] .sh cG:=A.gk A.h03 ["tie"] (λ_ _ a=>(AE^AJ^AT^AA (Aj (dv 0) AB)^AA (Aj (dv 0) AB)^AA (Aj (dv 0) AB) AG)) (@λb n c h=>by
 let#[x,y,z,rfl,p]:=h;exact#[_,AD rfl,_,AD rfl,_,AD rfl,z3,p])
theorem Er:A.Y "order_of" 4 ["ties"] .fr O8:=A.gk A.h04 ["ties"] (λT _ e=>(AE^AJ (UI (Fj A) (e.mono^by cbv) rfl T.Gaf rfl (dv 0)))) (@λC n D h=>by
 let#[d,i,rfl,j,b,p]:=h;refine#[i.map AR,Mq,j,by rw[No]; exact b,λx a Q k=>?_,#[λx a=>?_,λx a y l m o q r=>?_],λs v z=>?_]
 .let#[t,_,rfl]:=Rs.mp a
  exact#[_,_,_,rfl,k]
 .let#[t,_,rfl]:=Rs.mp a
  exact#[Ba t,rfl,iu _ _]
 .let#[t,_,rfl]:=Rs.mp a
  let#[u,_,rfl]:=Rs.mp l;cases(show P3^Ba t=P3 m from q);cases(show P3^Ba u=P3 o from r);rfl
 .let#[c,B,rfl]:=PD (g:=ZA) (λ_=>rfl) v
  exact p c B^TN z)
omit A in
theorem n8:BJ ["net","steps","place","a","b","length"] ["net"]^AK Fg:=#[rfl,rfl,rfl,by decide +kernel,rfl,by decide +kernel,by decide +kernel]
omit A in
theorem fW{f:Ch}{fd:gX}(F:Fun K "steps_of" "steps_of" Fg f fd):qV P w K mg base Ef 1 f fd ["net"]^Qa K .sh Ue 1:=by
 refine F.ok (k:=0) n8 (λvs H Q E h=>h.1) λcdv A outer s H vs Q E hr h=>?_;let#[hl,F0,U,V',M,n,ss,Pd,ra,#[N,rfl,ok,lp,lt,p],q]:=h;let#[dom,fU,uV,vM,fd0,pa]:=ra;cases pa with
 |cons r1 pa=>
 cases pa;let#[v,e1,h1]:=r1.1;cases e1;let#[an,vs,rfl,hn,v1,r,rfl,hp,v2,r2,rfl,ht,e2]:=h1;cases(show r2=[]from e2);let#[ap,us,rfl,hpn,hps]:=hp;let#[at_,ws,rfl,htn,hts]:=ht;have nd:=n8.nd;have hu:=Jc hr;have szl:=PySem.sizeLine_eq;have lus:us.length=N.ps.length:=by simp only[hps.length,No]
 have lws:ws.length=N.ts.length:=by simp only[hts.length,No]
 refine#[_,BG (Ep (i:=1) nd rfl (gi rfl) Mv)
  (BG (JD gL rfl (S5^EZ ix_tup (pv 0) Av λ_ _=>rfl) (GG (i:=2) nd rfl (gi rfl)) (Cz (II hu (pv 1) (pv 2) Mv rfl)))
  (BG (JD gL rfl (S5^EZ ix_tup (pv 0) Av λ_ _=>rfl) (S7 rfl (GF (GG (i:=3) nd rfl (gi rfl))^GF (GG (i:=4) nd rfl (gi rfl))^GF (GG (i:=5) nd rfl (gi rfl)) Pf))
   (BG (II hu (Lg hu (pv 1) (pv 3) λ_ _=>rfl) (pv 4) (pv 5) rfl)^Cz (II hu (Lg hu (pv 1) (pv 4) λ_ _=>rfl) (pv 3) (pv 5) rfl)))
  (Cz^Fh^TB^pv 1))),?_]
 refine λd hd=>?_;have old0:∀b o,H b=P3 o->Al H d (.dK []) b=P3 o:=λb o e=>by rw[AL^Ak e hd]; exact e
 have SqN:∀H':Hp,(∀b o,H b=P3 o->H' b=P3 o)->SqT K H' an [.ref ap,.ref at_]:=λH' o=>SqT.of^o _ _ hn;have SqP:∀H':Hp,(∀b o,H b=P3 o->H' b=P3 o)->SqT K H' ap us:=λH' o=>SqT.of^o _ _ hpn;have SqW:∀H':Hp,(∀b o,H b=P3 o->H' b=P3 o)->SqT K H' at_ ws:=λH' o=>SqT.of^o _ _ htn;refine#[_,rfl,an,_,0,_,rfl,rfl,SqN _ old0,rfl,ap,rfl,#[_,SqP _ old0],?_];refine Pw (xs:=us) (λi σ H'=>∃(as:r_ (Str×Ch)) (x2 x3 x4 x5:s_ V),σ=[P3^.ref an,P3^.ref d,x2,x3,x4,x5]/\as.map (·.1)=N.ps.take i/\Stp H d as (λ_=>[]) H') ?_ (λi σ H' hi #[as,x2,x3,x4,x5,e,hm,st]=>SqP _ st.old) ?_ ?_
 .exact#[[],_,_,_,_,rfl,rfl,old0,hd,AQ,(λx hx=>by cases hx),gl,gl]
 .rintro i x σ H' hx ⟨as,x2,x3,x4,x5,rfl,hm,st⟩
  have hi:i<N.ps.length:=by simp only[←lus]; exact(XV.mp hx).1
  let#[x',hx',hAt]:=hps.get (i:=i) (d:=.str N.ps[i]) (by simp only[fo,FM hi]; rfl);rw[hx]at hx';cases hx';let#[rfl,_]:=hAt;intro q hq;have las:as.length<=i:=by have:=congrArg jG hm; simp only[No,ie]at this; lk
  have nq:d≠q:=λe=>by rw[←e,st.top]at hq; cases hq
  have las2:(as.map λx=>((.inr x.1:Key),V.ref x.2)).length=as.length:=No ..;refine#[_,rfl,_,rfl,d,_,rfl,DPut.k (k:=.inr N.ps[i]) (by rw[AL nq]; exact st.top)^by lk,?_];refine#[as++[(N.ps[i],q)],_,_,_,_,rfl,?_,st.more hq ?_ rfl]
  .rw[gW,hm,List.take_succ,FM hi]; rfl
  .rw[hm]; exact OV (LZ ok.rise) hi
 .rintro σ H' ⟨as,x2,x3,x4,x5,rfl,hm,st⟩
  simp only[lus,lC]at hm;refine#[_,rfl,an,_,1,_,rfl,rfl,SqN _ st.old,rfl,at_,rfl,#[_,SqW _ st.old],?_];refine Pw (xs:=ws) (λi σ H'=>∃(x2 x3 x4 x5:s_ V),σ=[P3^.ref an,P3^.ref d,x2,x3,x4,x5]/\Stp H d as (λp=>(DK (N.ts.take i) p).map kv) H') #[_,_,_,_,rfl,st] (λi σ H' hi #[x2,x3,x4,x5,e,st]=>SqW _ st.old) ?_ ?_
  .rintro i x σ H' hx ⟨x2,x3,x4,x5,rfl,st⟩
   have hi:i<N.ts.length:=by simp only[←lws]; exact(XV.mp hx).1
   let#[x',hx',hAt]:=hts.get (i:=i) (d:=AR N.ts[i]) (by simp only[fo,FM hi]; rfl);rw[hx]at hx';cases hx';have hmem:N.ts[i]∈N.ts:=gH hi;have hsnoc:N.ts.take (i+1)=N.ts.take i++[N.ts[i]]:=by simp only[List.take_succ,FM hi]; rfl
   have hpre:(N.ts.take (i+1)).Pairwise Bq:=ok.qg.sublist^mL _ _;have hlt2:∀s∈N.ts.take (i+1),cs s.a<cs s.b:=λs hs=>(ok.tin s^lU hs).2.2.1;rw[hsnoc]at hpre hlt2;have new:=UA hpre hlt2;have ltk:(N.ts.take i).length<=1000:=by rw[ie]; lk
   generalize N.ts[i]=t at hAt hmem hsnoc new;generalize N.ts.take i=ts at hsnoc new st ltk;let#[m1,m2,m3,_]:=ok.tin t hmem;have hab:t.a≠t.b:=λe=>by rw[e]at m3; exact jg _ m3
   let#[ta,tb,tl]:=t;let#[tt,us3,rfl,htt,hit]:=hAt;let#[va,r3,rfl,#[rfl,_],vb,r4,rfl,#[rfl,_],vl,r5,rfl,rfl,e5]:=hit;cases(show r5=[]from e5);simp only[←hm]at m1 m2;let#[#[xa,pa],ha,ea]:=Rs.mp m1;let#[#[xb,pb],hb,eb]:=Rs.mp m2;have ea':ta=xa:=ea.symm;have eb':tb=xb:=eb.symm;subst ea' eb';clear ea eb;replace hab:ta≠tb:=hab;replace new:tb∉(DK ts ta).map (·.1)/\ta∉(DK ts tb).map (·.1):=new;have ga:=zy.k (k:=.inr ta) st.top;simp only[IB st.nms ha]at ga;have l1:=Pn ts ta;refine#[tt,_,rfl,SqT.of^st.old _ _ htt,rfl,_,_,rfl,_,_,rfl,_,_,rfl,rfl,?_];refine#[_,rfl,_,rfl,_,rfl,d,_,rfl,ga,_,rfl,pa,_,rfl,DPut.k (k:=.inr tb) (st.inn _ ha).2.2 (by show((DK ts ta).map kv).length<sizeLine; rw[No]; lk),?_];have st1:=st.put (tb2:=λp=>(DK ts p++if ta=p then [(tb,tl)]else []).map kv) ha (kvs:=putK ((DK ts ta).map kv) (.inr tb)^.int tl) (by rw[PZ new.1,if_pos rfl]) (λq hq=>by rw[if_neg^gf hq,gM]);have gb:=zy.k (k:=.inr tb) st1.top;simp only[IB st1.nms hb]at gb;have l2:=Pn ts tb;have ib:=(st1.inn _ hb).2.2;simp only[if_neg hab,gM]at ib;refine#[_,rfl,_,rfl,_,rfl,d,_,rfl,gb,_,rfl,pb,_,rfl,DPut.k (k:=.inr ta) ib (by rw[No]; lk),?_];refine#[_,_,_,_,rfl,st1.put hb ?_ λq hq=>?_]
   .show(DK (N.ts.take (i+1)) tb).map kv=_
    rw[hsnoc,M7,PZ new.2];show((DK ts tb++((if ta=tb then [(tb,tl)]else [])++if tb=tb then [(ta,tl)]else [])).map kv)=_;rw[if_neg hab,if_pos rfl]; rfl
   .show(DK (N.ts.take (i+1)) q).map kv=_
    rw[hsnoc,M7];show((DK ts q++((if ta=q then [(tb,tl)]else [])++if tb=q then [(ta,tl)]else [])).map kv)=_;rw[if_neg^gf hq,gM]
  .rintro σ H' ⟨x2,x3,x4,x5,rfl,st⟩
   rw[lws,lC]at st
   have old:∀(f:Ch->Obj) b o,H b=P3 o->FK H' (as.map (·.2)) f b=P3 o:=λf b o e=>by
    rw[Dg λhm=>by let#[x,hx,e2]:=Rs.mp hm; have:=(st.inn x hx).1; rw[e2,e]at this; cases this];exact st.old b o e
   refine#[_,rfl,(as.map fun(x:Str×Ch)=>x.2),λb hb=>?_,λf=>q (.ref d) (FK H' (as.map fun(x:Str×Ch)=>x.2) f) (El N) n (λb o e=>#[o,old f b o e,λ_=>rfl,λ_ _=>rfl]) (λg hg=>?_) (show At K M (FK H' (as.map fun(x:Str×Ch)=>x.2) f) (El N)^.ref d from st.at_ dom hm f) p]
   .let#[x,hx,rfl]:=Rs.mp hb
    exact#[_,(st.inn x hx).2.2]
   .let#[a,r,cells,hf,hcf,hc,rest]:=fd0 g hg
    exact#[a,r,cells,old f _ _ hf,hcf,#[hc.1,old f _ _ hc.2],rest]
theorem HM:A.Y "steps_of" 1 ["net"] .sh Ue:=A.got A.h05 λ_ F _ _=>fW F
theorem Li:A.Y "only" 1 ["net","ties"] .sh O9:=A.gk A.h06 ["net","ties"] (λT _ v=>(AE^AJ^AT^AA (Aj (dv 0) AB)^AA (Vx T.Gab (Ai Fz MM rfl T.Gaf k6 (AN (Ey 1) AW))) AG)) (@λB n C h=>by
 let#[N,z,D,rfl,c,d,p]:=h;refine#[_,AD (j:=0) rfl,z,_,rfl,c,by simp_all,#[λx a=>?_,λx a y e i k l m=>?_],λo q r=>?_]
 .let#[t,_,rfl]:=Rs.mp a
  exact#[D4 t,rfl,iu _ _]
 .let#[t,_,rfl]:=Rs.mp a
  let#[u,_,rfl]:=Rs.mp e;cases(show P3^D4 t=P3 i from l);cases(show P3^D4 u=P3 k from m);rfl
 .let#[b,s,rfl]:=PD (g:=ZA) (λ_=>rfl) q
  exact#[z2,p b s^Pl r])
theorem Lj:A.Y "is_tie_of" 2 ["net","thing"] .sh eP:=A.gk A.h07 ["net","thing"] (λ_ _ k=>(AE^AJ^Cv (BD (Bp k) B_ (dv 1) (Aj (dv 0) AB)^by with_unfolding_all rfl)^D9^cg k (HN A)^BZ (Aj (dv 1) AB) AF)) (@λx n B h=>by
 let#[N,d,rfl,ok,m,p]:=h;exists _,AD (j:=1) rfl,m,(De ok λ_ h=>h).1,_,rfl;cases c:(N.ts.map AR).any λy=>Dt y d with
 | false=>
  have:Im N d=q_:=by
   rw[gj];intro z;let#[s,g,rfl]:=vJ.mp z;simp only[Gh,decide_eq_true g]at c;cases c
  rw[this]at p;exact p
 | true=>
  let#[e,o,q]:=iR.mp c;let#[s,g,rfl]:=Rs.mp o;let#[z,rfl,r]:=RS q;exists _,AD (j:=2) rfl,[z],rfl,rfl
  have:Im N^.tup [.str s.a,.str s.b,z]=R8 z:=by
   rw[hX,vJ];constructor
   .rintro⟨t,_,e⟩
    have e:z=.int t.len:=by injection e with e; injection e with _ e; injection e with _ e; injection e
    rw[e];rfl
   .intro u
    cases z with
    |int i=>exact#[s,g,by rw[r i rfl]; rfl]
    |_=>cases u
  rw[this]at p;exact p)
theorem OT:A.Y "is_thin" 3 ["net","thing"] .sh Ud:=A.gk A.h08 ["net","thing"] (λT _ g=>(AC (Aa (DTW.dt^BR (As^Ah^cg g (Cf A)^BZ AB^BA 1 AF)^BX^As^Ah (Bk kit_tuple (Aj (dv 1) AB) rfl T.Gaa rfl T.Gab (by decide +kernel))) (AE^AJ BU) AO)
 (AE^AJ^Cv (BD (G2 g) LI (Aj (dv 1) AB) (Aj (dv 0) AB)^Bj _)^Cv (Ai (Dl rfl) Jy rfl T.Gah ia (AN (Hd ["net","tie"] [P3 0,o_] (A8^Aj (dv 1) AB) (λC=>CU 1 C) A0^cg g (Lj A)^BA 0^BA 1 AF) AW))^D9^cg g (Lk A)^BZ (Aj (dv 1) AB) AF))) (@λQ n r h=>by
 let#[N,d,rfl,ok,R,S,u,D,E,p]:=h;exists 2,d,rfl;cases i:tupleOfB 2 d with
 |false=>
  rw[Mf λp c e=>by rw[e]at i; cases i]at p;exact Ay p
 | true=>
  let#[x,y,rfl]:=X1 i;refine Az #[_,AD (j:=1) rfl,?_];cases y with
  | tup c=>
   rw[←QX ok]at p;have F:qY (10 ^ 41) x:=u.1;have G:Cj (10 ^ 41) c:=u.2.1;have H:max (Ct x)^max (CW c+1) 0+1<=90:=E;have I:BY x+1+(Be c+1+0)<=200000:=D;refine Az #[_,AD (j:=0) rfl,_,AD (j:=0) rfl,Bb (B:=10 ^ 41) (by cbv) F^by lk,Cq ok.names,?_];refine HF (b1:=Dt x^.tup^N.ps.map .str) (b2:=c.all^Im N&&Jw c) (P:=r) (n:=n) (k:=λP=>_) (λ_ l=>?_) p;refine#[_,AD (j:=1) rfl,by show c.length<=10000000; have:=Pp c; lk,?_];refine Ag (λd=>.bl^Im N d) (λv=>∃s,v=[.sh^enc N,s]) _ _ _ _ ?_ #[_,rfl] ?_
   .rintro e z v m U ⟨s,rfl⟩ o
    have J:CW c<=88:=by lk
    exact#[N,e,rfl,ok,Bb (B:=10 ^ 41) (by cbv) (qz.mp G e z) (by have:=qJ.mp J e z; lk),o _ #[_,rfl]]
   rw[fw];exists _,_,rfl,E6 (Im N) c;rw[UW];refine HF (b1:=c.all^Im N) (b2:=Jw c) (P:=r) (n:=n) (k:=λP=>_) (λq l=>?_) l;let#[L,rfl,M]:=Mg q
   have:=NI L
   refine#[_,AD (j:=1) rfl,_,_,rfl,rfl,by rw[No]; lk,λa q b O=>?_,l];let#[s,_,rfl]:=Rs.mp q;let#[t,_,rfl]:=Rs.mp O;exact#[_,Oe s t]
  |_=>
   rw[Mf λp c e=>by cases e]at p;exact Ay p)
theorem HP:A.Y "ahead_of" 2 ["net","tie"] .sh J1:=A.gk A.h09 ["net","tie"] (λ_ _ b=>(AE^AJ^cg b (Li A)^BA 0^AS (Jm^Hd ["tie","other"] [P3 1,o_] (A8^Aj (dv 0) AB) (λk=>CU 1 k) (GZ^Bl (Ck b) EN (cg b (Fj A)^BA 1 AF)^cg b (Fj A)^BA 0 AF)^dv 1) AF)) (@λD n E h=>by
 let#[M,u,rfl,a,p]:=h;have ok:=a.1;have o:=a.2.2;refine#[_,AD (j:=1) rfl,by show(M.ts.map AR).length<=10000000; rw[No]; lk,?_];refine Dd (λd=>match d with|.tup [.str x,.str y,.int l]=>A6 [.inl l,.inr x,.inr y]^Ba u|_=>q_) id (λi=>∃s,i=[.sh^AR u,s]) _ _ _ _ ?_ #[_,rfl] ?_
 .rintro d q i m F G ⟨s,rfl⟩ r t
  let#[v,H,rfl]:=Rs.mp q;exists _,_,_,rfl,_,_,_,rfl,Ba v,Ba u,rfl,rfl,rfl;rw[Q6];show if A6 (Ba v) (Ba u)=p_ then _ else _
  exact B9 (λc=>r _ #[_,rfl] c) λc=>t _ #[_,rfl]^gj.mpr c
 .rw[fw,ll]
  have e:(M.ts.map AR).filter (λd=>match d with|.tup [.str x,.str y,.int l]=>A6 [.inl l,.inr x,.inr y]^Ba u|_=>q_)=(M.ts.filter λv=>A6 (Ba v)^Ba u).map AR:=by
   rw[List.filter_map];rfl
  rw[e];have g:=U6 a^List.filter_sublist (l:=M.ts) (p:=λv=>A6 (Ba v)^Ba u);refine#[M,_,M.ts.filter λv=>A6 (Ba v)^Ba u,rfl,rfl,by have:=iZ (λv=>A6 (Ba v)^Ba u) M.ts; omega,λz B C=>?_];rw[Iq B C^Jt g.2];exact p)
theorem GI:A.Y "length_of" 2 ["net","thing"] .sh ZZ:=A.gk A.h0a ["net","thing","steps","length","here","there"] (λT o b=>(AC (Aa (DTW.dt^BR (As^Ah (Bk kit_tuple (dv 1) rfl T.Gaa rfl T.Gab (by decide +kernel)))^BX^Bl Bt DD (Fw T.Gac^dv 1) AB) (AE^AJ A2) AO)
 (AC (Aa (As^Ah (Ai (Dl rfl) Jy rfl T.Gah ia (AN (Hd ["place"] [o_] (A8^dv 1) (λC=>CU 0 C) A0 (Bk Ls (dv 0) rfl T.Gaa rfl T.Gaj (by decide +kernel))) AW))) (AE^AJ A2) AO)
 (AC (CB 2 o^cg b (HM A)^BA 0 AF)
 (AC (Aa (Bl (E9 b) Gk (Aj (dv 1) AB)^dv 2) (AE^AJ A2) AO)
 (AC (CB 3 o AB)
 (AC (CP gL rfl (Y8 rfl T.Gaq (AA (dv 1)^AA (Bu DA Bv (dv 1) (Ao AB) BE) AG)) (Ry^Af (CU 4 o)^Af (CU 5 o) CM) (AC (Aa (Bl (E9 b) Gk (dv 5)^By b (dv 2)^dv 4) (AE^AJ A2) AO)
 (AE (V2 (i:=3) o rfl (gi rfl) (By b (By b (dv 2)^dv 4)^dv 5)))))
 (AE^AJ^dv 3)))))))) (@λG n z E=>by
 let#[N,d,rfl,ok,H,lt,fd,p]:=E;cases d with
 | tup g=>
  have I:=BL g;have J:Be g<=160000:=fd.2.1;have k:z (if g.all Cg then Q4 N^strsOf g else .non) n:=p;exists _,_,rfl,rfl;show if((g.length:Int)==0)=p_ then _ else _
  cases g with
  |nil=>exact Ay k
  | cons q t=>
   rw[show(((q::t).length:Int)==0)=q_ from beq_eq_false_iff_ne.mpr^by simp only[eq]; lk];refine Az #[by lk,?_];refine Ag (λd=>.bl^Cg d) (λB=>∃s,B=[s]) _ _ _ _ ?_ #[_,rfl] ?_
   .rintro d L B m M ⟨s,rfl⟩ u
    have:=u [.sh d] #[_,rfl]
    cases d <;>exact this
   rw[fw];exists _,_,rfl,E6 Cg (q::t);rw[UW];show if(!(q::t).all Cg)=p_ then _ else _
   cases v:(q::t).all Cg with
   |false=>rw[v]at k; exact Ay k
   | true=>
    rw[v]at k;let#[F,e]:=F8 v;rw[e,Bo]at k;cases F with
    |nil=>cases e
    | cons y r=>
     simp only[gJ]at e;cases e;refine Az #[N,rfl,ok,by lk,by lk,?_];exists .str y,AD (j:=0) rfl,_,_,.inr y,rfl,rfl;show if(!(BI (N.ps.map .inr) (N.ps.map^Up N.ts)^.inr y).isSome)=p_ then _ else _
     rw[IC];have a:z (if y∈N.ps then J7^EH N.ts y r 0 else .non) n:=k
     by_cases x:y∈N.ps
     .rw[if_pos x]at a ⊢
      refine Az #[_,_,(y::r).map .str,r.map .str,rfl,rfl,by show P3^Dp.cutD (D.str y::r.map .str) (P3 1) o_=_; rw[ZH]; rfl,?_];refine NF ok r y 0 _ _ x ?_;cases c:EH N.ts y r 0 with
      |none=>rw[c]at a; exact a
      |some l=>rw[c]at a; exact λ_ _=>a
     .rw[if_neg x]at a ⊢
      exact Ay a
 |_=>exact p)
theorem GJ:A.Y "length_between" 3 ["net","a","b","thing"] .sh cM:=A.gk A.h0b ["net","a","b","thing","length"] (λ_ m o=>(AC (CB 4 m^cg o (GI A)^BA 0^BA 3 AF)
 (AC (Aa (DTW.dt^BR (Bl Fi Jx (dv 4) A2)^BR (Bl Dw Gj (Aj (dv 3) AB)^dv 1)^BX^Bl Dw Gj (Aj (dv 3)^Cu AB)^dv 2) (AE^AJ A2) AO)
 (AE^AJ^dv 4)))) (@λu n q h=>by
 let#[M,a,b,d,rfl,c,s,p]:=h;exists M,d,rfl,c.1,by have:=c.2.1; lk,c.2.2,s;unfold Yj at p
 rcases Kq M d with e|⟨x,r,l,rfl,e⟩
 .rw[e]at p ⊢
  exact#[rfl,p]
 .rw[e]at p ⊢
  have t:U8^R_ (x::r)=x::r:=Bo _;simp only[t]at p;obtain⟨y,g⟩:∃y,(x::r).getLast?=P3 y:=#[_,lY^by simp];exists rfl,.str x,AD (j:=0) rfl;show if(!(x==a))=p_ then _ else _
  rw[g]at p;have p:q (if(P3 x==P3 a&&P3 y==P3 b)=p_ then .int l else .non) n:=p;rw[kJ,kJ]at p;cases i:x==a with
  |false=>rw[i]at p; exact Ay p
  |true=>
   rw[i]at p;refine Az #[1,rfl,.str y,Lr g,?_];show if(!(y==b))=p_ then _ else _
   cases k:y==b with
   |false=>rw[k]at p; exact Ay p
   |true=>rw[k]at p; exact Az p)
theorem J9:A.Y "nearest_of" 1 ["waiting","found"] .sh cJ:=A.gk A.h0c ["waiting","found"] (λT _ o=>(AE^AJ^Aj (Ai (Rc o) ZS rfl T.Gap boot_min (AN (Hd ["found","place"] [P3 1,o_] (A8^Ey 0) (λG=>CU 1 G) A0^AT^AA (Aj (By o (Ey 0)^dv 1) AB)^AA (dv 1) AG) AW)) AB)) (@λW n X h=>by
 let#[i,B,C,F,rfl,M,H,k,Z,p]:=h;exists by show(i.map D.str).length<=10000000; rw[No]; lk
 have c:∀x∈i,∃d q,F x=P3 (d,q):=λx b=>by
  cases e:F x with
  |none=>exact absurd e^H x b
  |some a=>exact#[a.1,a.2,rfl]
 refine Ag (λd=>match d with|.str x=>.tup [.int ((F x).getD (0,o_)).1,.str x]|d=>d) (λE=>∃s,E=[.br^.dic B C,s]) _ _ _ _ ?_ #[_,rfl] ?_
 .rintro d I E m nx ⟨s,rfl⟩ J
  let#[x,b,rfl]:=Rs.mp I;let#[L,q,ex]:=c x b;exists B,C,_,H_ (L,q),rfl,rfl,by simp only[M.at_,ex]; rfl,_,AD (j:=0) rfl,(by cbv:2<=sizeLine)
  simp_all
 rw[fw,g9];refine#[_,rfl,?_,#[λx b=>?_,λx b y l N O Q R=>?_],λx b g=>?_]
 .rw[No]
  cases i with
  |nil=>exact absurd rfl k
  |cons a r=>exact Nat.succ_pos _
 .let#[z,_,rfl]:=Rs.mp b
  exact#[_,rfl,iu _ _]
 .let#[z,_,rfl]:=Rs.mp b
  let#[u,_,rfl]:=Rs.mp l;cases(show P3 [kd _,iS _]=P3 N from Q);cases(show P3 [kd _,iS _]=P3 O from R);rfl
 .let#[v,S,rfl]:=Rs.mp b
  refine#[_,AD (j:=1) rfl,p v S λy l dv pv dy py U V=>?_]
  have:=eK (g _ (Rs.mpr #[y,l,rfl]) _ _ rfl rfl)
  rw[U,V]at this;exact this)
theorem FU:A.Y "least_ways" 2 ["net","start"] .fr Za:=A.gk A.h0d ["net","start","steps","found","waiting","place","other","step","length"] (λ_ R I=>(AC (CB 2 R^cg I (HM A)^BA 0 AF)
 (AC (N0 3 R^Nc (dv 1)^AT^AA AB^AA A2 AG)
 (AC (N0 4 R^BM^AA (dv 1) AG)
 (AC (GW gL (Y2^Ey 4) (AC (CB 5 R^cg I (J9 A)^AS (Jm^Ey 4)^AS (Jm^Ey 3) AF)
 (AC (EL 4 Qi PySem.F.slot_list_remove PySem.F.type_list_remove (Qy I) b9 (pv 4)^AA (dv 5) AG)
 (AE (CP gL rfl (UG^By I (dv 2)^dv 5) (Ry^Af (CU 6 R)^Af (CU 7 R) CM) (AC (CB 8 R^AV AX Ac (Aj (By I (Ey 3)^dv 5) AB)^dv 7)
 (AE (Aa (Bl (E9 I) Gk (dv 6)^Ey 3) (AC (EL 4 Qi Rw Ru BP Ec (pv 4)^AA (dv 6) AG)
 (AE^L_ (i:=3) I (pv 3) (dv 6)^AT^AA (dv 8)^AA (dv 5) AG))^AE^Aa (Bl (Ck I) EN (dv 8)^Aj (By I (Ey 3)^dv 6) AB) (AE^L_ (i:=3) I (pv 3) (dv 6)^AT^AA (dv 8)^AA (dv 5) AG) AO))))))))
 (AE^P4 3^pv 3)))))) (@λss n Pd h=>by
 let#[N,s,rfl,#[ok,lp,lt],hs,p]:=h;have a8:=PySem.sizeLine_eq;refine#[N,rfl,ok,by lk,by lk,?_];exists(by cbv:2<=sizeLine),_,A3 s,(by cbv:1<=sizeLine);refine Gq (λm Z ρ=>Z=n/\∃(C:r_ Str) (o:r_ Key) (r:r_ D) (F:MU) (s5 T U V:Slot),ρ=[.sh^enc N,.sh^.str s,.sh^El N,.ow^.dic o r,.ow^.lst^C.map .str,s5,T,U,V]/\qP o r H_ F/\Dj N s F C/\m+o.length=N.ps.length+C.length) (N.ps.length) #[rfl,[s],[.inr s],[H_ (0,o_)],_,_,_,_,_,rfl,qP.one,Dj.init hs,rfl] ?_ ?_
 .rintro m Z ρ N' ⟨rfl,C,o,r,F,s5,T,U,V,rfl,M,J,hm⟩ hN
  cases C with
  |nil=>
   exact#[q_,rfl,_,rfl,p o r F M J.told]
  | cons E G=>
   exists p_,rfl;have B:∀x∈E::G,x∈N.ps:=λx W=>J.ins x^J.qT x W;have wl:=LN J.nd B;refine#[E::G,o,r,F,rfl,M,J.qT,iu _ _,by lk,λv X a0=>?_]
   obtain⟨dv,pv,ev⟩:∃d q,F v=P3 (d,q):=by
    cases e:F v with
    |none=>exact absurd e^J.qT v X
    |some a=>exact#[a.1,a.2,rfl]
   have H:=J.take X ev λy hy dy q L=>a0 y hy dv pv dy q ev L;have a1:=B v X;have a2:(E::G).idxOf v<(E::G).length:=List.idxOf_lt_length_of_mem X;have a3:(E::G)[(E::G).idxOf v]?=P3 v:=by simp only[FM a2,List.getElem_idxOf]
   have ee:((E::G).map D.str).eraseIdx^(E::G).idxOf v=((E::G).erase v).map D.str:=by
    simp only[List.erase_eq_eraseIdx_of_idxOf (rfl:(E::G).idxOf v=_),K3]
   exists _,rfl,rfl,_,_,(E::G).idxOf v,rfl,rfl,Qx ok B,Eu^ok.names v a1,#[.str v,by simp only[fo,a3]; rfl,by show(v==v)=p_; exact beq_self_eq_true v],λk x hk W=>?_
   .rw[fo]at W
    let#[t,ht,rfl]:=gY.mp W;have a9:k<(E::G).length:=(XV.mp ht).1;have hh:=List.not_of_lt_findIdx (p:=λy=>y==v) (xs:=E::G) hk;have e2:(E::G)[k]=t:=(XV.mp ht).2;have h3:((E::G)[k]==v)=q_:=hh;rw[e2]at h3;exact h3
   rw[ee];exists _,_,_,Up N.ts v,rfl,A3 v,QZ a1,_,_,rfl,λk hk=>?_
   .let#[q,hq,rfl]:=Rs.mp hk
    have:=(ok.names _ (Lo ok hq).1).2.1
    show q.1.length<=sizeLine;lk
   rw[Us];have el:=List.length_erase_of_mem X
   have S:∀(u g:r_ (Str×Int)) (C:r_ Str) (o:r_ Key) (r:r_ D) (F:MU) (T U V:Slot),g++u=DK N.ts v->qP o r H_ F->Dm N s F C v dv g->m+o.length=N.ps.length+C.length+1->
     BH (HE 2^BK (Aq 6)^BK (Aq 7) Eb) (BV (CY 8^Am BO (Am CV (Am GS (Bc 3)^AH 5)^wC^D.int 0)^AH 7)
 (CZ (Au^Am (RO p_) (AH 6)^Bc 3) (BV (Rt 4 "list" Hz^AM (AH 6) Ad)
 (KU 3 (AH 6)^Bs^AM (AH 8)^AM (AH 5) Ad))^CZ (Au^Am HA (AH 8)^Am CV (Am GS (Bc 3)^AH 6)^wC^D.int 0) (KU 3 (AH 6)^Bs^AM (AH 8)^AM (AH 5) Ad) Bm)) {EF Pd with nx:=N',ct:=N',bk:=SE 3^EF Pd} (u.map df) Z [.sh^enc N,.sh^.str s,.sh^El N,.ow^.dic o r,.ow^.lst^C.map .str,.sh^.str v,T,U,V]:=by
    intro u
    induction u with
    |nil=>
     intro g C o r F T U V e M H hm;rw[gM]at e;exact hN (m - 1) Z _ (by have:=M.le H.ins; lk) #[rfl,C,o,r,F,_,_,_,_,rfl,M,H.finish λy l hy=>by rw[e]; exact hy,by have:=M.le H.ins; lk]
    | cons q u ih=>
     intro g C o r F T U V e M H hm;let#[y,l]:=q;have he:Ed N v y l:=by show(y,l)∈DK N.ts v; rw[←e]; exact f8 _ Op
     have e':(g++[(y,l)])++u=DK N.ts v:=by rw[iB]; exact e
     let#[pv,ev]:=H.here;have kl:=M.le H.ins;have b0:=he.ins ok;have B:∀x∈C,x∈N.ps:=λx W=>H.ins x^H.qT x W;have wl:=LN H.nd B;exists rfl,rfl;exists o,r,_,H_ (dv,pv),rfl,A3 v,by rw[M.at_,ev]; rfl,_,AD (j:=0) rfl;exists o,r,_,rfl,A3 y;show if(!(BI o r^.inr y).isSome)=p_ then _ else _
     cases L:F y with
     |none=>
      have a6:=(M.has (x:=y)).1 L;rw[M.at_,L];refine Ay #[_,rfl,rfl,_,_,rfl,rfl,by rw[No]; lk,?_];exists o,r,rfl,(by cbv:2<=sizeLine),_,A3 y,by lk
      have:=ih (g++[(y,l)]) (C++[y]) (DJ o^.inr y) (DX o r (.inr y)^H_ (dv+l,P3 v)) _ (.sh^.str y) (.sh^.int l) (.sh^.int (dv+l)) e' (M.put y (dv+l,P3 v)) (H.find ok he L)^by rw[JC,if_neg (by rw[a6]; decide),fh,gC]; lk
      rw[gW]at this;exact this
     | some a=>
      let#[dy,qy]:=a;have a4:=(M.has (x:=y)).2 (by rw[L]; intro z; cases z);rw[M.at_,L];refine Az #[o,r,_,H_ (dy,qy),rfl,A3 y,by rw[M.at_,L]; rfl,_,AD (j:=0) rfl,?_];show if decide (dv+l<dy)=p_ then _ else _
      by_cases c:dv+l<dy
      .rw[decide_eq_true c]
       refine Ay #[o,r,rfl,(by cbv:2<=sizeLine),_,A3 y,by lk,?_];exact ih (g++[(y,l)]) C (DJ o^.inr y) (DX o r (.inr y)^H_ (dv+l,P3 v)) _ (.sh^.str y) (.sh^.int l) (.sh^.int (dv+l)) e' (M.put y (dv+l,P3 v)) (H.nearer ok he L c)^by rw[JC,if_pos a4]; omega
      .rw[decide_eq_false c]
       exact Az^ih (g++[(y,l)]) C o r F (.sh^.str y) (.sh^.int l) (.sh^.int (dv+l)) e' M (H.skip L^by lk) hm
   exact S (DK N.ts v) [] ((E::G).erase v) o r F _ _ _ rfl M H (by have:=List.length_pos_of_mem X; lk)
 .rintro Z ρ P Q a7 h
  unfold Z4 Bc at h ⊢
  split at h
  all_goals first
   |exact h.elim
   |(let#[c,hc,h]:=h; exact#[c,hc,a7 _ _ h]))
theorem Kj:A.Y "way_of" 3 ["net","a","b"] .sh cE:=A.gk A.h0e ["net","a","b","found","way","place"] (λT t B=>(AC (CB 3 t^cg B (FU A)^BA 0^BA 1 AF)
 (AC (Aa (Bl (E9 B) Gk (dv 2)^dv 3) (AE^AJ A2) AO)
 (AC (N0 4 t^BM AG)
 (AC (CB 5 t^dv 2)
 (AC (GW gL (Bl IM MN (dv 5) A2) (AC (EL 4 Qi Rw Ru BP Ec (pv 4)^AA (dv 5) AG)
 (AE^CB 5 t^Aj (By B (dv 3)^dv 5) AB)))
 (AE^AJ (RX rfl (Ey 4) rfl T.Gab rfl T.Gan)))))))) (@λss n Pd h=>by
 let#[N,a,b,rfl,g,O,hb,p]:=h;have R:=PySem.sizeLine_eq;have ok:=g.1;refine#[N,a,rfl,g,O,λu v F M T=>?_];exists u,v,_,rfl,A3 b;show if(!(BI u v^.inr b).isSome)=p_ then _ else _
 have d:=T.far b;cases i:F b with
 |none=>
  rw[M.at_,i];rw[i]at d;exact Ay^p o_ d
 | some x=>
  let#[k,S]:=x;rw[M.at_,i];refine Az #[z0,?_];refine Gq (λm C D=>C=n/\∃(c:r_ Str) (o:s_ Str),D=[.sh^enc N,.sh^.str a,.sh^.str b,.sh^.dic u v,.ow^.lst^c.map .str,.sh^bC o]/\WInv N F b k c o/\m=wm F o) (wm F^P3 b) #[rfl,[],P3 b,rfl,#[.inl #[rfl,rfl],gl,(λx s=>by cases s),(λ_ _ _ _ _ x s=>by cases s),λy e=>by cases e; rw[i]; intro z; cases z],rfl] ?_ ?_
  .rintro m C D N' ⟨rfl,c,o,rfl,J,rfl⟩ U
   have wl:=LN J.nd J.ins;have V:=g.2.1;cases o with
   | none=>
    exists rfl,_,rfl
    rcases J.st with⟨_,e⟩|⟨z,r,W,X,E,Z,e4⟩
    .cases e
    .have hz:z=a:=by
      rcases T.prev z W o_ E with⟨_,w⟩|⟨w',a0,q',l,k1,_⟩
      .exact w
      .cases k1
     subst hz;rw[T.start]at E;cases E;rw[←List.map_reverse];refine p (P3 c.reverse) #[k - 0,r,X,e4,Z,?_,by rw[jB]; lk,λx s=>J.ins x^kL.mp s];simp only[show k - 0=k by lk];exact T.least b k S i
   | some y=>
    cases G:F y with
    |none=>exact absurd G (J.fnd y rfl)
    |some q=>
     let#[dy,H]:=q;let#[J2,I]:=J.step ok T i G;exists rfl;refine#[_,rfl,rfl,_,_,rfl,rfl,by rw[No]; lk,?_];exists u,v,_,H_ (dy,H),rfl,A3 y,by rw[M.at_,G]; rfl,_,AD (j:=1) rfl;refine U (wm F H) _ _ I #[rfl,c++[y],H,?_,J2,rfl];rw[gW];rfl
  .rintro C D P Q L h
   unfold Au Am AH wC L3 at h ⊢
   split at h
   .exact#[h.1,L _ _ h.2]
   .exact h.elim)
theorem J_:A.Y "are_prices" 2 ["net","thing"] .sh WR:=A.gk A.h0f ["net","thing"] (λT _ e=>(AE^AJ^Cv (cg e (Cf A)^BZ (Fw T.Gac^Aj (dv 0) AB)^BA 1 AF)^D9 (Ai (Dl rfl) Jy rfl T.Gah ia (AN (Hd ["price"] [o_] (A8^dv 1) (λl=>CU 0 l) A0^Cv (cg e (HN A)^BA 0 AF)^D9^BD Yc cC (dv 0) AB^Bj _) AW)))) (@λu n g h=>by
 let#[N,d,rfl,c,p]:=h;have o:=c.2.1;exists _,AD (j:=0) rfl,_,_,rfl,rfl,_,d,rfl;cases d with
 | tup a=>
  have q:g (.bl (((a.length:Int)==(N.ps.length:Int))&&a.all Nz)) n:=p;rw[No];refine HF (b1:=((a.length:Int)==(N.ps.length:Int))) (λr t=>?_) q;have v:a.length=N.ps.length:=by have:=beq_iff_eq.mp r; lk
  refine#[by show a.length<=10000000; lk,?_];refine Ag (λd=>.bl^Nz d) (λk=>∃s,k=[s]) _ _ _ _ ?_ #[_,rfl] ?_
  .rintro d x k m y ⟨s,rfl⟩ b
   exists[d],rfl,rfl;cases d with
   |int i=>exact b _ #[_,rfl]
   |_=>exact b _ #[_,rfl]
  .rw[fw]
   exact GU (p:=Nz) (P:=λz=>g z n) t
 |_=>exact p)
theorem GH:A.Y "price_gap" 1 ["net","prices","a","b"] .sh eT:=A.gk A.h0g ["net","prices","a","b"] (λT _ e=>(AE^AJ (Ai Js Ub rfl T.Gal boot_abs (AN (AV DM EX (Aj (dv 1)^MC e (Aj (dv 0) AB)^AN (dv 2) AW)^Aj (dv 1)^MC e (Aj (dv 0) AB)^AN (dv 3) AW) AW)))) (@λy n z h=>by
 let#[N,B,a,b,rfl,d,g,k,l,m,p]:=h;let#[i,o,c,q,r,s]:=XH d g k l;let#[j,t,_,u,v,x]:=XH d g k m;exact#[_,AD rfl,#[_,rfl],_,_,i,rfl,rfl,c,q,r,s,_,AD o,_,AD rfl,#[_,rfl],_,_,j,rfl,rfl,c,u,v,x,_,AD t,p])
theorem OU:A.Y "is_fair" 3 ["net","thing"] .sh cN:=A.gk A.h0h ["net","thing"] (λT _ q=>(AC (Aa (As^Ah^cg q (J_ A)^BA 0^BA 1 AF) (AE^AJ BU) AO)
 (AE^AJ (Ai (Dl rfl) Jy rfl T.Gah ia (AN (Hd ["net","thing","a","b","length"] [P3 0,P3 1,o_,o_,o_] (A8^Aj (dv 0) AB) (λk=>Ry^Af (CU 2 k)^Af (CU 3 k)^Af (CU 4 k) CM) A0^BD G1 LH (cg q (GH A)^BA 0^BA 1^BA 2^BA 3 AF) (dv 4)^Bj _) AW))))) (@λJ n r h=>by
 let#[N,d,rfl,e,p]:=h;have ok:=e.1;have C:=e.2.2;exists N,d,rfl,e;show if(!(Zv N d))=p_ then _ else _
 cases i:Zv N d with
 | false=>
  have:FZ N d=q_:=by
   cases d with
   |tup c=>show(Zv N^.tup c&&_)=q_; simp only[i]; rfl
   |_=>rfl
  rw[this]at p;exact Ay p
 | true=>
  cases d with
  | tup c=>
   have g:(((c.length:Int)==(N.ps.length:Int))&&c.all Nz)=p_:=i;simp only[ZB]at g;have D:c.length=N.ps.length:=by have:=beq_iff_eq.mp g.1; lk
   have E:∀x∈c,Nz x=p_:=gI.mp g.2;have s:r (.bl (Zv N^.tup c&&N.ts.all λt=>decide (Dn (ER N c t.a - ER N c t.b)<=t.len))) n:=p;simp only[i,iM]at s;refine Az #[_,AD (j:=1) rfl,by show(N.ts.map AR).length<=10000000; rw[No]; lk,?_];refine Ag (λd=>match d with|.tup [.str a,.str b,.int l]=>.bl (decide (Dn (ER N c a - ER N c b)<=l))|_=>.non) (λu=>∃v y B,u=[.sh^enc N,.sh^.tup c,v,y,B]) _ _ _ _ ?_ #[_,_,_,rfl] ?_
   .rintro d F u m L ⟨v,y,B,rfl⟩ o
    let#[t,G,rfl]:=Rs.mp F;let#[H,I,_]:=ok.tin t G;exact#[rfl,rfl,N,c,t.a,t.b,rfl,e,D,E,H,I,o _ #[_,_,_,rfl]]
   .rw[fw,g9]
    exact GU (p:=λt:An=>decide (Dn (ER N c t.a - ER N c t.b)<=t.len)) (P:=λz=>r z n) s
  |_=>cases i)
theorem JJ:A.Y "prices_from" 3 ["net","place","most"] .sh Ug:=A.gk A.h0i ["net","place","most","found"] (λT l g=>(AC (CB 3 l^cg g (FU A)^BA 0^BA 1 AF)
 (AE^AJ^Vx T.Gab^Hd ["most","found","other"] [P3 2,P3 3,o_] (A8^Aj (dv 0) AB) (λo=>CU 2 o) A0^EM (Bl (OQ g) Ua (dv 2)^dv 1) (Ai (Rf rfl) ZT rfl T.Gap boot_min (AN (dv 0)^AN (Aj (By g (dv 1)^dv 2) AB) AW))^dv 0))) (@λz n B h=>by
 let#[N,s,m,rfl,b,r,p]:=h;have t:=b.2.1;refine#[N,s,rfl,b,r,λc e F M T=>?_];refine#[_,AD (j:=0) rfl,by grind,?_];refine Ag (λd=>match d with|.str x=>.int (Di m ((F x).map (·.1)))|_=>.non) (λi=>∃k,i=[.sh^.int m,.sh^.dic c e,k]) _ _ _ _ ?_ #[_,rfl] ?_
 .rintro d u i v y ⟨k,rfl⟩ a
  let#[x,C,rfl]:=Rs.mp u;exists c,e,_,rfl,A3 x;show if((BI c e^.inr x).isSome)=p_ then _ else _
  have a:y (.int (Di m ((F x).map (·.1)))) v [.sh^.int m,.sh^.dic c e,.sh^.str x]:=a _ #[.sh^.str x,rfl];rw[M.at_];cases ex:F x with
  |none=>
   rw[ex]at a;exact Az a
  |some q=>
   rw[ex]at a;exact Ay #[c,e,_,H_ q,rfl,A3 x,by rw[M.at_,ex]; rfl,_,AD (j:=0) rfl,a]
 .rw[fw,g9]
  exact p F T)
theorem ET:A.Y "is_within" 1 ["length","times","number"] .sh WQ:=A.gk A.h0j ["length","times","number"] (λ_ _ d=>(AE^AJ^BD G1 LH (AV Ce Do (dv 0)^Aj (dv 1) AB) (AV Ce Do (dv 2)^Aj (dv 1) AB)^Bj _)) (@λe n g h=>by
 let#[l,t,b,x,rfl,i,a,j,c,p]:=h;exact#[_,AD rfl,fD (by lk) a,_,AD rfl,fD (by lk) c,p])
theorem Hk:A.Y "least_beyond" 1 ["times","number"] .sh LJ:=A.gk A.h0k ["times","number"] (λ_ _ a=>(AE^AJ^AV AX Ac (AV IN CQ (AV Ce Do (dv 1)^Aj (dv 0) AB)^Aj (dv 0) AB) AB)) (@λc n d h=>by
 let#[t,b,l,rfl,#[e,g,i,j],p]:=h;exact#[_,AD rfl,.inr^by lk,_,AD rfl,#[by lk,by lk],p])
theorem Mw:A.Y "near_way" 4 ["net","times","tie"] .sh Uj:=A.gk A.h0l ["net","times","tie","way"] (λ_ y m=>(AC (CB 3 y^cg m (Kj A)^BA 0^BZ (Aj (dv 2) AB)^BZ (Aj (dv 2) AB) AF)
 (AC (Aa (DTW.dt^BR (Bl Fi Jx (dv 3) A2)^BX^As^Ah^cg m (ET A)^BZ (cg m (GI A)^BA 0^BA 3 AF)^BA 1^BZ (Aj (dv 2) AB) AF) (AE^AJ A2) AO)
 (AE^AJ^dv 3)))) (@λI n J h=>by
 let#[N,u,t,b,rfl,g,B,C,D,E,F,G,p]:=h;refine#[_,AD (j:=0) rfl,_,AD (j:=1) rfl,N,u.a,u.b,rfl,g,B,C,λo q=>#[rfl,?_]];cases o with
 |none=>
  refine p o_ (λw e=>by cases e) λ_=>?_;rw[gj];intro z;let#[d,l,_]:=qS.mp z;exact q d l.1
 | some w=>
  have s:=q;let#[d,r,rfl,L,H,l,v,k]:=s
  have i:C6 N t b u=decide (d*b<=u.len*t):=by
   rw[hX,qS,decide_eq_true_eq];exact#[fun#[d',hd',x]=>by rw[qF.unique l hd']; exact x,λx=>#[d,l,x]]
  exists N,.tup^(u.a::r).map .str,rfl,g.1,by have:=g.2.1; lk,g.2.2,R9 g.1 v k;rw[Vh g.1 (k _ Op) H];exists _,AD (j:=2) rfl,d,t,b,u.len,rfl,D,E,F,G
  by_cases c:d*b<=u.len*t
  .rw[decide_eq_true c]
   exact p (P3 _) (λw e=>by cases e; exact#[q,by rw[i]; exact decide_eq_true c]) λe=>by cases e
  .rw[decide_eq_false c]
   exact p o_ (λw e=>by cases e) λ_=>by rw[i]; exact decide_eq_false c)
theorem OS:A.Y "thinned" 5 ["net","times"] .sh Nw:=A.gk A.h0m ["net","times","kept","tie"] (λ_ L B=>(AC (N0 2 L^BM AG)
 (AC (CP gL rfl (Fx^cg B (Er A)^BZ (Aj (dv 0) AB) AF) (CU 3 L) (AE^Aa (Bl Fi Jx (cg B (Mw A)^BZ (cg B (Li A)^BA 0^AS (Jm^Ey 2) AF)^BA 1^BA 3 AF) A2) (AE^EL 2 Qi Rw Ru BP Ec (pv 2)^AA (dv 3) AG) AO))
 (AE^AJ^cg B (Li A)^BA 0^AS (Jm^Ey 2) AF)))) (@λss n M h=>by
 let#[N,t,b,rfl,k,R,S,T,U,p]:=h;have ok:=k.1;have V:=k.2.2;have W:=PySem.sizeLine_eq;refine#[z0,_,AD (j:=1) rfl,_,N.ts,rfl,rfl,by lk,λd q X=>?_];have Z:=q.length_eq;have s:d.Nodup:=q.nodup_iff.mpr^BF ok.qg
 have go:∀(c done a:r_ An) (C:Slot),done++c=d->(∀u∈a,u∈done)->a.Nodup->Aw N t b a c=Aw N t b [] d->
   BH (Aq 3) (CZ (Au^Am (L3 q_) (A1 Uj^AI (AU^A1 O9^AI (AU^AH 0)^AI (Ii^Bc 2) A5)^AI (AU^AH 1)^AI (AU^AH 3) A5)^wC D.non) (Rt 2 "list" Hz^AM (AH 3) Ad) Bm) {EE M with nx:=CG (A1 O9^AI (AU^AH 0)^AI (Ii^Bc 2) A5)^EE M} (c.map AR) n [.sh^enc N,.sh^.tup [.int t,.int b],.ow^.lst^a.map AR,C]:=by
  intro c
  induction c with
  |nil=>
   intro done a C e r l m;rw[gM]at e;subst e;have g:∀u∈a,u∈N.ts:=λu E=>q.mem_iff.mp^r u E;have F:=sub_len l (BF ok.qg) g;refine#[N,_,a,rfl,rfl,by lk,λG H I=>?_];rw[OB ok g l H I,show a=Aw N t b [] done from m];exact p done q X
  | cons u c O=>
   intro done a C e r l m;have g:∀v∈a,v∈N.ts:=λv i=>q.mem_iff.mp (by rw[←e]; exact gy _^r v i);have F:=sub_len l (BF ok.qg) g;have E:u∈N.ts:=q.mem_iff.mp^by rw[←e]; exact f8 _ Op
   have J:u∉done:=by
    rw[←e,gg]at s;exact λz=>s.2.2 u z u Op rfl
   have Q:(done++[u])++c=d:=by rw[iB]; exact e
   let#[m1,m2,_]:=ok.tin u E;refine#[N,_,a,rfl,rfl,by lk,λG H I=>?_];rw[OB ok g l H I];refine#[sub N a,u,t,b,rfl,IF k a,m1,m2,R,S,T,U,λo hs hn=>#[rfl,?_]];simp only[Df]at m;cases o with
   |some w=>
    rw[(hs w rfl).2,if_pos rfl]at m;exact O (done++[u]) a _ Q (λv i=>gy _^r v i) l m
   | none=>
    rw[hn rfl,if_neg^by cbv]at m;exists _,rfl,rfl,_,_,rfl,rfl,by rw[No]; lk
    have:=O (done++[u]) (a++[u]) (.sh^AR u) Q (λv i=>by
     rcases Uf.mp i with i|i
     .exact gy _^r v i
     .exact f8 _ i) (by
     rw[gg];exact#[l,gF.mpr #[ft,gl],λx hx y hy z=>J^by simp only[←Re.mp hy,←z]; exact r x hx]) m
    rw[gW]at this;exact this
 exact go d [] [] _ rfl (λu h=>by cases h) gl rfl)
theorem Hl:A.Y "greedy_paper" 6 ["net","times"] .sh Rm:=A.gk A.h0n ["net","times","thin","paper","tie","ahead"] (λT q s=>(AC (CB 2 q^cg s (OS A)^BA 0^BA 1 AF)
 (AC (N0 3 q^BM AG)
 (AC (CP gL rfl (Fx^cg s (Er A)^BZ (Aj (dv 0) AB) AF) (CU 4 q) (AC (CB 5 q^cg s (HP A)^BA 2^BA 4 AF)
 (AE^Aa (Bl (Bp s) B_ (dv 4)^Aj (dv 2) AB) (AE^EL 3 Qi Rw Ru BP Ec (pv 3)^AA (AT^AA AY^AA (cg s (JJ A)^BA 5^BZ (Aj (dv 4) AB)^BZ (cg s (Hk A)^BA 1^BZ (Aj (dv 4) AB) AF) AF) AG) AG)^AE^EL 3 Qi Rw Ru BP Ec (pv 3)^AA (AT^AA AY^AA (cg s (Kj A)^BA 5^BZ (Aj (dv 4) AB)^BZ (Aj (dv 4) AB) AF) AG) AG)))
 (AE^AJ^Vx T.Gab^Ey 3))))) (@λss n Pd h=>by
 let#[N,t,b,rfl,l,L,p]:=h;have M:=L;let#[b1,b2,t1,t2]:=M;have ok:=l.1;have a4:=l.2.2;have a5:=l.2.1;have a6:=PySem.sizeLine_eq;refine#[N,t,b,rfl,l,b1,b2,t1,t2,λa7 C J=>?_];have a8:=C.length_eq;refine#[z0,_,AD (j:=1) rfl,_,N.ts,rfl,rfl,by lk,λc q1 q2=>?_];obtain rfl:=Eo (q1.trans C.symm) q2 J;have q:c.Nodup:=C.nodup_iff.mpr^BF ok.qg
 have go:∀(z g:r_ An) (B:r_ D) (O Q:Slot),g++z=c->zw 30 N t b [] g B->
   BH (Aq 4) bQ {EE Pd with nx:=CG (Gr D1^AM (Bc 3) Ad)^EE Pd} (z.map AR) n [.sh^enc N,.sh^Kb t b,.sh^enc^sub N^Aw N t b [] c,.ow^.lst B,O,Q]:=by
  intro z
  induction z with
  |nil=>
   intro g B O Q e E;rw[gM]at e;exact p c B C J (e▸E)
  | cons u z ih=>
   intro g B O Q e E;have S:u∈N.ts:=C.subset (by rw[←e]; exact f8 _ Op);let#[U,hb,_,l1,l2]:=ok.tin u S;have e':g++[u]++z=c:=by rw[iB]; exact e
   have H:B.length<sizeLine:=by
    have h1:=E.len;have h2:=congrArg jG e;simp only[fh,eq]at h2;lk
   have V:decide (u∈(sub N^Aw N t b [] c).ts)=!C6 (sub N^Aw N t b [] g) t b u:=by
    rw[←e]at q ⊢;rw[hX,decide_eq_true_eq,zL,Tj q,Bool.not_eq_true'];exact#[λh=>h.2,λh=>#[S,h]]
   unfold bQ;exists sub N^Aw N t b [] c,u,rfl,IF l _
   have ea:(#[(sub N^Aw N t b [] c).ps,(sub N^Aw N t b [] c).ts.filter λv=>A6 (Ba v)^Ba u]:Net)=sub N^Aw N t b [] g:=by
    rw[←e]at q J ⊢;exact Ri q J
   simp only[ea];exists _,AD (j:=1) rfl,Dz ok S,(De ok λv hv=>(zL.mp hv).1).1,_,rfl;rw[Gh,V];have y:=IF l^Aw N t b [] g;cases W:C6 (sub N^Aw N t b [] g) t b u with
   | false=>
    refine#[_,rfl,rfl,_,AD (j:=0) rfl,_,AD (j:=2) rfl,t,b,u.len,rfl,L,sub N^Aw N t b [] g,u.a,u.len*t / b+1,rfl,y,U,λF hF=>#[z2,_,_,rfl,rfl,H,?_]];have e0:0<=u.len*t / b:=Int.ediv_nonneg (Int.mul_nonneg (by lk)^by lk) (by lk);have e1:u.len*t / b<=u.len*t:=Int.ediv_le_self _ (Int.mul_nonneg (by lk)^by lk);have e2:u.len*t<=1000000*1000000:=Int.mul_le_mul l2 t2 (by lk) (by lk);have I:=Yu (k:=30) y L U hb (by lk) W (.inl #[rfl,rfl]) (G:=λx=>(F x).map (·.1)) hF.far (m:=u.len*t / b+1) (more:=0) (by lk) (by lk) (Rh b1) (je _)^by cbv
    have er:((sub N^Aw N t b [] g).ps.map λx=>(0:Int)+Di (u.len*t / b+1) ((F x).map (·.1))).map D.int=(sub N^Aw N t b [] g).ps.map λx=>.int (Di (u.len*t / b+1) ((F x).map (·.1))):=by
     rw[g9];refine kR λx _=>?_;show D.int (0+_)=_;rw[Int.zero_add]
    rw[er]at I;exact ih (g++[u]) _ _ _ e'^E.snoc I
   | true=>
    refine#[_,rfl,rfl,_,AD (j:=0) rfl,_,AD (j:=1) rfl,sub N^Aw N t b [] g,u.a,u.b,rfl,y,U,hb,λo ho=>?_];let#[d,hd,X]:=qS.mp W;cases o with
    |none=>exact absurd hd.1^ho d
    |some w=>
     let#[d',r,rfl,Z,a0,a1,a2,a3]:=ho;have ed:d'=d:=a1.unique hd;subst ed;refine#[z2,_,_,rfl,rfl,H,ih (g++[u]) _ _ _ e'^E.snoc^.inr #[W,u.a::r,d',rfl,#[#[r,rfl],Z,a0,a2,a3],X]]
 exact go c [] [] _ _ rfl trivial)
theorem Lh:A.Y "way_fault" 4 ["net","times","tie","thing"] .sh Xd:=A.gk A.h0o ["net","times","tie","thing","length"] (λ_ k i=>(AC (CB 4 k^cg i (GJ A)^BA 0^BZ (Aj (dv 2) AB)^BZ (Aj (dv 2) AB)^BA 3 AF)
 (AC (Aa (Bl Fi Jx (dv 4) A2) (AE^AJ AY) AO)
 (AE^AJ^EM (Ah^cg i (ET A)^BA 4^BA 1^BZ (Aj (dv 2) AB) AF) A2 AY)))) (@λx n m h=>by
 let#[M,t,b,u,d,rfl,g,#[o,q,r,s],v,p]:=h;unfold QN at p;exists _,AD (j:=0) rfl,_,AD (j:=1) rfl,M,u.a,u.b,d,rfl,g,v
 rcases Q7 M u.a u.b d with e|⟨l,e⟩
 .rw[e]at p ⊢
  exact#[rfl,p]
 .rw[e]at p ⊢
  exists rfl,_,AD (j:=2) rfl,l,t,b,u.len,rfl,o,q,r,s;have p:m (if l*b<=u.len*t then .non else .str "far") n:=p;show if decide (l*b<=u.len*t)=p_ then _ else _
  by_cases c:l*b<=u.len*t
  .rw[if_pos c]at p; rw[decide_eq_true c]; exact Ay p
  .rw[if_neg c]at p; rw[decide_eq_false c]; exact Az p)
theorem Hj:A.Y "prices_fault" 4 ["net","times","tie","thing"] .sh Xe:=A.gk A.h0p ["net","times","tie","thing"] (λ_ _ k=>(AC (Aa (As^Ah^cg k (OU A)^BA 0^BA 3 AF) (AE^AJ AY) AO)
 (AE^AJ^EM (Ah^cg k (ET A)^BZ (cg k (GH A)^BA 0^BA 3^BZ (Aj (dv 2) AB)^BZ (Aj (dv 2) AB) AF)^BA 1^BZ (Aj (dv 2) AB) AF) AY A2))) (@λz n l h=>by
 let#[M,t,b,u,d,rfl,e,#[m,o,q,r],s,v,p]:=h;exists M,_,rfl,e;unfold Pg at p;cases g:FZ M d with
 |false=>rw[g,if_neg f6]at p; exact Ay p
 | true=>
  rw[g,if_pos rfl]at p;cases d with
  |tup i=>
   let#[x,y]:=L0 g;refine Az #[_,AD (j:=0) rfl,_,AD (j:=1) rfl,M,_,u.a,u.b,rfl,e,x,y,s,v,_,AD (j:=2) rfl,_,t,b,u.len,rfl,m,o,q,r,?_];have p:l (if Dn (ER M i u.a - ER M i u.b)*b<=u.len*t then .str "near" else .non) n:=p
   by_cases c:Dn (ER M i u.a - ER M i u.b)*b<=u.len*t
   .rw[if_pos c]at p; rw[decide_eq_true c]; exact Ay p
   .rw[if_neg c]at p; rw[decide_eq_false c]; exact Az p
  |_=>cases g)
theorem Hm:A.Y "greedy_fault" 5 ["times","thin","tie","entry"] .sh Xf:=A.gk A.h0q ["times","thin","tie","entry","kept","ahead"] (λ_ z m=>(AC (CB 4 z^BD (Bp m) B_ (dv 2) (Aj (dv 1) AB)^by with_unfolding_all rfl)
 (AC (Aa (Bl Dw Gj (dv 4)^BD Bt DD (Aj (dv 3) AB) AY^Bj _) (AE^AJ AY) AO)
 (AC (CB 5 z^cg m (HP A)^BA 1^BA 2 AF)
 (AE^AJ^EM (Ah^dv 4) (cg m (Hj A)^BA 5^BA 0^BA 2^BZ (Aj (dv 3) AB) AF)^cg m (Lh A)^BA 5^BA 0^BA 2^BZ (Aj (dv 3) AB) AF))))) (@λI n q h=>by
 let#[N,a,t,b,u,d,rfl,g,r,B,C,D,E,p]:=h;have ok:=g.1;have e:=r.okN g;let#[F,G,_]:=ok.tin u C;let#[s,y,rfl,J]:=IT D;have x:DC y:=DN E^TM _ Op;have i:okN^Br #[N.ps,a] u:=#[Ir e.1 (λv H=>(g0.mp H).1)^r.2.filter _,e.2.1,f_ (iZ _ _) e.2.2];have p:q (if decide (u∈a)=(s=="in")then(if u∈a then Pg (Br #[N.ps,a] u) t b u y else QN (Br #[N.ps,a] u) t b u y)else .str "word") n:=p;exists _,AD (j:=1) rfl,Dz ok C,(De ok r.1).1,_,rfl;rw[Gh];exists _,AD (j:=0) rfl
 have l:∀k:Bool,decide (u∈a)=k->q (if k=p_ then Pg (Br #[N.ps,a] u) t b u y else QN (Br #[N.ps,a] u) t b u y) n->dq (EE q) n [.sh^Kb t b,.sh^enc #[N.ps,a],.sh^AR u,.sh^.tup [.str s,y],.sh^.bl k,.no]:=λk L p=>by
  exists#[N.ps,a],u,rfl,e;cases k with
  |true=>exact#[_,AD (j:=1) rfl,Br #[N.ps,a] u,t,b,u,y,rfl,i,B,F,G,p]
  |false=>exact#[_,AD (j:=1) rfl,Br #[N.ps,a] u,t,b,u,y,rfl,i,B,x,p]
 show if(!(decide (u∈a)==(s==("in":Str))))=p_ then _ else _
 by_cases c:decide (u∈a)=(s=="in")
 .rw[if_pos c]at p
  rw[c,beq_self_eq_true];refine Az^l _ c ?_
  by_cases o:u∈a
  .rw[if_pos o]at p; rw[←c,decide_eq_true o]; exact p
  .rw[if_neg o]at p; rw[←c,decide_eq_false o]; exact p
 .rw[if_neg c]at p
  rw[beq_eq_false_iff_ne.mpr c];exact Ay p)
theorem Fk:A.Y "is_greedy_entry" 2 ["thing"] .sh Xg:=A.gk A.h0r ["thing"] (λ_ _ b=>(AE^AJ^Cv (cg b (Cf A)^BZ AB^BA 0 AF)^D9^BD (Bp b) B_ (Aj (dv 0) AB) (AT^AA AY^AA AY AG)^by with_unfolding_all rfl)) (@λl n m h=>by
 let#[d,rfl,a,p]:=h;have g:∀x∈[("in":Str),"out"],∀c∈cs x,c<1114112:=by decide +kernel
 have i:Bz^.tup [.str "in",.str "out"]:=Bb (B:=10) (by cbv) #[g _^by simp,g _^by simp,trivial] (by cbv);exists 2,_,rfl;cases d with
 | tup k=>
  match k,a,p with
  | [x,y],a,p=>
   exists _,AD (j:=0) rfl,z2,Th^DN a Op,i,_,rfl
   have e:CI^.tup [x,y]=([D.str "in",.str "out"].any λz=>Dt z x):=by
    cases x with
    |str s=>
     show(s=="in"||s=="out")=(("in":Str)==s||(("out":Str)==s||false))
     grind
    |_=>rfl
   simp_all
  |[],a,p=>exact p
  |[x],a,p=>cases x <;>exact p
  |x::y::z::r,a,p=>
   cases x <;>exact p
 |_=>exact p)
omit A in
theorem n9:BJ ["net","times","thin","paper","number","tie","fault"] ["net","times","thin","paper"]^AK FT:=by walk_at "s"
theorem JK:KQ P w K mg base:=A.gotR A.h0s (λT F=>have n_:=Hm A; have oA:=Fk A; have oB:=OT A; have oC:=Cf A; have oE:=Er A; have GX_NoPaper:=Oi A; by
 exact fnX (wb:=λJ=>IA J) F n9 (by cbv) (λa3 A Y s H E J F0 U M l G=>(FF (Oq (DTW.dt^BR (As^Ah (CJ oB (G.mono^by cbv) rfl (BA 0^BA 2 AF)))^BX^As^Ah (CJ oC (G.mono^by cbv) rfl (BZ (Fw T.Gac^Aj (dv 0) AB)^BA 3 AF))) (Ez^Fv JG l (λ_ h=>h) (HD GX_NoPaper (G.mono^by cbv) rfl (AA AY^AA AB AG)))^L8 AO)
 (FF (Oq (As^Ah (Ai (Dl rfl) Jy rfl T.Gah ia (AN (P9 rfl [("entry":Str)] [o_] (A8^dv 3) (λ_ _ _ _ _=>(Ga (i:=0) (show nO [("entry":Str)] by decide +kernel) rfl (gi rfl))) (λ_ _ _ _ _=>A0) (λ_ _ _ _ _=>(CJ oA (G.mono^by cbv) rfl (BA 0 AF))) (by kernel_rfl)) AW))) (Ez^Fv JG l (λ_ h=>h) (HD GX_NoPaper (G.mono^by cbv) rfl (AA AY^AA AB AG)))^L8 AO)
 (FF (Vz (λ_ _ h=>h) VQ rfl (P6 rfl T.Gai (CJ oE (G.mono^by cbv) rfl (BZ (Aj (dv 0) AB) AF))) (Ry^Af (CU 4 n9.nd)^Af (CU 5 n9.nd) CM) (FF (UD^CB 6 n9.nd (CJ n_ (G.mono^by cbv) rfl (BA 1^BA 2^BA 5^BZ (Aj (dv 3)^dv 4) AF)))
 (Ez^Oq (Bl IM MN (dv 6) A2) (Ez^Fv JG l (λ_ h=>h) (HD GX_NoPaper (G.mono^by cbv) rfl (AA (dv 6)^AA (dv 4) AG)))^L8 AO)))
 (Ez^UD^AJ BU))))) (λss n Q J _ h=>by
 let#[N,t,b,d,p,rfl,o,Z,tm,#[f1,f2,f3],fp,q0,q]:=h;have a0:=o.2.2;have a4:=PySem.sizeLine_eq;exists N,d,rfl,o.1,Z,a0,f1,f2,f3;show if(!qh N d)=p_ then _ else _
 cases c:qh N d with
 |false=>exact Ay^.inr #[rfl,rfl,q0^.inl c]
 | true =>
  let#[r,rfl,O]:=qK.mp c;have O:thn N r:=O;have a5:=O.okN o;let#[k,x1,x2]:=Lc N.ts;have g:=q r k rfl O x1 x2;refine Az #[_,AD (j:=1) rfl,_,_,rfl,rfl,_,_,rfl,?_];show if(!(tupleOfB ((N.ts.map AR).length:Int) p))=p_ then _ else _
  have R:(N.ts.map AR).length=N.ts.length:=No ..;rw[R];cases p with
  | tup a=>
   have g:PM (if a.length=k.length then(if a.all CI=p_ then EK #[N.ps,r] t b 0 k a else IQ "shape" 0)else IQ "shape" 0) Q J n:=g;show if(!((a.length:Int)==(N.ts.length:Int)))=p_ then _ else _
   by_cases S:a.length=N.ts.length
   .rw [if_pos^S.trans x1.length_eq.symm]at g
    rw[show((a.length:Int)==(N.ts.length:Int))=p_ by rw[S]; exact beq_self_eq_true _];refine Az #[by show a.length<=10000000; omega,?_];refine Ag (λd=>.bl^CI d) (λρ=>∃s,ρ=[s]) _ _ _ _ ?_ #[_,rfl] ?_
    .rintro d hd ρ n' nx ⟨s,rfl⟩ a1
     exact#[d,rfl,DN fp hd,a1 _ #[_,rfl]]
    rw[fw];exists _,_,rfl,E6 CI a;show if(!((a.map CI).all id))=p_ then _ else _
    rw[show((a.map CI).all id)=a.all CI by rw[j9]; rfl];cases hg:a.all CI with
    |false=>rw[hg,if_neg f6]at g; exact Ay^.inr #[rfl,rfl,g]
    | true=>
     refine Az #[_,AD (j:=1) rfl,_,N.ts,rfl,rfl,by omega,λy X o2=>#[_,rfl,?_]];have q':PM (if a.length=y.length then(if a.all CI=p_ then EK #[N.ps,r] t b 0 y a else IQ "shape" 0)else IQ "shape" 0) Q J n:=q r y rfl O X o2;rw[if_pos^S.trans X.length_eq.symm,if_pos hg]at q'
     have go:∀(L:r_ An) (I B:r_ D) (s4 s5 s6:Slot),I++B=a->B.length=L.length->(∀u∈L,u∈N.ts)->PM (EK #[N.ps,r] t b I.length L B) Q J n->
       BH (HE 2^BK (Aq 4)^BK (Aq 5) Eb) (bR J) {EE Q with nx:=CG (wC^D.bl p_)^EE Q} (Ew I.length^L.map AR) n [.sh^enc N,.sh^Kb t b,.sh^enc #[N.ps,r],.sh^.tup a,s4,s5,s6]:=by
      intro L
      induction L with
      |nil=>intro I B s4 s5 s6 _ m _ C; cases B with
       |nil=>exact C
       |cons _ _=>cases m
      | cons u L ih=>
       intro I B s4 s5 s6 e m V C
       match B,m,C with
       | w::B,m,C=>
        have W:a[I.length]?=P3 w:=by rw[←e,iD^On _,Nat.sub_self]; rfl
        have hw:=gZ W
        exists rfl,rfl,_,AD W,N,r,t,b,u,w,rfl,o,O,tm,V u Op,gI.mp hg w hw,DN fp hw;unfold EK at C
        rcases RJ #[N.ps,r] t b u w with e1|⟨x,e1⟩
        .rw[e1]at C ⊢
         exists rfl
         have:=ih (I++[w]) B (.sh^.int (I.length:Int)) (.sh^AR u) (.sh .non) (by rw[iB]; exact e) (Nat.succ.inj m) λv hv=>V v^TM _ hv
         rw[fh,gC]at this;exact this C
        .rw[e1]at C ⊢
         exact#[rfl,.inr #[rfl,rfl,C]]
     exact go y [] a _ _ _ rfl (S.trans X.length_eq.symm) (λu hu=>X.mem_iff.mp hu) q'
   .rw[if_neg λz=>S^z.trans x1.length_eq]at g
    rw[show((a.length:Int)==(N.ts.length:Int))=q_ by rw[beq_eq_false_iff_ne]; lk];exact Ay^.inr #[rfl,rfl,g]
  |_=>exact Ay^.inr #[rfl,rfl,g])) λ_ _ _ _ h=>by let#[_,_,_,_,_,e,_]:=h; rw[e]; rfl
theorem Ax:A.Y "_law_next" 1 ["_law_feed_here","_law_many"] .sh Ee:=A.got A.h0u λT F _ _=>VX F T.Gac
theorem FV:A.Y "_law_whole" 1 ["_law_thing","_law_least_here","_law_most"] .sh WT:=A.gk A.h0v ["_law_thing","_law_least_here","_law_most"] (λT _ c=>(AE^AJ^Cv (Bk Lu (dv 0) rfl T.Gaa rfl T.Gam (by decide +kernel))^Cv (UJ (Bk NL (dv 0) rfl T.Gaa rfl T.Gao (by decide +kernel)))^D9^UL G1 LH G1 LH (dv 1) (dv 0)^dv 2)) (@λe n g h=>by
 let#[d,a,b,rfl,q]:=h;cases d with
 |int i=>exact HF (k:=λP=>P _ n) (λ_ h=>h) q
 |_=>exact q)
theorem JL:A.Y "_law_places" 2 ["_law_feed_here","_law_many"] .fr WS:=have V:=Ax A; A.gk A.h0w ["_law_feed_here","_law_many","_law_way","_law_words","_law_first","_law_letters","_law_word","_law_at","_law_names","_law_k","_law_sign"] (λT u J=>(AC (CB 2 u^cg J V^AS (BC 0)^BZ AB AF)
 (AC (CB 3 u^BM^AA AY^AA AY^AA AY^AA AY^AA AY^AA AY^AA AY^AA AY^AA AY^AA AY^AA AY^AA AY AG)
 (AC (Aa (DTW.dt^HC (Bl Bt DD (dv 2) AB)^GV^Bl (Ck J) EN (dv 1) AB) (AC (CB 4 u^cg J V^AS (BC 0)^BZ AB AF)
 (AE^AJ (Ai Jq QG rfl T.Gaf k6 (AN (Hd ["_law_words","_law_first","_law_k"] [P3 3,P3 4,o_] (DI.c (CT rfl T.Gad (AN (dv 1) AW))) (λW=>CU 2 W) A0^Aj (dv 0)^AV D5 CQ (AV AX Ac (dv 1)^dv 2) AB) AW)))) AO)
 (AC (CB 5 u AY)
 (AC (CB 6 u^bq PySem.F.plainAttrs_str PySem.F.slot_str_join PySem.F.type_str_join Vb ZU AY^AN (Hd ["_law_letters","_law_feed_here","_law_k"] [P3 5,P3 0,o_] (DI.c (CT rfl T.Gad (AN AB AW))) (λW=>CU 2 W) A0^Aj (dv 0)^cg J V^AS (BC 1)^BZ AB AF) AW)
 (AC (Aa (DTW.dt^HC (Bl Bt DD (dv 2) AB)^GV^Bl (Ck J) EN (dv 1) AB) (AE^AJ^Hd ["_law_word","_law_k"] [P3 6,o_] (DI.c (CT rfl T.Gad (AN (dv 1) AW))) (λW=>CU 1 W) A0^Bu DA Bv (dv 0) BE^Ao^AV AX Ac AB^dv 1) AO)
 (AC (CB 7 u^cg J V^AS (BC 0)^BZ AB AF)
 (AC (CB 4 u^cg J V^AS (BC 0)^BZ AB AF)
 (AC (N0 8 u^BM AG)
 (AC (CP gL rfl (CT rfl T.Gad (AN (dv 1) AW)) (CU 9 u) (AC (CB 10 u^Aj (dv 5)^AV D5 CQ (AV AX Ac (dv 4)^dv 9) AB)
 (AE^EL 8 Qi Rw Ru BP Ec (pv 8)^AA (AV AX Ac (AV AX Ac (AV AX Ac (Bu DA Bv (dv 6) BE^Ao^dv 7)^dv 10)^Bu DA Bv (dv 6) (Ao^AV AX Ac (dv 7) AB)^Ao AB)^AV Ce Do AY^AV D5 CQ (dv 9) AB) AG)))
 (AE^AJ (Ai Jq QG rfl T.Gaf k6 (AN (Ey 8) AW)))))))))))))) (@λss n Pd h=>by
 let#[m,rfl,b3,a4,hn,p]:=h;refine#[3,rfl,by cbv,by cbv,by lk,λL a5 a6=>#[(by cbv:12<=sizeLine),?_]];have E:∀(S:Nat),n - 1<=S->(BV (CY 5^wC^D.str "abcdefghijklmnopqrstuvwxyz")
 (BV (CY 6^e8 "str" XU (wC^D.str "")^AM (FP [P3 5,P3 0,o_] (MZ^AM (wC^D.int 8) Ad) (Aq 2) Gp^Am CV (AH 0)^A1 Ee^AI (DF 1)^AI (AU^wC^D.int 26) A5) Ad)
 (BV (CZ (Wj (Au^Am (Oo q_) (AH 2)^wC^D.int 1)^Au^Am HA (AH 1)^wC^D.int 9) (CG^FP [P3 6,o_] (MZ^AM (AH 1) Ad) (Aq 1) Gp^N4 FL (AH 0) CA^C3^Am BO (wC^D.int 1)^AH 1) Bm)
 (BV (CY 7^A1 Ee^AI (DF 0)^AI (AU^wC^D.int 7) A5)
 (BV (CY 4^A1 Ee^AI (DF 0)^AI (AU^wC^D.int 26) A5)
 (BV (PB 8^QR Ad)
 (BV (N5 (MZ^AM (AH 1) Ad) (Aq 9) (BV (CY 10^Am CV (AH 5)^Am (bi (λ_ j=>0<j) λi j=>D.int (i % j)) (Am BO (AH 4)^AH 9)^wC^D.int 26)
 (Rt 8 "list" Hz^AM (Am BO (Am BO (Am BO (N4 FL (AH 6) CA^C3^AH 7)^AH 10)^N4 FL (AH 6) (C3^Am BO (AH 7)^wC^D.int 1)^C3^wC^D.int 7)^Am HY (wC^D.str "z")^Am (bi (λ_ j=>0<j) λi j=>D.int (i % j)) (AH 9)^wC^D.int 2) Ad)))
 (CG^Gr Ol^AM (Bc 8) Ad)))))))) {nx:=λn _=>Kd.fr=.sh/\Pd .non n,rt:=Pd} S [.fd,.sh^.int m,.sh^.int L,.sh^.lst^words.map .str,.no,.no,.no,.no,.no,.no,.no]:=by
  intro S a7;refine#[rfl,8,rfl,#[by cbv,by cbv],by rw[B0]; decide,?_];refine drawn (m:=8) (by lk) λG X Z=>?_;have H:∀z∈G,z.length=1:=λz hz=>(Z z hz).1;have v:=Vi G;have B:(Txt.join (gu "") G).length=8:=by simp only[←Dk,v,TU H,X]
  have U:∀c∈cs^Txt.join (gu "") G,97<=c/\c<=122:=λc U=>by
   rw[v]at U;let#[z,hz,a8]:=iH.mp U;exact(Z z hz).2 c a8
  refine#[_,_,G,rfl,rfl,Gi G,by simp only[Ml G H,show(gu "").length=0 from rfl]; lk,by lk,?_];generalize Txt.join (gu "") G=x at B U;have a0:(cs x).length=8:=by simp only[Dk,B]
  have I:∀(n2:Nat),S - 8<=n2->(BV (CY 7^A1 Ee^AI (DF 0)^AI (AU^wC^D.int 7) A5)
 (BV (CY 4^A1 Ee^AI (DF 0)^AI (AU^wC^D.int 26) A5)
 (BV (PB 8^QR Ad)
 (BV (N5 (MZ^AM (AH 1) Ad) (Aq 9) (BV (CY 10^Am CV (AH 5)^Am (bi (λ_ j=>0<j) λi j=>D.int (i % j)) (Am BO (AH 4)^AH 9)^wC^D.int 26)
 (Rt 8 "list" Hz^AM (Am BO (Am BO (Am BO (N4 FL (AH 6) CA^C3^AH 7)^AH 10)^N4 FL (AH 6) (C3^Am BO (AH 7)^wC^D.int 1)^C3^wC^D.int 7)^Am HY (wC^D.str "z")^Am (bi (λ_ j=>0<j) λi j=>D.int (i % j)) (AH 9)^wC^D.int 2) Ad)))
 (CG^Gr Ol^AM (Bc 8) Ad))))) {nx:=λn _=>Kd.fr=.sh/\Pd .non n,rt:=Pd} n2 [.fd,.sh^.int m,.sh^.int L,.sh^.lst^words.map .str,.no,.sh^.str qX,.sh^.str x,.no,.no,.no,.no]:=by
   intro n2 a9;refine#[7,rfl,by cbv,by cbv,by omega,λa b4 b5=>#[26,rfl,by cbv,by cbv,by omega,λfirst b6 b7=>#[(by cbv:0<=sizeLine),(m:Int),rfl,#[by lk,by lk],?_]]];obtain⟨a,rfl⟩:∃q:Nat,a=(q:Int):=#[a.toNat,by lk];obtain⟨f,rfl⟩:∃q:Nat,first=(q:Int):=#[first.toNat,by lk]
   have a1:a<7:=by lk
   refine EG (all:=Ci 0 ((m:Int)).toNat) (λl n3 t=>n3=n2 - 1 - 1/\∃s9 N,t=[.fd,.sh^.int m,.sh^.int L,.sh^.lst^words.map .str,.sh^.int f,.sh^.str qX,.sh^.str x,.sh^.int a,.ow^.lst^((gG l.length).map λk=>nameAt x a f k).map .str,s9,N]) ?_ ?_ _ [] _ _ rfl #[rfl,_,_,rfl]
   .rintro n3 t ⟨rfl,s9,N,rfl⟩
    have el:(Ci 0 ((m:Int)).toNat).length=m:=by rw[B0]; lk
    refine#[_,_,rfl,Gi _,by rw[No,iq,el]; lk,λO o hs=>p O _ ?_ ?_ ?_^by omega]
    .rw[o.length_eq,No,iq,el]
    .intro y hy
     let#[k,_,rfl]:=Rs.mp^o.mem_iff.mp hy;exact M_ B U a1
    .refine FR hs^o.nodup_iff.mpr^G4 List.nodup_range λj v k b e=>?_
     rw[el]at v b;exact OY B a1 a4 (hV.mp v) (hV.mp b) e
   .rintro l d b1 n3 t nx a2 ⟨rfl,s9,N,rfl⟩ Q
    clear hn a7 a9 a5 a6;let#[rfl,b]:=IG a2;have a3:(l++[D.int (0+(l.length:Int))]).length=l.length+1:=by simp only[fh,gC]
    rw[a3]at Q;generalize l.length=k at b Q ⊢;have R:(f+k) % 26<26:=mY _ (by cbv);have ei:((f:Int)+(0+(k:Int))) % 26=(((f+k) % 26:Nat):Int):=by lk
    have ek:(0+(k:Int)) % 2=(k:Int) % 2:=by lk
    let#[b0,X,_]:=bG (r:=(0+(k:Int)) % 2) (by lk);have l1:=Txt.slice_le x o_^P3 (a:Int);have l2:=Txt.slice_le x (P3 ((a:Int)+1))^P3 7;have la:=mQ (Txt.slice x o_^P3 (a:Int)) #[#[ 97+(f+k) % 26]];have lb:=mQ (Txt.slice x o_^P3 (a:Int)++#[#[ 97+(f+k) % 26]])^Txt.slice x (P3 ((a:Int)+1))^P3 7;have ls:(#[#[ 97+(f+k) % 26]]:Str).length=1:=rfl;have b8:=PySem.sizeLine_eq;refine#[by show(0:Int)<26; decide,97+(f+k) % 26,by rw[ei]; exact AD^JV _ R,?_];refine#[_,rfl,rfl,by lk,by lk,by show(0:Int)<2; decide,b0,by lk,by lk,?_];refine#[_,_,rfl,rfl,by simp only[No,No,iq]; lk,Q _ _ #[rfl,.sh^.int (0+(k:Int)),.sh^.str #[#[ 97+(f+k) % 26]],?_]];simp only[ek,List.range_succ,gW,gW];rfl
  refine B9 (λc1=>B9 (λC=>?_) λC=>I _^On _) λc1=>B9 (λC=>absurd C^by cbv) λ_=>I _^On _
  have b9:m<9:=by
   have:(m:Int)<9:=of_decide_eq_true C
   lk
  refine#[(m:Int),rfl,#[by lk,by lk],by rw[B0]; lk,?_];refine Fp (g:=λd=>match d with|.int k=>.str^Txt.slice x o_^P3 (1+k)|_=>.non) (λt=>∃s,t=[.sh^.str x,s]) ?_ _ _ _ _ ?_ #[_,rfl] ?_
  .rintro d t ⟨s,rfl⟩
   exact#[_,rfl]
  .rintro d hd t S P' ⟨s,rfl⟩ o
   let#[k,b,rfl]:=GA hd;exact o
  .have e:[]++(Ci 0 ((m:Int)).toNat).map (λd=>match d with|.int k=>D.str^Txt.slice x o_^P3 (1+k)|_=>.non)=((gG m).map λk:Nat=>Txt.slice x o_^P3 (1+(k:Int))).map .str:=by
    unfold Ci;simp only[fw,g9,g9,jX];refine kR λk _=>?_
    have:(0+(k:Int))=k:=by lk
    simp only[Function.comp,this]
   have ct:∀k:Nat,k<m->cs^Txt.slice x o_^P3 (1+(k:Int))=(cs x).take (1+k):=λk b=>by
    rw[Xa (by lk)^by lk,show(1+(k:Int)).toNat=1+k by lk]
   simp only[e];refine p _ _ (by simp only[No,iq]) ?_ ?_^by omega
   .intro y hy
    let#[k,b,rfl]:=Rs.mp hy;have b:=hV.mp b
    have hl:(Txt.slice x o_^P3 (1+(k:Int))).length=1+k:=by
     simp only[←Dk,ct k b,ie,a0]; lk
    exact#[by lk,by lk,λc h=>U c^lU^by rw[←ct k b]; exact h]
   .unfold rising
    rw[ir];refine mq ?_ List.pairwise_lt_range;intro i j hi v c0;simp only[ct i^hV.mp hi,ct j^hV.mp v];exact PN _ _ _ (by lk)^by simp only[a0]; have:=hV.mp v; lk
 refine B9 (λc1=>B9 (λC=>?_) λC=>E _^On _) λc1=>B9 (λC=>absurd C^by cbv) λ_=>E _^On _
 have b2:m<13:=by
  have:(m:Int)<13:=of_decide_eq_true C
  lk
 refine#[12,rfl,by cbv,by cbv,by lk,λfirst h0 h1=>?_];obtain⟨f,rfl⟩:∃f:Nat,first=(f:Int):=#[first.toNat,by lk]
 refine#[(m:Int),rfl,#[by lk,by lk],by rw[B0]; lk,?_];refine Fp (g:=λd=>match d with|.int k=>.str^wordAt ((f+k.toNat) % 12)|_=>.non) (λt=>∃s,t=[.sh^.lst^words.map .str,.sh^.int f,s]) ?_ _ _ _ _ ?_ #[_,rfl] ?_
 .rintro d t ⟨s,rfl⟩
  exact#[_,rfl]
 .rintro d hd t S P' ⟨s,rfl⟩ o
  let#[k,b,rfl]:=GA hd;exists by show(0:Int)<12; decide,D.str^wordAt ((f+k) % 12),?_
  .have R:(f+k) % 12<12:=mY _^by cbv
   have ei:((f:Int)+(0+(k:Int))) % 12=(((f+k) % 12:Nat):Int):=by lk
   rw[ei];exact AD^by simp only[fo,R7 _ R]; rfl
  .have e:(0+(k:Int)).toNat=k:=by lk
   simp only[e]at o;exact o
 .have e:[]++(Ci 0 ((m:Int)).toNat).map (λd=>match d with|.int k=>D.str^wordAt ((f+k.toNat) % 12)|_=>.non)=((gG m).map λk=>wordAt ((f+k) % 12)).map .str:=by
   unfold Ci;simp only[fw,g9,g9,jX];refine kR λk _=>?_
   have:(0+(k:Int)).toNat=k:=by lk
   simp only[Function.comp,this]
  refine#[_,(gG m).map λk=>wordAt ((f+k) % 12),rfl,by rw[e]; exact Gi _,by simp only[No,iq]; lk,λO o hs=>p O _ ?_ ?_ ?_^by lk]
  .rw[o.length_eq,No,iq]
  .intro x hx
   let#[k,_,rfl]:=Rs.mp^o.mem_iff.mp hx;exact N3 _^mY _^by cbv
  .refine FR hs^o.nodup_iff.mpr^G4 List.nodup_range λj v k b e=>?_
   exact Vc (M:=12) (by lk) (hV.mp v) (hV.mp b)^QM _ _ (mY _^by cbv) (mY _^by cbv) e)
theorem JM:A.Y "_law_length" 2 ["_law_feed_here","_law_scale"] .sh eR:=have a:=Ax A; A.gk A.h0x ["_law_feed_here","_law_scale"] (λ_ _ b=>(AC (Aa (Bl Bt DD (dv 1) AB) (AE^AJ^AV AX Ac AB^cg b a^AS (BC 0)^BZ AB AF) AO)
 (AC (Aa (Bl Bt DD (dv 1) AB) (AE^AJ^AV AX Ac AB^cg b a^AS (BC 0)^BZ AB AF) AO)
 (AE^AJ^EM (Bl Bt DD (dv 1) AB) (AV DM EX (AV DZ CQ AB AB)^cg b a^AS (BC 0)^BZ AB AF)^AV AX Ac AB^cg b a^AS (BC 0)^BZ (AV DZ CQ AB AB) AF)))) (@λg n i h=>by
 let#[s,rfl,j,p]:=h;refine B9 (λ_=>#[3,rfl,by cbv,by cbv,by omega,λr d c=>p _ (by lk)^by lk]) λ_=>?_;refine B9 (λ_=>#[12,rfl,by cbv,by cbv,by omega,λr d c=>p _ (by lk)^by lk]) λ_=>?_;refine B9 (λ_=>#[#[by cbv,by cbv,by cbv],5,rfl,by cbv,by cbv,by lk,λr d c=>?_]) λ_=>#[#[by cbv,by cbv,by cbv],_,rfl,by cbv,by cbv,by lk,λr d c=>?_]
 .have e:((10:Int) ^ (6:Int).toNat)=1000000:=by cbv
  exact p _ (by rw[e]; lk)^by rw[e]; lk
 .have e:((10:Int) ^ (6:Int).toNat)=1000000:=by cbv
  simp only[e]at c;exact p _ (by lk)^by lk)
theorem Mz:A.Y "_law_net" 3 ["_law_feed_here","_law_most","_law_ties"] .sh eQ:=have O:=Ax A; A.gk A.h0y ["_law_feed_here","_law_most","_law_ties","_law_places_here","_law_few","_law_scale","_law_found","_law_one","_law_other"] (λT J v=>(AC (CB 3 J^cg v (JL A)^AS (BC 0)^BZ (AV AX Ac AB^cg v O^AS (BC 0)^BA 1 AF) AF)
 (AC (CB 4 J^AV AX Ac AB^cg v O^AS (BC 0)^BZ AB AF)
 (AC (CB 5 J^cg v O^AS (BC 0)^BZ AB AF)
 (AC (N0 6 J^BM AG)
 (AC (CP gL rfl (CT rfl T.Gad (AN (Fw T.Gac^dv 3) AW)) (CU 7 J) (AE (CP gL rfl (K7 rfl T.Gad (AN (AV AX Ac (dv 7) AB)^AN (Fw T.Gac^dv 3) AW)) (CU 8 J) (AE^Aa (DTW.dt^HC (Bl G1 LH (cg v O^AS (BC 0)^BZ AB AF)^dv 4)^GV^Bl (Ck v) EN (Fw T.Gac^Ey 6)^dv 2) (AE^EL 6 Qi Rw Ru BP Ec (pv 6)^AA (AT^AA (Aj (dv 3)^dv 7)^AA (Aj (dv 3)^dv 8)^AA (cg v (JM A)^AS (BC 0)^BA 5 AF) AG) AG) AO))))
 (AE^AJ^AT^AA (Vx T.Gab^dv 3)^AA (Vx T.Gab^Ey 6) AG))))))) (@λss n Pd h=>by
 let#[l,a,rfl,R,S,hn,p]:=h;refine#[_,rfl,by lk,by lk,by lk,λr h0 x=>?_];refine#[(1+r).toNat,by rw[show(((1+r).toNat:Nat):Int)=1+r by lk],by lk,by lk,by lk,λe U hl hx v V=>?_];refine#[3,rfl,by cbv,by cbv,by lk,λB f0 f1=>#[4,rfl,by cbv,by cbv,by lk,λg s0 s1=>#[(by cbv:0<=sizeLine),?_]]];have W:(e.map D.str).length=e.length:=No ..;exists _,_,rfl,rfl,_,rfl,#[by lk,by lk]
 refine EG (all:=Ci 0 (((e.map D.str).length:Int)).toNat) (λc m C=>U<=m+2+52*c.length/\∃(b:r_ Ix) (X E:Slot),(∀t∈b,t.i<t.j/\t.j<e.length/\1<=t.len/\t.len<=1000000)/\b.Pairwise Yr/\b.length<=a/\(∀t∈b,t.i<c.length)/\b.length<=26*c.length /\
  C=[.fd,.sh^.int l,.sh^.int a,.sh^.lst^e.map .str,.sh^.int (1+B),.sh^.int g,.ow^.lst^(b.map^Ix.tie e).map AR,X,E]) ?_ ?_ _ [] _ _ rfl #[by simp; lk,[],_,_,(λ_ h=>by cases h),nk,T0 _,(λ_ h=>by cases h),T0 _,rfl]
 .rintro m C ⟨y,b,X,E,x,z,F,u,G,rfl⟩
  have el:(Ci 0 (((e.map D.str).length:Int)).toNat).length=e.length:=by rw[B0]; lk
  rw[el]at y;refine#[(by cbv:2<=sizeLine),p #[e,b.map^Ix.tie e] m (Yf hx v x z) (by show 1<=e.length; lk) (by show e.length<=l; lk) (by show(b.map^Ix.tie e).length<=a; rw[No]; exact F)^by lk]
 .rintro c d a3 m C nx L ⟨y,b,X,E,x,z,F,u,G,rfl⟩ H
  let#[rfl,Z]:=IG L;have M:(c++[D.int (0+(c.length:Int))]).length=c.length+1:=by simp only[fh,gC]
  rw[M]at H;generalize c.length=one at Z H y u G ⊢;simp only[W]at Z;have hb:e.length<=26/\1400<=U:=by lk
  clear hn V hl R S f0 f1;exists _,_,rfl,rfl,_,_,rfl,#[by lk,by lk,by lk,by lk]
  refine EG (all:=Ci (0+(one:Int)+1) ((((e.map D.str).length:Int)) - (0+(one:Int)+1)).toNat) (λc m C=>U<=m+2+52*one+2*c.length/\∃(b:r_ Ix) (E:Slot),(∀t∈b,t.i<t.j/\t.j<e.length/\1<=t.len/\t.len<=1000000)/\b.Pairwise Yr/\b.length<=a/\(∀t∈b,t.i<one\/(t.i=one/\t.j<one+1+c.length))/\b.length<=26*one+c.length /\
   C=[.fd,.sh^.int l,.sh^.int a,.sh^.lst^e.map .str,.sh^.int (1+B),.sh^.int g,.ow^.lst^(b.map^Ix.tie e).map AR,.sh^.int (0+(one:Int)),E]) ?_ ?_ _ [] _ _ rfl #[by simpa using y,b,_,x,z,F,λt k=>.inl^u t k,by simpa using G,rfl]
  .rintro m C ⟨y,b,E,x,z,F,u,G,rfl⟩
   rw[B0]at y G;refine H _ _ #[by lk,b,_,_,x,z,F,λt k=>?_,by lk,rfl]
   rcases u t k with h|h <;>lk
  .rintro N d2 a0 m C a1 I ⟨y,b,E,x,z,F,u,G,rfl⟩ o
   let#[rfl,a2]:=IG I;rw[fh,gC]at o;generalize N.length=q at a2 o y u G ⊢;have hq:one+1+q<e.length:=by omega
   have skip:a1 (m - 1) [.fd,.sh^.int l,.sh^.int a,.sh^.lst^e.map .str,.sh^.int (1+B),.sh^.int g,.ow^.lst^(b.map^Ix.tie e).map AR,.sh^.int (0+(one:Int)),.sh^.int (0+(one:Int)+1+(q:Int))]:=by
    refine o _ _ #[by lk,b,_,x,z,F,λt k=>?_,by lk,rfl]
    rcases u t k with h|h
    .exact .inl h
    .exact .inr^by lk
   refine#[4,rfl,by cbv,by cbv,by lk,λdr d0 d1=>?_];refine B9 (λc1=>#[_,_,rfl,rfl,B9 (λQ=>?_) λQ=>skip]) λc1=>B9 (λQ=>absurd Q^by cbv) λ_=>skip
   have a4:b.length<a:=by
    have:(((b.map^Ix.tie e).map AR).length:Int)<(a:Int):=of_decide_eq_true Q
    rw[No,No]at this;lk
   refine#[_,rfl,rfl,D.str^e.getD one "",?_,D.str^e.getD (one+1+q) "",?_,g,rfl,by lk,λlen l1 l2=>#[(by cbv:3<=sizeLine),_,_,rfl,rfl,?_,?_]]
   .rw[show(0+(one:Int))=((one:Nat):Int) by lk]
    exact AD^by rw[fo,Nt.getD_at Z]; rfl
   .rw[show(0+(one:Int)+1+(q:Int))=((one+1+q:Nat):Int) by lk]
    exact AD^by rw[fo,Nt.getD_at hq]; rfl
   .rw[No,No,PySem.sizeLine_eq]; lk
   .refine o _ _ #[by lk,b++[#[one,one+1+q,len]],.sh^.int (0+(one:Int)+1+(q:Int)),λt k=>?_,?_,by simp only[fh,gC]; lk,λt k=>?_,by simp only[fh,gC]; lk,?_]
    .rcases Uf.mp k with k|k
     .exact x t k
     .rw[Re.mp k]
      exact#[by show one<one+1+q; lk,hq,l1,l2]
    .rw[kH]
     refine#[z,km _ _,λs hs t k=>?_];simp only[Re.mp k]
     rcases u s hs with h|h
     .exact .inl h
     .exact .inr h
    .rcases Uf.mp k with k|k
     .rcases u t k with h|h
      .exact .inl h
      .exact .inr^by lk
     .rw[Re.mp k]
      exact .inr #[rfl,by show one+1+q<one+1+(q+1); lk]
    .rw[gW,gW]
     rfl)
theorem KA:A.Y "_law_times" 2 ["_law_feed_here"] .sh ZX:=have e:=Ax A; A.gk A.h0z ["_law_feed_here","_law_some","_law_at","_law_bottom"] (λ_ g a=>(AC (CB 1 g^BM^AA (AT^AA AB^AA AB AG)^AA (AT^AA AB^AA AB AG)^AA (AT^AA AB^AA AB AG)^AA (AT^AA AB^AA AB AG)^AA (AT^AA AB^AA AB AG)^AA (AT^AA AB^AA AB AG)^AA (AT^AA (AV DZ CQ AB AB)^AA AB AG)^AA (AT^AA (AV DZ CQ AB AB)^AA (AV DZ CQ AB AB) AG) AG)
 (AC (CB 2 g^cg a e^AS (BC 0)^BZ AB AF)
 (AC (Aa (Bl (Ck a) EN (dv 2) AB) (AE^AJ^Aj (dv 1)^dv 2) AO)
 (AC (CB 3 g^AV AX Ac AB^cg a e^AS (BC 0)^BZ AB AF)
 (AE^AJ^AT^AA (AV AX Ac (dv 3)^cg a e^AS (BC 0)^BZ (AV Ce Do AB^dv 3) AF)^AA (dv 3) AG)))))) (@λq n v h=>by
 let#[rfl,x,p]:=h;refine#[z2,z2,z2,z2,z2,z2,eJ,z2,eJ,eJ,z2,by cbv,?_];refine#[12,rfl,by cbv,by cbv,by lk,λr i y=>?_];refine B9 (λc=>?_) λc=>?_
 .have c:r<8:=of_decide_eq_true c
  let#[z,j,t,b,rfl,k,l,m]:=UU (p:=λd=>∃t b:Int,d=.tup [.int t,.int b]/\1<=b/\b<=t/\t<=1000000) (xs:=[.tup [.int 2,.int 1],.tup [.int 3,.int 2],.tup [.int 1,.int 1],.tup [.int 3,.int 1],.tup [.int 5,.int 2],.tup [.int 1000,.int 999],.tup [.int ((10:Int) ^ (6:Int).toNat),.int 1],.tup [.int ((10:Int) ^ (6:Int).toNat),.int ((10:Int) ^ (6:Int).toNat)]]) (λd o=>by
   simp only[TW,or_false]at o
   grind) i^by lk
  exact#[_,j,p t b _ k l m^by lk]
 .refine#[20,rfl,by cbv,by cbv,by lk,λs B C=>?_]
  refine#[fZ (by cbv)^by cbv,_,rfl,by lk,by lk,by lk,λu D E=>#[z2,p _ _ _ (by lk) (by lk) (by lk)^by lk]])
theorem Co:A.Y "_law_in_order" 1 ["_law_ties"] .fr O8:=A.gk A.h10 ["_law_ties"] (λT _ hr=>(AE^AJ^Hd ["_law_length_here","_law_one","_law_other"] [o_,o_,o_] (A8 (Ai Fz MM rfl T.Gaf k6 (AN (Hd ["_law_tie"] [o_] (A8^dv 0) (λq=>CU 0 q) A0^AT^AA (Aj (dv 0) AB)^AA (Aj (dv 0) AB)^AA (Aj (dv 0) AB) AG) AW))) (λq=>Ry^Af (CU 0 q)^Af (CU 1 q)^Af (CU 2 q) CM) A0^AT^AA (dv 1)^AA (dv 2)^AA (dv 0) AG)) (@λss n J h=>by
 let#[d,F,rfl,e,B,p]:=h;have L:=PySem.sizeLine_eq
 have G:(F.map AR).length<=10000000/\Dx (Aq 0) Gp (Bs^AM (Am CV (AH 0)^wC^D.int 2)^AM (Am CV (AH 0)^wC^D.int 0)^AM (Am CV (AH 0)^wC^D.int 1) Ad) (λi C=>L1 [.lst i] λz=>Fc (wC z) C [] λH M=>H.length<=10000000/\Dx (HE 3^BK (Aq 0)^BK (Aq 1)^BK (Aq 2) Eb) Gp (Bs^AM (AH 1)^AM (AH 2)^AM (AH 0) Ad) (λi C=>J (.lst i) C) H [] M [.no,.no,.no]) (F.map AR) [] n [.no]:=by
  refine#[by rw[No]; omega,?_];refine Ag Mq (λr=>∃s,r=[s]) _ _ _ _ ?_ #[_,rfl] ?_
  .rintro d e r m N ⟨s,rfl⟩ k
   let#[t,O,rfl]:=Rs.mp e;exact#[_,AD (j:=2) rfl,_,AD (j:=0) rfl,_,AD (j:=1) rfl,z3,k _ #[_,rfl]]
  simp only[fw,g9];refine#[_,_,rfl,rfl,by rw[No]; exact B,#[λx E=>?_,λx E y Q R S U V=>?_],λW X v=>?_]
  .let#[t,_,rfl]:=Rs.mp E
   exact#[Ba t,rfl,iu _ _]
  .let#[t,_,rfl]:=Rs.mp E
   let#[u,_,rfl]:=Rs.mp Q;cases(show P3^Ba t=P3 R from U);cases(show P3^Ba u=P3 S from V);rfl
  .let#[o,I,rfl]:=PD (f:=Mq∘AR) (g:=λd=>match d with|.tup [.int l,.str a,.str b]=>#[a,b,l]|_=>#["","",0]) (λ_=>rfl) X
   have v:Cw o:=by
    unfold Gn at v;rw[ir]at v;exact v.imp λ{s t} z=>z _ _ rfl rfl
   refine#[by show(o.map (Mq∘AR)).length<=10000000; rw[No,I.length_eq]; omega,?_];refine Ag (λd=>match d with|.tup [l,a,b]=>.tup [a,b,l]|d=>d) (λr=>∃a b c,r=[a,b,c]) _ _ _ _ ?_ #[_,_,_,rfl] ?_
   .rintro d e r m N ⟨a,b,c,rfl⟩ k
    let#[t,O,rfl]:=Rs.mp e;exact#[rfl,rfl,z3,k _ #[_,_,_,rfl]]
   .rw[fw,g9]
    exact p o I v
 cases d with
 |lst Z=>cases e; exact G
 |tup Z=>cases e; exact G
 |_=>cases e)
theorem FW:A.Y "_law_least" 1 ["_law_ties","_law_place"] .fr J0:=A.gk A.h11 ["_law_ties","_law_place","_law_known","_law_going","_law_one","_law_other","_law_length_here","_law_here","_law_there","_law_reach"] (λ_ E U=>(AC (N0 2 E^Nc (dv 1) AB)
 (AC (CB 3 E BU)
 (AC (GW gL (Ah^dv 3) (AC (CB 3 E BU)
 (AE (V1 gL rfl (pv 0) (Ry^Af (CU 4 E)^Af (CU 5 E)^Af (CU 6 E) CM) (AE (CP gL rfl (Fx^BM^AA (AT^AA (dv 4)^AA (dv 5) AG)^AA (AT^AA (dv 5)^AA (dv 4) AG) AG) (Ry^Af (CU 7 E)^Af (CU 8 E) CM) (AE (Aa (Bl (OQ U) Ua (dv 7)^Ey 2) (AC (CB 9 E^AV AX Ac (By U (Ey 2)^dv 7)^dv 6)
 (AE (Aa (Bl (Ck U) EN (dv 9)^WF U (Ey 2) (dv 8)^AV AX Ac (dv 9) AB) (AC (L_ (i:=2) U (pv 2) (dv 8)^dv 9)
 (AE^CB 3 E BU)) AO))) AO))))))))
 (AE^P4 2^pv 2))))) (@λss n Pd h=>by
 let#[N,s,S,us,rfl,a3,V,W,hs,p]:=h;have b0:=PySem.sizeLine_eq;have ok:=W.1;have b1:=W.2.1;exists _,A3 s
 have step:∀(D3:E2) (x y:Str) (l:Int),Ed N x y l->∀(j:r_ Key) (k:r_ D) (K:Kn) (g:Bool) (r v G H F:Slot),qP j k D.int K->Bf N s j.length K->
   (∀(J:r_ Key) (X:r_ D) (q:Kn) (g':Bool) (t7 t8 t9:Slot),qP J X D.int q->Bf N s J.length q->((g'=g/\q=K/\Ip K (x,y,l))\/(g'=p_/\Rx N.ps q<Rx N.ps K))->
    D3.nx n [.br S,.sh^.str s,.ow^.dic J X,.sh^.bl g',r,v,.sh^.int l,t7,t8,t9])->
   (CZ (Au^Am (RO q_) (AH 7)^Bc 2) (BV (CY 9^Am BO (Am GS (Bc 2)^AH 7)^AH 6)
 (CZ (Au^Am HA (AH 9)^SG (Bc 2) (AH 8)^Am BO (AH 9)^wC^D.int 1) (BV (KU 2 (AH 8)^AH 9)
 (CY 3^wC^D.bl p_)) Bm)) Bm) D3 n [.br S,.sh^.str s,.ow^.dic j k,.sh^.bl g,r,v,.sh^.int l,.sh^.str x,.sh^.str y,F]:=by
  intro D3 x y l he j k K g r v G H F M B hD;have kl:=M.le B.ins;exists j,k,_,rfl,A3 x;show if((BI j k^.inr x).isSome)=p_ then _ else _
  cases ex:K x with
  |none=>
   rw[M.at_,ex];exact Az^hD j k K g _ _ _ M B^.inl #[rfl,rfl,λd e=>by rw[show K x=P3 d from e]at ex; cases ex]
  | some d=>
   rw[M.at_,ex];refine Ay #[j,k,_,_,rfl,A3 x,by rw[M.at_,ex]; rfl,?_];exists j,k,rfl,_,A3 y
   have Z:(K y=o_\/∃I,K y=P3 I/\d+l<I)->(BV (KU 2 (AH 8)^AH 9)^CY 3^wC^D.bl p_) D3 n [.br S,.sh^.str s,.ow^.dic j k,.sh^.bl g,r,v,.sh^.int l,.sh^.str x,.sh^.str y,.sh^.int (d+l)]:=λL=>by
    refine#[j,k,rfl,_,A3 y,by lk,?_];have C:=JC j^.inr y
    have a0:=B.put ok (c':=(DJ j^.inr y).length) (by rw[C]; split <;>lk) (by simp only[C]; split <;>lk) ex he (λe=>by rw[C,if_neg^by rw[(M.has (x:=y)).1 e]; decide]) (λI e=>by
     rcases L with L|⟨d2,L,a1⟩
     .rw[e]at L; cases L
     .rw[e]at L; cases L; exact a1)
    exact hD _ _ _ p_ _ _ _ (M.put y (d+l)) a0.1^.inr #[rfl,a0.2]
   rw[M.at_];cases ey:K y with
   |none=>
    show if decide (d+l<d+l+1)=p_ then _ else _
    rw[decide_eq_true^by lk];exact Ay^Z^.inl ey
   | some I=>
    show if decide (d+l<I)=p_ then _ else _
    by_cases c:d+l<I
    .rw[decide_eq_true c]
     exact Ay^Z^.inr #[I,ey,c]
    .rw[decide_eq_false c]
     refine Az^hD j k K g _ _ _ M B^.inl #[rfl,rfl,λd2 e=>?_];rw[show K x=P3 d2 from e]at ex;cases ex;exact#[I,ey,by show I<=d+l; lk]
 refine Gq (λm n' ρ=>n'=n/\∃(j:r_ Key) (k:r_ D) (K:Kn) (g:Bool) (r v T G H F:Slot),ρ=[.br S,.sh^.str s,.ow^.dic j k,.sh^.bl g,r,v,T,G,H,F]/\qP j k D.int K/\Bf N s j.length K/\((g=p_/\m=Rx N.ps K+1)\/(g=q_/\m=0/\∀t∈N.ts,Ip K (t.a,t.b,t.len)/\Ip K (t.b,t.a,t.len)))) _ #[rfl,_,_,_,p_,_,_,_,_,_,_,rfl,qP.one (enc:=D.int) (a:=(0:Int)),Bf.init hs,.inl #[rfl,rfl]] ?_ ?_
 .rintro m n' ρ N' ⟨rfl,j,k,K,g,r,v,T,G,H,F,rfl,M,B,O⟩ hN
  rcases O with⟨rfl,hm⟩|⟨rfl,_,ht⟩
  .have R:∀(o done:r_ An) (j:r_ Key) (k:r_ D) (q:Kn) (g:Bool) (r v T G H F:Slot),done++o=us->qP j k D.int q->Bf N s j.length q->((g=p_/\Rx N.ps q<Rx N.ps K)\/(g=q_/\Rx N.ps q<=Rx N.ps K/\∀t∈done,Ip q (t.a,t.b,t.len)/\Ip q (t.b,t.a,t.len)))->
     BH (HE 3^BK (Aq 4)^BK (Aq 5)^BK (Aq 6) Eb) (N5 (Fc^QR^AM (Bs^AM (AH 4)^AM (AH 5) Ad)^AM (Bs^AM (AH 5)^AM (AH 4) Ad) Ad) (HE 2^BK (Aq 7)^BK (Aq 8) Eb) (CZ (Au^Am (RO q_) (AH 7)^Bc 2) (BV (CY 9^Am BO (Am GS (Bc 2)^AH 7)^AH 6)
 (CZ (Au^Am HA (AH 9)^SG (Bc 2) (AH 8)^Am BO (AH 9)^wC^D.int 1) (BV (KU 2 (AH 8)^AH 9)
 (CY 3^wC^D.bl p_)) Bm)) Bm)) {EF Pd with nx:=N',ct:=N',bk:=SE 2^EF Pd} (o.map AR) n' [.br S,.sh^.str s,.ow^.dic j k,.sh^.bl g,r,v,T,G,H,F]:=by
    intro o
    induction o with
    |nil=>
     intro done j k q g r v T G H F e M B O;rw[gM]at e;subst e
     rcases O with⟨rfl,a1⟩|⟨rfl,_,ht⟩
     .exact hN (Rx N.ps q+1) _ _ (by lk) #[rfl,j,k,q,p_,_,_,_,_,_,_,rfl,M,B,.inl #[rfl,rfl]]
     .exact hN 0 _ _ (by lk) #[rfl,j,k,q,q_,_,_,_,_,_,_,rfl,M,B,.inr #[rfl,rfl,λt h=>ht t^(V t).mpr h]]
    | cons t o ih=>
     intro done j k q g r v T G H F e M B O;have a2:t∈N.ts:=(V t).mp (by rw[←e]; exact f8 _ Op);have e':(done++[t])++o=us:=by rw[iB]; exact e
     have ed:=L7 a2;exists rfl,rfl,z2,z2,z2;exists rfl,rfl;refine step _ t.a t.b t.len ed.1 j k q g _ _ G H F M B λa4 a5 K1 g1 t7 t8 t9 M1 B1 h1=>?_;exists rfl,rfl;refine step _ t.b t.a t.len ed.2 a4 a5 K1 g1 _ _ t7 t8 t9 M1 B1 λa6 a7 K2 g2 u7 u8 u9 M2 B2 h2=>?_;refine ih (done++[t]) a6 a7 K2 g2 _ _ _ _ _ _ e' M2 B2 ?_
     rcases h1 with⟨rfl,rfl,t1⟩|⟨rfl,b2⟩
     .rcases h2 with⟨rfl,rfl,t2⟩|⟨rfl,a8⟩
      .rcases O with z|⟨z1,z2,z3⟩
       .exact .inl z
       .refine .inr #[z1,z2,λu hu=>?_]
        rcases Uf.mp hu with hu|hu
        .exact z3 u hu
        .rw[Re.mp hu]; exact#[t1,t2]
      .refine .inl #[rfl,?_]
       rcases O with⟨_,z⟩|⟨_,z,_⟩ <;>lk
     .have base:Rx N.ps K1<Rx N.ps K:=by rcases O with⟨_,z⟩|⟨_,z,_⟩ <;>lk
      rcases h2 with⟨rfl,rfl,t2⟩|⟨rfl,a8⟩
      .exact .inl #[rfl,base]
      .exact .inl #[rfl,by lk]
   exact#[S,_,rfl,a3,R us [] j k K q_ _ _ _ _ _ _ rfl M B (.inr #[rfl,On _,λt h=>by cases h])]
  .exact#[_,rfl,p j k K M^B.told ok (by have:=M.le B.ins; lk) ht]
 .rintro n' ρ P Q a9 h
  unfold Au AH at h ⊢
  split at h
  .rename_i d hd
   cases d with
   |bl b=>exact a9 _ _ h
   |_=>exact h.elim
  .exact h.elim)
theorem Ho:A.Y "_law_thinned" 2 ["_law_net_here","_law_times_here"] .sh Nw:=A.gk A.h12 ["_law_net_here","_law_times_here","_law_kept","_law_tie","_law_least_here"] (λT R S=>(AC (N0 2 R^BM AG)
 (AC (CP gL rfl (Fx^cg S (Co A)^BZ (Aj (dv 0) AB) AF) (CU 3 R) (AC (CB 4 R^WG S (cg S (FW A)^AS (Jm^Ey 2)^BZ (Aj (dv 3) AB) AF)^Aj (dv 3) AB)
 (AE^Aa (DTW.dt^BR (Bl Fi Jx (dv 4) A2)^BX^Bl JI Nu (AV Ce Do (dv 4)^Aj (dv 1) AB)^AV Ce Do (Aj (dv 3) AB)^Aj (dv 1) AB) (AE^EL 2 Qi Rw Ru BP Ec (pv 2)^AA (dv 3) AG) AO)))
 (AE^AJ^AT^AA (Aj (dv 0) AB)^AA (Vx T.Gab (Ai Fz MM rfl T.Gaf k6 (AN (Ey 2) AW))) AG)))) (@λss n G h=>by
 let#[N,t,b,rfl,C,b1,b2,t1,t2,p]:=h;have ok:=C.1;have a2:=C.2.2;have a3:=PySem.sizeLine_eq;refine#[z0,_,AD (j:=1) rfl,_,N.ts,rfl,rfl,by lk,λq I o2=>?_];have J:q.Nodup:=I.nodup_iff.mpr^BF ok.qg
 have go:∀(l done k:r_ An) (U V:Slot),done++l=q->(∀u∈k,u∈done)->k.Nodup->Aw N t b k l=Aw N t b [] q->
   BH (Aq 3) (BV (CY 4^SH (A1 J0^AI (Ii^Bc 2)^AI (AU^Am CV (AH 3)^wC^D.int 0) A5)^Am CV (AH 3)^wC^D.int 1)
 (CZ (QQ (Au^Am (L3 q_) (AH 4)^wC D.non)^Au^Am (f2 λi j=>D.bl (decide (j<i))) (Am HY (AH 4)^Am CV (AH 1)^wC^D.int 1)^Am HY (Am CV (AH 3)^wC^D.int 2)^Am CV (AH 1)^wC^D.int 0) (Rt 2 "list" Hz^AM (AH 3) Ad) Bm)) {EE G with nx:=CG (Bs^AM (Am CV (AH 0)^wC^D.int 0)^AM (Gr D1^AM (Gr L1^AM (Bc 2) Ad) Ad) Ad)^EE G} (l.map AR) n [.sh^enc N,.sh^.tup [.int t,.int b],.ow^.lst^k.map AR,U,V]:=by
  intro l
  induction l with
  | nil=>
   intro done k U V e H s E;rw[gM]at e;subst e;have r:∀u∈k,u∈N.ts:=λu W=>I.mem_iff.mp^H u W;have X:=sub_len s (BF ok.qg) r;refine#[_,AD (j:=0) rfl,_,_,rfl,rfl,by rw[No]; lk,#[λx O=>?_,λx O y Z ka kb ea eb=>?_],λa4 hp ho=>?_]
   .let#[t,_,rfl]:=Rs.mp O
    exact#[D4 t,rfl,iu _ _]
   .let#[t,_,rfl]:=Rs.mp O
    let#[u,_,rfl]:=Rs.mp Z;cases(show P3^D4 t=P3 ka from ea);cases(show P3^D4 u=P3 kb from eb);rfl
   .let#[a5,p1,rfl]:=PD (g:=ZA) (λ_=>rfl) hp
    exists z2;have es:=OB ok r s p1^Pl ho
    have:G (enc^sub N k) n:=by rw[show k=Aw N t b [] done from E]; exact p done I o2
    rw[←es]at this;exact this
  | cons u l ih=>
   intro done k U V e H s E;have r:∀v∈k,v∈N.ts:=λv m=>I.mem_iff.mp (by rw[←e]; exact gy _^H v m);have X:=sub_len s (BF ok.qg) r;have W:u∈N.ts:=I.mem_iff.mp^by rw[←e]; exact f8 _ Op
   have a0:u∉done:=by
    rw[←e,gg]at J;exact λz=>J.2.2 u z u Op rfl
   have e':(done++[u])++l=q:=by rw[iB]; exact e
   let#[m1,m2,_]:=ok.tin u W;simp only[Df]at E;have B:C6 (sub N k) t b u=q_->∀F,(Rt 2 "list" Hz^AM (AH 3) Ad) {nx:=BH (Aq 3) (BV (CY 4^SH (A1 J0^AI (Ii^Bc 2)^AI (AU^Am CV (AH 3)^wC^D.int 0) A5)^Am CV (AH 3)^wC^D.int 1)
 (CZ (QQ (Au^Am (L3 q_) (AH 4)^wC D.non)^Au^Am (f2 λi j=>D.bl (decide (j<i))) (Am HY (AH 4)^Am CV (AH 1)^wC^D.int 1)^Am HY (Am CV (AH 3)^wC^D.int 2)^Am CV (AH 1)^wC^D.int 0) (Rt 2 "list" Hz^AM (AH 3) Ad) Bm)) {EE G with nx:=CG (Bs^AM (Am CV (AH 0)^wC^D.int 0)^AM (Gr D1^AM (Gr L1^AM (Bc 2) Ad) Ad) Ad)^EE G}^l.map AR,rt:=G} n [.sh^enc N,.sh^.tup [.int t,.int b],.ow^.lst^k.map AR,.sh^AR u,F]:=λc F=>by
    rw[c,if_neg^by cbv]at E;exists _,rfl,rfl,_,_,rfl,rfl,by rw[No]; lk
    have:=ih (done++[u]) (k++[u]) (.sh^AR u) F e' (λv m=>by
     rcases Uf.mp m with m|m
     .exact gy _^H v m
     .exact f8 _ m) (by
     rw[gg];exact#[s,gF.mpr #[ft,gl],λx O y Z z=>a0^by simp only[←Re.mp Z,←z]; exact H x O]) E
    rw[gW]at this;exact this
   refine#[_,AD (j:=0) rfl,sub N k,u.a,_,k,rfl,rfl,λv=>#[λm=>zL.mpr #[r v m,m],λm=>(zL.mp m).2],IF C k,m1,λks ds K M T=>?_];exists ks,ds,rfl,_,AD (j:=1) rfl,_,A3 u.b;rw[Vq M];have Q:=T.far u.b;cases ek:K u.b with
   | none=>
    simp only[ek]at Q;exists rfl
    exact B (by
     rw[gj];intro z;let#[d,hd,_]:=qS.mp z;exact Q d hd.1) _
   | some d=>
    simp only[ek]at Q
    have en:C6 (sub N k) t b u=decide (d*b<=u.len*t):=by
     rw[hX,qS,decide_eq_true_eq];constructor
     .rintro⟨d',a1,s⟩
      rw[qF.unique (show qF (sub N k) u.a u.b d from Q) a1];exact s
     .intro s
      exact#[d,Q,s]
    exists rfl;exists _,AD (j:=1) rfl,.inr #[by lk,by lk],_,AD (j:=2) rfl,_,AD (j:=0) rfl,.inr #[by lk,by lk];show if decide (u.len*t<d*b)=p_ then _ else _
    by_cases c:u.len*t<d*b
    .rw[decide_eq_true c]
     exact Ay^B (by rw[en]; exact decide_eq_false^by lk) _
    .rw[decide_eq_false c]
     rw[en,decide_eq_true^by lk,if_pos rfl]at E;exact Az^ih (done++[u]) k _ _ e' (λv m=>gy _^H v m) s E
 exact go q [] [] _ _ rfl (λu h=>by cases h) gl rfl)
theorem Mx:A.Y "_law_odd" 2 ["_law_feed_here","_law_thing"] .sh cH:=A.gk A.h13 ["_law_feed_here","_law_thing","_law_some","_law_at"] (λT L N=>(AC (N0 2 L^BM^AA A2^AA BU^AA AB^AA AB^AA (Cu AB)^AA AY^AA AY^AA (AT AG)^AA (BM AG)^AA (AV DZ CQ AB AB)^AA (AV AX Ac (AV DZ CQ AB AB) AB)^AA AY^AA AY^AA (dv 1) AG)
 (AC (Aa (Ah (P8 kit_tuple JW (dv 1) rfl T.Gaa rfl T.Gab (by decide +kernel) rfl T.Gag (by decide +kernel))) (AC (CB 3 L^cg N (Ax A)^AS (BC 0)^BZ (AV AX Ac (Fw T.Gac^dv 1) AB) AF)
 (AC (N0 2 L^AV IP FJ (Ey 2)^BM^AA (DR DP MO rfl T.Gag boot_list (AN (dv 1) AW))^AA (Vx T.Gab^dv 1)^AA (Ow (dv 1)^Cu AB)^AA (AV AX Ac (Bu DA Bv (dv 1) BE^Ao^dv 3)^Bu DA Bv (dv 1) (Ao^AV AX Ac (dv 3) AB) BE) AG)
 (AE^EL 2 Qi Rw Ru BP Ec (pv 2)^AA (AV AX Ac (AV AX Ac (Bu DA Bv (dv 1) BE^Ao^dv 3)^Bu DA Bv (dv 1) (Ao^dv 3)^Ao^AV AX Ac (dv 3) AB)^Bu DA Bv (dv 1) (Ao^dv 3) BE) AG))) AO)
 (AC (Aa (Ah (Bk Lu (dv 1) rfl T.Gaa rfl T.Gam (by decide +kernel))) (AE^N0 2 L^AV IP FJ (Ey 2)^BM^AA (AV AX Ac (dv 1) AB)^AA (AV DM EX (dv 1) AB)^AA (BD (G2 N) LI (dv 1) AB^Bj _)^AA (DR Rb ZP rfl T.Gaj boot_str (AN (dv 1) AW))^AA (AV DM EX AB^dv 1) AG) AO)
 (AE^AJ^Aj (Ey 2)^cg N (Ax A)^AS (BC 0)^BZ (Fw T.Gac^Ey 2) AF))))) (@λss n Pd s=>by
 let#[d,B,rfl,v,a0,C,M,hn,p]:=s
 have j:∀(o:r_ D),(∀z∈o,qY (B+1) z/\BY z<=2*BY d+250/\Ct z<=Ct d+1)->1<=o.length->o.length<=100->∀(m:Nat) (V:Slot),n - 1<=m->
   (CG^Am CV (Bc 2)^A1 Ee^AI (DF 0)^AI (AU^Gr NV^AM (Bc 2) Ad) A5) (EE Pd) m [.fd,.sh d,.ow^.lst o,V]:=by
  intro o O E W m V hm;refine#[_,_,rfl,rfl,(o.length:Int),rfl,by lk,by lk,by lk,λr s E=>?_];obtain⟨k,rfl⟩:∃k:Nat,r=(k:Int):=#[r.toNat,by lk];have Q:k<o.length:=by lk
  exists o[k],AD^FM Q;let#[g1,g2,g3]:=O o[k] (gH Q);exact p _ _ g1 g2 g3^by omega
 have self:qY (B+1) d/\BY d<=2*BY d+250/\Ct d<=Ct d+1:=#[v.mono^by lk,by lk,by lk]
 have base:∀z∈[D.non,.bl p_,.int 0,.int 1,.int (-1),.str "a",.str "b",.tup [],.lst [],.int (10 ^ (6:Int).toNat),.int (10 ^ (6:Int).toNat+1),.str "abcdefghi",.str "B",d],qY (B+1) z/\BY z<=2*BY d+250/\Ct z<=Ct d+1:=by
  have t:∀x∈[("a":Str),"b","abcdefghi","B"],(∀c∈cs x,c<1114112)/\x.length<=9:=by decide +kernel
  have u:∀i:Int,i.natAbs<=1000001->qY (B+1)^.int i:=λi h=>show i.natAbs<=B+1 by lk
  intro z e;simp only[TW,ft,or_false]at e
  rcases e with rfl|rfl|rfl|rfl|rfl|rfl|rfl|rfl|rfl|rfl|rfl|rfl|rfl|rfl
  .exact#[trivial,T0 _,T0 _]
  .exact#[trivial,T0 _,T0 _]
  .exact#[u _^by cbv,by show 200<=_; omega,T0 _]
  .exact#[u _^by cbv,by show 200<=_; omega,T0 _]
  .exact#[u _^by cbv,by show 200<=_; omega,T0 _]
  .exact#[(t _^by simp).1,f_ (t _^by simp).2 (by lk),T0 _]
  .exact#[(t _^by simp).1,f_ (t _^by simp).2 (by lk),T0 _]
  .exact#[trivial,T0 _,by show 0+1<=_; omega]
  .exact#[trivial,T0 _,by show 0+1<=_; omega]
  .exact#[u _^by cbv,by show 200<=_; omega,T0 _]
  .exact#[u _^by cbv,by show 200<=_; omega,T0 _]
  .exact#[(t _^by simp).1,f_ (t _^by simp).2 (by lk),T0 _]
  .exact#[(t _^by simp).1,f_ (t _^by simp).2 (by lk),T0 _]
  .exact self
 have l:∀(o g:r_ D),(∀z∈o,qY (B+1) z/\BY z<=2*BY d+250/\Ct z<=Ct d+1)->(∀z∈g,qY (B+1) z/\BY z<=2*BY d+250/\Ct z<=Ct d+1)->∀z∈o++g,qY (B+1) z/\BY z<=2*BY d+250/\Ct z<=Ct d+1:=λo g E W z M=>(Uf.mp M).elim (E z)^W z;exists 1,rfl,(by cbv:0<=sizeLine),(by cbv:0<=sizeLine),#[by cbv,by cbv,by cbv],#[by cbv,by cbv,by cbv],(by cbv:14<=sizeLine);have a1:=PySem.sizeLine_eq;cases d with
 |non=>exact#[trivial,j _ base (by simp) (by simp) n .no^by lk]
 |str x=>exact#[trivial,j _ base (by simp) (by simp) n .no^by lk]
 | bl k=>
  exists trivial;have R:Bz^.bl k:=Bb (B:=B) (by lk) v^T0 _;have S:Bz^.int 1:=Bb (B:=B) (d:=.int 1) (by lk) (show(1:Int).natAbs<=B by lk)^T0 _;exists R,S,(by cbv:5<=sizeLine),(by show 14+5<=sizeLine; decide);refine j _ (l _ _ base ?_) (by simp) (by simp) n .no (by lk);intro z e;simp only[TW,ft,or_false]at e;have Q:(bI k).natAbs<=1:=by cases k <;>decide
  rcases e with rfl|rfl|rfl|rfl|rfl
  .exact#[show(bI k+1).natAbs<=B+1 by omega,by show 200<=_; omega,T0 _]
  .exact#[show(bI k - 1).natAbs<=B+1 by omega,by show 200<=_; omega,T0 _]
  .exact#[trivial,T0 _,T0 _]
  .have:∀k:Bool,(∀c∈cs (if k then("True":Str)else "False"),c<1114112)/\(if k then("True":Str)else "False").length<=5:=by decide +kernel
   exact#[(this k).1,f_ (this k).2 (by lk),T0 _]
  .exact#[show(0 - bI k).natAbs<=B+1 by omega,by show 200<=_; omega,T0 _]
 | int i=>
  exists trivial;have u:i.natAbs<=B:=v;have R:Bz^.int i:=Bb (B:=B) (by lk) v^T0 _;have S:Bz^.int 1:=Bb (B:=B) (d:=.int 1) (by lk) (show(1:Int).natAbs<=B by lk)^T0 _
  have F:i.natAbs.log2<1920:=by
   by_cases s:i.natAbs=0
   .rw[s]; decide
   .exact kX ((Nat.log2_lt s).mpr^kX (kW u C) (by cbv:10 ^ 40<2 ^ 150))^by cbv
  have X:(gu^toString i).length<=41:=by
   rw[PySem.ofString_length];exact int_text_length_le10 (k:=40) (by cbv)^kW u C
  exists R,S,F,by lk,(by cbv:5<=sizeLine),(by show 14+5<=sizeLine; decide);refine j _ (l _ _ base ?_) (by simp) (by simp) n .no (by lk);intro z e;simp only[TW,ft,or_false]at e
  rcases e with rfl|rfl|rfl|rfl|rfl
  .exact#[show(i+1).natAbs<=B+1 by omega,by show 200<=_; omega,T0 _]
  .exact#[show(i - 1).natAbs<=B+1 by omega,by show 200<=_; omega,T0 _]
  .exact#[trivial,T0 _,T0 _]
  .exact#[Kx i,by show(gu^toString i).length<=_; lk,T0 _]
  .exact#[show(0 - i).natAbs<=B+1 by omega,by show 200<=_; omega,T0 _]
 | tup b=>
  have hl:=BL b;have U:Be b<=80000:=M;refine#[trivial,_,_,rfl,rfl,(b.length:Int)+1,rfl,by lk,by lk,by lk,λa s E=>?_]
  have q:∀(g:r_ D),(∀y∈g,y∈b)->Be g<=2*Be b->(qY (B+1)^.tup g/\BY^.tup g<=2*BY^.tup b+250/\Ct^.tup g<=Ct^.tup b+1)/\qY (B+1)^.lst g/\BY^.lst g<=2*BY^.tup b+250/\Ct^.lst g<=Ct^.tup b+1:=λg G hs=>by
   have H:Cj (B+1) g:=qz.mpr λy h=>qz.mp self.1 y^G y h;have I:Be g<=2*Be b+250:=by lk
   have:=qJ.mpr λy h=>qJ.mp (On^CW b) y^G y h
   have J:CW g+1<=CW b+1+1:=by lk
   exact#[#[H,I,J],H,I,J]
  have c1:=Bg b o_^P3 a;have c2:=Bg b (P3 (a+1)) o_;have c3:=Bg b (P3 a)^P3 (a+1);have c4:=Bg b (P3 a) o_;have d1:=BL^Dp.cutD b o_^P3 a;have d2:=BL^Dp.cutD b (P3 (a+1)) o_;have d3:=BL^Dp.cutD b (P3 a)^P3 (a+1);have d4:=BL^Dp.cutD b (P3 a) o_;have e1:(Dp.cutD b o_^P3 a++Dp.cutD b (P3 a)^P3 (a+1)).length=_:=fh;exists 1,rfl,rfl,by lk,(by cbv:4<=sizeLine),(by show 14+4<=sizeLine; decide),_,rfl,rfl,by lk,by lk,_,_,rfl,rfl,(by show 14+4<sizeLine; decide);refine j _ (l _ _ (l _ _ base ?_) ?_) (by simp) (by simp) (n - 1) (.sh^.int a)^On _
  .intro z e
   simp only[TW,ft,or_false]at e
   rcases e with rfl|rfl|rfl|rfl
   .exact(q b (λ_ h=>h)^by lk).2
   .exact(q b (λ_ h=>h)^by lk).1
   .exact(q b.reverse (λy h=>kL.mp h)^by rw[IE]; omega).1
   .exact(q _ (λy h=>(Uf.mp h).elim A_ A_)^by rw[BS]; omega).1
  .intro z e
   rw[Re.mp e];refine(q _ (λy h=>(Uf.mp h).elim (λh=>(Uf.mp h).elim A_ A_) A_) ?_).1;rw[BS,BS]
   have:=K8 b a s
   lk
 | lst b=>
  have hl:=BL b;have U:Be b<=80000:=M;refine#[trivial,_,_,rfl,rfl,(b.length:Int)+1,rfl,by lk,by lk,by lk,λa s E=>?_]
  have q:∀(g:r_ D),(∀y∈g,y∈b)->Be g<=2*Be b->(qY (B+1)^.tup g/\BY^.tup g<=2*BY^.lst b+250/\Ct^.tup g<=Ct^.lst b+1)/\qY (B+1)^.lst g/\BY^.lst g<=2*BY^.lst b+250/\Ct^.lst g<=Ct^.lst b+1:=λg G hs=>by
   have H:Cj (B+1) g:=qz.mpr λy h=>qz.mp self.1 y^G y h;have I:Be g<=2*Be b+250:=by lk
   have:=qJ.mpr λy h=>qJ.mp (On^CW b) y^G y h
   have J:CW g+1<=CW b+1+1:=by lk
   exact#[#[H,I,J],H,I,J]
  have c1:=Bg b o_^P3 a;have c2:=Bg b (P3 (a+1)) o_;have c3:=Bg b (P3 a)^P3 (a+1);have c4:=Bg b (P3 a) o_;have d1:=BL^Dp.cutD b o_^P3 a;have d2:=BL^Dp.cutD b (P3 (a+1)) o_;have d3:=BL^Dp.cutD b (P3 a)^P3 (a+1);have d4:=BL^Dp.cutD b (P3 a) o_;have e1:(Dp.cutD b o_^P3 a++Dp.cutD b (P3 a)^P3 (a+1)).length=_:=fh;exists 1,rfl,rfl,by lk,(by cbv:4<=sizeLine),(by show 14+4<=sizeLine; decide),_,rfl,rfl,by lk,by lk,_,_,rfl,rfl,(by show 14+4<sizeLine; decide);refine j _ (l _ _ (l _ _ base ?_) ?_) (by simp) (by simp) (n - 1) (.sh^.int a)^On _
  .intro z e
   simp only[TW,ft,or_false]at e
   rcases e with rfl|rfl|rfl|rfl
   .exact(q b (λ_ h=>h)^by lk).2
   .exact(q b (λ_ h=>h)^by lk).1
   .exact(q b.reverse (λy h=>kL.mp h)^by rw[IE]; omega).2
   .exact(q _ (λy h=>(Uf.mp h).elim A_ A_)^by rw[BS]; omega).2
  .intro z e
   rw[Re.mp e];refine(q _ (λy h=>(Uf.mp h).elim (λh=>(Uf.mp h).elim A_ A_) A_) ?_).2;rw[BS,BS]
   have:=K8 b a s
   lk
 |dic Z b=>exact(show False from v).elim
 |fdi Z b=>exact(show False from v).elim
 |dit Z b=>exact(show False from v).elim)
omit A in
theorem oG:BJ ["_law_feed_here","_law_thing","_law_deep","_law_at","_law_part"] ["_law_feed_here","_law_thing","_law_deep"]^AK HK:=by walk_at "s"
theorem GN:A.Y "_law_bent" 7 ["_law_feed_here","_law_thing","_law_deep"] .sh^Um 4:=A.got A.h14 λT F m b=>XJ 1 F oG m b (λhk S H=>(AC (Aa (DTW.dt^BR (As^Ah (P8 kit_tuple JW (dv 1) rfl T.Gaa rfl T.Gab (by decide +kernel) rfl T.Gag (by decide +kernel)))^BR (Bl Bt DD (Fw T.Gac^dv 1) AB)^BR (Bl Bt DD (dv 2) AB)^BX^Bl Bt DD (CJ (Ax A) (H.mono^by lk) rfl (AS (BC 0)^BZ AB AF)) AB) (AE^AJ (CJ (Mx A) (H.mono^by omega) rfl (AS (BC 0)^BA 1 AF))) AO)
 (AC (CB 3 oG.nd (CJ (Ax A) (H.mono^by lk) rfl (AS (BC 0)^BZ (Fw T.Gac^dv 1) AF)))
 (AC (CB 4 oG.nd (CJ S (H.mono^On _) rfl (AS (BC 0)^BZ (Aj (dv 1)^dv 3)^BZ (AV DM EX (dv 2) AB) AF)))
 (AE^AJ^AV AX Ac (AV AX Ac (Bu DA Bv (dv 1) BE^Ao^dv 3)^EM (Ah (Bk JW (dv 1) rfl T.Gaa rfl T.Gag (by decide +kernel))) (DE.sh^BM^AA (dv 4) AG)^AT^AA (dv 4) AG)^Bu DA Bv (dv 1) (Ao^AV AX Ac (dv 3) AB) BE))))) (@λWr j ss n U q V=>by
 let#[d,B,i,rfl,hi,s,t,u,I,hn,p]:=V;have l:∀m:Nat,n - 1<=m->cH [.fd,.sh d] m U:=λm hm=>#[d,B,rfl,s,t,u,I,by lk,λe J W X Z h4=>p e J W X Z^by lk];have a2:=PySem.sizeLine_eq;cases d with
 |non=>exact#[trivial,l n^by lk]
 |bl b=>exact#[trivial,l n^by lk]
 |int k=>exact#[trivial,l n^by lk]
 |str x=>exact#[trivial,l n^by lk]
 |dic R c=>exact(show False from s).elim
 |fdi R c=>exact(show False from s).elim
 |dit R c=>exact(show False from s).elim
 | tup c=>
  have hl:=BL c;have L:Be c<=80000:=I;exists trivial,_,_,rfl,rfl;refine B9 (λ_=>l n^by lk) λD=>?_;have M:c.length≠0:=λz=>D (by show((c.length:Int)==0)=p_; rw[z]; rfl);refine B9 (λ_=>l n^by lk) λE=>?_;have hj:i≠0:=λz=>E (by show((i:Int)==0)=p_; rw[z]; rfl);refine#[5,rfl,by cbv,by cbv,by lk,λr r0 r1=>?_];refine B9 (λ_=>l (n - 1)^by lk) λ_=>?_;refine#[_,_,rfl,rfl,(c.length:Int),rfl,by lk,by lk,by lk,λa a0 a1=>?_];obtain⟨a,rfl⟩:∃k:Nat,a=(k:Int):=#[a.toNat,by lk];have v:a<c.length:=by lk
  exists c[a],AD^FM v;have C:c[a]∈c:=gH v;have N:=LS C;refine q _ _ _ (by lk) #[c[a],B,i - 1,by rw[show(((i - 1:Nat)):Int)=(i:Int) - 1 by lk],by lk,qz.mp s _ C,t,u,by lk,by lk,λe J O f2 f3 f4=>?_];have G:=Sv v e;have d1:=BL^Dp.cutD c o_^P3 (a:Int);have d2:=BL^Dp.cutD c (P3 ((a:Int)+1)) o_;have D:=Bg c o_^P3 (a:Int);have E:=Bg c (P3 ((a:Int)+1)) o_;have e1:(Dp.cutD c o_^P3 (a:Int)++[e]).length=_:=fh;have e2:[e].length=1:=rfl
  have o:∀y∈Dp.cutD c o_^P3 (a:Int)++[e]++Dp.cutD c (P3 ((a:Int)+1)) o_,y∈c\/y=e:=λy g=>by
   rcases Uf.mp g with g|g
   .rcases Uf.mp g with g|g
    .exact .inl^A_ g
    .exact .inr^Re.mp g
   .exact .inl^A_ g
  have Q:=qJ.mp (On^CW c) _ C;refine#[(by cbv:1<=sizeLine),by lk,by lk,p (.tup _) _ ?_ ?_ ?_^by lk]
  .exact qz.mpr λy g=>(o y g).elim (λh=>(qz.mp s y h).mono^by lk) λh=>by rw[h]; exact O
  .show Be _<=2*Be c+250
   lk
  .show CW _+1<=CW c+1+1
   have:=qJ (k:=CW c+1).mpr λy g=>(o y g).elim (λh=>mT^qJ.mp (On^CW c) y h) λh=>by rw[h]; omega
   lk
 | lst c=>
  have hl:=BL c;have L:Be c<=80000:=I;exists trivial,_,_,rfl,rfl;refine B9 (λ_=>l n^by lk) λD=>?_;have M:c.length≠0:=λz=>D (by show((c.length:Int)==0)=p_; rw[z]; rfl);refine B9 (λ_=>l n^by lk) λE=>?_;have hj:i≠0:=λz=>E (by show((i:Int)==0)=p_; rw[z]; rfl);refine#[5,rfl,by cbv,by cbv,by lk,λr r0 r1=>?_];refine B9 (λ_=>l (n - 1)^by lk) λ_=>?_;refine#[_,_,rfl,rfl,(c.length:Int),rfl,by lk,by lk,by lk,λa a0 a1=>?_];obtain⟨a,rfl⟩:∃k:Nat,a=(k:Int):=#[a.toNat,by lk];have v:a<c.length:=by lk
  exists c[a],AD^FM v;have C:c[a]∈c:=gH v;have N:=LS C;refine q _ _ _ (by lk) #[c[a],B,i - 1,by rw[show(((i - 1:Nat)):Int)=(i:Int) - 1 by lk],by lk,qz.mp s _ C,t,u,by lk,by lk,λe J O f2 f3 f4=>?_];have G:=Sv v e;have d1:=BL^Dp.cutD c o_^P3 (a:Int);have d2:=BL^Dp.cutD c (P3 ((a:Int)+1)) o_;have D:=Bg c o_^P3 (a:Int);have E:=Bg c (P3 ((a:Int)+1)) o_;have e1:(Dp.cutD c o_^P3 (a:Int)++[e]).length=_:=fh;have e2:[e].length=1:=rfl
  have o:∀y∈Dp.cutD c o_^P3 (a:Int)++[e]++Dp.cutD c (P3 ((a:Int)+1)) o_,y∈c\/y=e:=λy g=>by
   rcases Uf.mp g with g|g
   .rcases Uf.mp g with g|g
    .exact .inl^A_ g
    .exact .inr^Re.mp g
   .exact .inl^A_ g
  have Q:=qJ.mp (On^CW c) _ C;refine#[(by cbv:1<=sizeLine),by lk,by lk,p (.lst _) _ ?_ ?_ ?_^by lk]
  .exact qz.mpr λy g=>(o y g).elim (λh=>(qz.mp s y h).mono^by lk) λh=>by rw[h]; exact O
  .show Be _<=2*Be c+250
   lk
  .show CW _+1<=CW c+1+1
   have:=qJ (k:=CW c+1).mpr λy g=>(o y g).elim (λh=>mT^qJ.mp (On^CW c) y h) λh=>by rw[h]; omega
   lk) (λ_ _ _ _ h=>by let#[_,_,_,e,_]:=h; rw[e]; rfl) (by cbv) 4
theorem DB:A.Y "_law_is_name" 1 ["_law_thing"] .sh cK:=A.got A.h15 (λT F m b=>bW F ["_law_thing"] (λ_ k=>(AC (Aa (DTW.dt^BR (As^Ah (Bk Ls (dv 0) rfl T.Gaa rfl T.Gaj (by decide +kernel)))^BX^As^UB (Ck k) EN (Ck k) EN AB (Fw T.Gac^dv 0) AB) (AE^AJ BU) AO)
 (AE^AJ (Ai (Dl rfl) Jy rfl T.Gah ia (AN (Hd ["_law_sign"] [o_] (A8^dv 0) (λt=>CU 0 t) A0^BD Yb cB (dv 0) AY^by with_unfolding_all rfl) AW))))) (@λv n l o=>by
 let#[d,rfl,h]:=o.out;clear o;cases d with
 | str x=>
  have a:l (.bl ((decide (1<=x.length)&&decide (x.length<=8))&&(cs x).all λc=>decide (97<=c)&&decide (c<=122))) n:=h;exists _,_,rfl,rfl;show(match (.bl (decide ((0:Int)<(x.length:Int))):D)with|.bl p_=>_|.bl q_=>_|_=>False)
  by_cases e:1<=x.length
  .have g:decide ((0:Int)<(x.length:Int))=p_:=decide_eq_true^by lk
   rw[g];show(if(!decide ((x.length:Int)<9))=p_ then _ else _)
   by_cases q:x.length<=8
   .have i:decide ((x.length:Int)<9)=p_:=decide_eq_true^by lk
    rw[decide_eq_true e,decide_eq_true q,iM,iM]at a;rw[i];refine Az #[by rw[Qc]; lk,?_];refine Ag (λd=>match d with|.str z=>.bl (!(iC qX z 0 qX.length 1).isEmpty)|_=>.non) (λr=>∃s,r=[s]) _ _ _ _ ?_ #[_,rfl] ?_
    .rintro d u r m y ⟨s,rfl⟩ j
     let#[c,B,rfl]:=Rs.mp u;exact j _ #[_,rfl]
    .rw[fw]
     unfold Dp.signs;rw[g9];show RP [.lst^x.cps.toList.map λc=>.bl (!(iC qX #[#[ c]] 0 qX.length 1).isEmpty)] λz=>l z n;refine GU (p:=λc=>!(iC qX #[#[ c]] 0 qX.length 1).isEmpty) ?_;rw[show(λc=>!(iC qX #[#[ c]] 0 qX.length 1).isEmpty)=λc=>decide (97<=c)&&decide (c<=122)from funext NH];exact a
   .have i:decide ((x.length:Int)<9)=q_:=decide_eq_false^by lk
    rw[decide_eq_true e,decide_eq_false q,lh,jh]at a;rw[i];exact Ay a
  .have g:decide ((0:Int)<(x.length:Int))=q_:=decide_eq_false^by lk
   simp only[decide_eq_false e,jh,jh]at a;rw[g];exact Ay a
 |_=>exact h)) λ_ _ _ h=>G0 h
theorem JN:A.Y "_law_is_tie" 2 ["_law_places_here","_law_thing"] .sh cL:=A.gk A.h16 ["_law_places_here","_law_thing"] (λT _ l=>(AC (Aa (DTW.dt^BR (As^Ah (Bk kit_tuple (dv 1) rfl T.Gaa rfl T.Gab (by decide +kernel)))^BR (Bl Dw Gj (Fw T.Gac^dv 1) AB)^BX^As^Ah^cg l (FV A)^BZ (Aj (dv 1) AB)^BZ AB^BZ (AV DZ CQ AB AB) AF) (AE^AJ BU) AO)
 (AC (Aa (DTW.dt^BR (As^Ah^cg l (DB A)^BZ (Aj (dv 1) AB) AF)^BX^As^Ah^cg l (DB A)^BZ (Aj (dv 1) AB) AF) (AE^AJ BU) AO)
 (AE^AJ^Cv (BD (Bp l) B_ (Aj (dv 1) AB) (dv 0)^by with_unfolding_all rfl)^Cv (BD (Bp l) B_ (Aj (dv 1) AB) (dv 0)^by with_unfolding_all rfl)^D9^BD (Ck l) EN (Aj (dv 1) AB) (Aj (dv 1) AB)^Bj _)))) (@λI n o E=>by
 let#[j,d,rfl,p,h]:=E;cases d with
 | tup m=>
  exists _,_,rfl,rfl;show if(!((m.length:Int)==3))=p_ then _ else _
  cases u:((m.length:Int)==3)with
  |false=>
   have g:o (.bl (Hg^.tup m&&D8 j^.tup m)) n:=h;rw[dX (d:=.tup m) u]at g;exact Ay g
  | true=>
   let#[a,b,c,e]:=dB (d:=.tup m) u;cases e;have g:o (.bl (((B6 a&&B6 b)&&((G6 a b==P3 p_)&&GO c))&&D8 j^.tup [a,b,c])) n:=h;refine Az #[_,rfl,(#[by cbv,by cbv,by cbv]:WY 10 6),c,1,_,rfl,?_];show if(!IR 1 ((10:Int) ^ (6:Int).toNat) c)=p_ then _ else _
   have F:IR 1 ((10:Int) ^ (6:Int).toNat) c=GO c:=by cases c <;>rfl
   rw[F];cases v:GO c with
   |false=>
    rw[v]at g;simp only[lh,jh]at g;exact Ay g
   | true=>
    rw[v]at g;refine Az #[_,rfl,[a],rfl,rfl,?_];show if(!B6 a)=p_ then _ else _
    cases q:B6 a with
    |false=>rw[q]at g; exact Ay g
    | true=>
     refine Az #[_,rfl,[b],rfl,rfl,?_];show if(!B6 b)=p_ then _ else _
     cases r:B6 b with
     |false=>rw[q,r]at g; exact Ay g
     | true=>
      rw[q,r]at g;let#[x,rfl,G]:=qG.mp q;let#[y,rfl,H]:=qG.mp r;simp only[IS]at g
      have s:o (.bl (decide (cs x<cs y)&&(j.any (·==x)&&j.any (·==y)))) n:=by
       cases B:decide (cs x<cs y)with
       |false=>rw[B]at g; exact g
       |true=>rw[B]at g; exact g
      rw[Bool.and_comm,Bool.and_assoc]at s;have C:∀x:Str,((j.map D.str).any λz=>Dt z^.str x)=j.any (·==x):=λx=>by rw[mj]; rfl
      simp only[←C,←C]at s;refine Az #[_,rfl,Eu G,Cq p,_,rfl,?_];refine HF (b1:=(j.map D.str).any λz=>Dt z^.str x) (b2:=((j.map D.str).any λz=>Dt z^.str y)&&decide (cs x<cs y)) (P:=o) (n:=n) (k:=λP=>_) (λ_ t=>#[_,rfl,Eu H,Cq p,_,rfl,?_]) s;exact HF (b1:=(j.map D.str).any λz=>Dt z^.str y) (b2:=decide (cs x<cs y)) (P:=o) (n:=n) (k:=λP=>_) (λ_ t=>#[_,rfl,_,rfl,t]) t
 |_=>exact h)
theorem GK:A.Y "_law_rise" 1 ["_law_things"] .sh MR:=A.gk A.h17 ["_law_things"] (λT _ j=>(AE^AJ^BD (E8 j) B_ BU (Hd ["_law_things","_law_k"] [P3 0,o_] (DI.c (CT rfl T.Gad (AN (AV DM EX (Fw T.Gac^dv 0) AB) AW))) (λL=>CU 1 L) A0^BD (Ck j) EN (Aj (dv 0)^dv 1) (Aj (dv 0)^AV AX Ac (dv 1) AB)^Bj _)^by with_unfolding_all rfl)) (@λO n F h=>by
 let#[d,a,rfl,g,Q,q,h]:=h
 have G:((Ci 0 ((a.length:Int) - 1).toNat).length<=10000000)/\Dx (Aq 1) Gp (Am HA (Am CV (AH 0)^AH 1)^Am CV (AH 0)^Am BO (AH 1)^wC^D.int 1) (λu M=>L4 p_ (.bl q_) (.lst u) λz=>F z M) (Ci 0 ((a.length:Int) - 1).toNat) [] n [.sh d,.no]:=by
  refine#[by rw[B0]; lk,?_];refine Ag (λe=>.bl (match e with|.int i=>G6 (a.getD i.toNat .non)^a.getD (i.toNat+1) .non==P3 p_|_=>q_)) (λH=>∃s,H=[.sh d,s]) _ _ _ _ ?_ #[_,rfl] ?_
  .rintro z N H m o ⟨s,rfl⟩ v
   let#[k,R,rfl]:=GA N;have x:(0+(k:Int))=(k:Int):=by lk
   have B:k<a.length:=by omega
   have C:k+1<a.length:=by omega
   have b:o (.bl (G6 a[k] a[k+1]==P3 p_)) m [.sh d,.sh^.int (0+(k:Int))]:=by
    have:=v [.sh d,.sh^.int (0+(k:Int))] #[_,rfl]
    rw[x]at this ⊢;show o (.bl _) m _;have t:o (.bl (G6 (a.getD k .non)^a.getD (k+1) .non==P3 p_)) m [.sh d,.sh^.int (k:Int)]:=this;simp only[gN,gN,FM B,FM C]at t;exact t
   let#[r,j]:=q _ (gH B) _^gH C;have I:atI a (0+(k:Int))=P3 a[k]:=by rw[x]; exact AD^FM B
   have J:atI a (0+(k:Int)+1)=P3 a[k+1]:=by rw[x,show((k:Int)+1)=((k+1:Nat):Int) by lk]; exact AD^FM C
   have l:HA a[k] a[k+1] λy=>o y m [.sh d,.sh^.int (0+(k:Int))]:=by
    refine Pz j ?_;rw[j]at b;cases r <;>exact b
   cases d with
   |lst E=>cases g; exact#[_,I,_,J,l]
   |tup E=>cases g; exact#[_,I,_,J,l]
   |_=>cases g
  .rw[fw]
   refine C8 (p:=fun(e:D)=>match e with|.int i=>G6 (a.getD i.toNat .non)^a.getD (i.toNat+1) .non==P3 p_|_=>q_) ?_;show F (.bl^(Ci 0 ((a.length:Int) - 1).toNat).all _) n;unfold Ci;rw[j9,show((a.length:Int) - 1).toNat=a.length - 1 by lk]
   have e:((fun(e:D)=>match e with|.int i=>G6 (a.getD i.toNat .non)^a.getD (i.toNat+1) .non==P3 p_|_=>q_)∘fun(i:Nat)=>D.int (0+(i:Int)))=λi=>G6 (a.getD i .non)^a.getD (i+1) .non==P3 p_:=by
    funext i
    show(G6 (a.getD (0+(i:Int)).toNat .non)^a.getD ((0+(i:Int)).toNat+1) .non==P3 p_)=_;rw[show(0+(i:Int)).toNat=i by lk]
   rw[e,LG];exact h
 cases d with
 |lst E=>cases g; exact#[_,_,rfl,rfl,_,rfl,#[by lk,by lk],G]
 |tup E=>cases g; exact#[_,_,rfl,rfl,_,rfl,#[by lk,by lk],G]
 |_=>cases g)
theorem JO:A.Y "_law_is_net" 3 ["_law_thing"] .sh cI:=A.got A.h18 (λT F m b=>bW F ["_law_thing"] (λ_ r=>(AC (Aa (DTW.dt^BR (As^Ah (Bk kit_tuple (dv 0) rfl T.Gaa rfl T.Gab (by decide +kernel)))^BR (Bl Dw Gj (Fw T.Gac^dv 0) AB)^BX^As^Ah (Bk kit_tuple (Aj (dv 0) AB) rfl T.Gaa rfl T.Gab (by decide +kernel))) (AE^AJ BU) AO)
 (AC (Aa (DTW.dt^BR (As^Ah (Bk kit_tuple (Aj (dv 0) AB) rfl T.Gaa rfl T.Gab (by decide +kernel)))^BR (Bl JI Nu (Fw T.Gac^Aj (dv 0) AB) AB)^BX^Bl JI Nu (Fw T.Gac^Aj (dv 0) AB) AB) (AE^AJ BU) AO)
 (AC (Aa (DTW.dt^BR (Bl (Bp r) B_ BU^Hd ["_law_one"] [o_] (A8^Aj (dv 0) AB) (λv=>CU 0 v) A0^cg r (DB A)^BA 0 AF)^BX^As^Ah^cg r (GK A)^BZ (Aj (dv 0) AB) AF) (AE^AJ BU) AO)
 (AC (Aa (Bl (Bp r) B_ BU^Hd ["_law_thing","_law_tie"] [P3 0,o_] (A8^Aj (dv 0) AB) (λv=>CU 1 v) A0^cg r (JN A)^BZ (Aj (dv 0) AB)^BA 1 AF) (AE^AJ BU) AO)
 (AE^AJ^cg r (GK A)^BZ (Hd ["_law_tie"] [o_] (A8^Aj (dv 0) AB) (λv=>CU 0 v) A0^Bu DA Bv (dv 0) BE^Ao AB) AF)))))) (@λU n G N=>by
 let#[d,rfl,h]:=N.out;clear N;cases d with
 | tup B =>
  exists _,_,rfl,rfl;show if(!((B.length:Int)==2))=p_ then _ else _
  cases z:((B.length:Int)==2)with
  |false=>
   rw[bE (d:=.tup B) z]at h;exact Ay h
  | true =>
   let#[p,t,e]:=X1 (d:=.tup B) z;cases e;have a:G (.bl (IK p&&N9 p t)) n:=h;refine Az #[_,rfl,?_];cases p with
   | tup i=>
    exists _,rfl;cases t with
    | tup c=>
     have a:G (.bl ((decide (i.length<=24)&&(i.all B6&&Jw i))&&(decide (c.length<=60)&&(c.all Hg&&(c.all^D8^strsOf i&&Jw^c.map Ex))))) n:=h;exists _,rfl,_,_,rfl,rfl;show if decide ((24:Int)<(i.length:Int))=p_ then _ else _
     by_cases O:i.length<=24
     .rw [decide_eq_true O,iM]at a
      rw[decide_eq_false (show ¬(24:Int)<(i.length:Int) by lk)];refine Az #[_,rfl,_,_,rfl,rfl,?_];show if decide ((60:Int)<(c.length:Int))=p_ then _ else _
      by_cases Q:c.length<=60
      .rw [decide_eq_true Q,iM]at a
       rw[decide_eq_false (show ¬(60:Int)<(c.length:Int) by lk)];refine Az #[_,rfl,by show i.length<=10000000; lk,?_];refine Ag (λd=>.bl^B6 d) (λk=>∃s,k=[s]) _ _ _ _ ?_ #[_,rfl] ?_
       .rintro d H k m R ⟨s,rfl⟩ j
        exact#[[d],rfl,rfl,j _ #[_,rfl]]
       rw[fw];refine C8 ?_;show if(!i.all B6)=p_ then _ else _
       cases I:i.all B6 with
       |false=>rw[I]at a; exact Ay a
       | true=>
        rw[I,iM]at a;let#[o,rfl,J]:=M9 I;rw[Bo]at a;refine Az #[_,rfl,_,_,rfl,rfl,by lk,λx C y D=>?_,?_]
        .let#[p,_,rfl]:=Rs.mp C
         let#[q,_,rfl]:=Rs.mp D;exact#[_,IS p q]
        show if(!Jw (o.map .str))=p_ then _ else _
        cases S:Jw^o.map .str with
        |false=>rw[S]at a; exact Ay a
        | true=>
         rw[S,iM]at a;refine Az #[_,rfl,by show c.length<=10000000; omega,?_];refine Ag (λd=>.bl^ND o d) (λk=>∃s,k=[.sh^.tup [.tup^o.map .str,.tup c],s]) _ _ _ _ ?_ #[_,rfl] ?_
         .rintro d H k m R ⟨s,rfl⟩ j
          exact#[_,rfl,o,d,rfl,J,j _ #[_,rfl]]
         rw[fw];refine C8 ?_;show if(!c.all (ND o))=p_ then _ else _
         rw[Tb];rw[←Bool.and_assoc]at a;cases E:(c.all Hg&&c.all^D8 o)with
         |false=>rw[E]at a; exact Ay a
         | true=>
          rw[E,iM]at a;simp only[ZB]at E;have g:∀t∈c,Hg t=p_:=gI.mp E.1;refine Az #[_,rfl,by show c.length<=10000000; omega,?_];refine Ag Ex (λk=>∃s,k=[s]) _ _ _ _ ?_ #[_,rfl] ?_
          .rintro d H k m R ⟨s,rfl⟩ j
           let#[x,y,l,rfl,C,D,_]:=LR^g d H;exact j _ #[_,rfl]
          simp only[fw];refine#[_,_,rfl,rfl,by rw[No]; lk,λx C y D=>?_,a];let#[t,L,rfl]:=Rs.mp C;let#[u,M,rfl]:=Rs.mp D;let#[V,W,X,rfl,_]:=LR^g t L;let#[Z,y2,l2,rfl,_]:=LR^g u M;exact#[_,rfl]
      .rw[decide_eq_false Q,jh,lh]at a
       rw[decide_eq_true (show(60:Int)<(c.length:Int) by lk)];exact Ay a
     .rw[decide_eq_false O,jh]at a
      rw[decide_eq_true (show(24:Int)<(i.length:Int) by lk)];exact Ay a
    |_=>have z:G (.bl (IK^.tup i&&q_)) n:=a; rw[lh]at z; exact z
   |_=>exact a
 |_=>exact h)) λ_ _ _ h=>G0 h
theorem Hu:A.Y "_law_is_thin" 4 ["_law_net_here","_law_thing"] .sh Ud:=A.gk A.h19 ["_law_net_here","_law_thing","_law_there"] (λT V v=>(AC (Aa (DTW.dt^BR (As^Ah^cg v (JO A)^BA 1 AF)^BX^Bl Dw Gj (Ai (CD v) EY rfl T.Gae kC (AN (Aj (dv 1) AB) AW)) (Ai (CD v) EY rfl T.Gae kC (AN (Aj (dv 0) AB) AW))) (AE^AJ BU) AO)
 (AC (CB 2 V^Hd ["_law_tie"] [o_] (A8^Aj (dv 0) AB) (λO=>CU 0 O) A0 (Ai (CD v) EY rfl T.Gae kC (AN (dv 0) AW)))
 (AE^AJ^BD (E8 v) B_ BU (Hd ["_law_there","_law_tie"] [P3 2,o_] (A8^Aj (dv 1) AB) (λO=>CU 1 O) A0^BD (Bp v) B_ (Ai (CD v) EY rfl T.Gae kC (AN (dv 1) AW)) (dv 0)^by with_unfolding_all rfl)^by with_unfolding_all rfl)))) (@λss n Pd h=>by
 let#[N,d,rfl,ok,R,W,hf,hs,g,p]:=h;have X:=PySem.sizeLine_eq;exists[d],rfl,rfl;show if(!OX d)=p_ then _ else _
 cases c:OX d with
 | false=>
  have:qh N d=q_:=by
   rw[gj];intro z;rw[SR ok R W^qK.mp z]at c;cases c
  rw[this]at p;exact Ay p
 | true=>
  let#[Q,Z,rfl,G,k1,k2,o,hp]:=TZ c;rw[←SS ok G o hp]at p
  have H:∀(r:r_ Str),(∀q∈r,D7 q)->r.length<=24->FS^.tup^r.map .str:=λr hq hl=>by
   have C:∀d∈r.map D.str,item d:=λd g=>by
    let#[x,hx,rfl]:=Rs.mp g;exact Cs^hq x hx
   have s1:=EO (k:=451) λd g=>jk (C d g).2.1;have d1:CW^r.map D.str<=1:=qJ.mpr λd g=>(C d g).2.2;rw[No]at s1;exact F_ (B:=1000001) (by cbv) (qz.mpr λd g=>(C d g).1) (by show CW^r.map D.str+1<=100; lk)^by show Be^r.map D.str<=200000; lk
  have I:∀t:An,D7 t.a/\D7 t.b/\1<=t.len/\t.len<=1000000->FS^AR t:=λt i=>by
   have C:=NM (Cs i.1) (Cs i.2.1) i.1.2.1 i.2.1.2.1 (l:=t.len) (by omega);exact F_ (B:=1000001) (by cbv) C.1 (by have:=C.2.2; show Ct^AR t<=100; unfold AR; lk)^by have:=C.2.1; show BY^AR t<=200000; unfold AR; lk
  have E:∀t∈N.ts,D7 t.a/\D7 t.b/\1<=t.len/\t.len<=1000000:=λt i=>by
   let#[m1,m2,_,m4,m5]:=ok.tin t i;exact#[ok.names _ m1,ok.names _ m2,m4,m5]
  refine Az #[_,AD (j:=0) rfl,_,rfl,H Q G k1,_,AD (j:=0) rfl,_,rfl,H N.ps ok.names R,?_];show if(!(Ae^.tup^Q.map .str==Ae^.tup^N.ps.map .str))=p_ then _ else _
  cases e:Ae^.tup^Q.map .str==Ae^.tup^N.ps.map .str with
  |false=>rw[e]at p; exact Ay p
  | true=>
   rw[e,iM]at p;refine Az #[_,AD (j:=1) rfl,by show(N.ts.map AR).length<=10000000; rw[No]; lk,?_];refine Ag (λd=>.str^Ae d) (λJ=>∃s,J=[s]) _ _ _ _ ?_ #[_,rfl] ?_
   .rintro d g J m S ⟨s,rfl⟩ F
    let#[u,M,rfl]:=Rs.mp g;exact#[_,rfl,I u^E u M,F _ #[_,rfl]]
   rw[fw]
   have L:Bz (.lst^(N.ts.map AR).map λd=>.str^Ae d):=by
    refine Bb (B:=0) (by cbv) (qz.mpr λd g=>?_) ?_
    .let#[e,U,rfl]:=Rs.mp g
     let#[u,M,rfl]:=Rs.mp U;exact HI (E u M).1 (E u M).2.1
    .have:CW ((N.ts.map AR).map λd=>D.str^Ae d)<=0:=qJ.mpr λd g=>by
      let#[e,U,rfl]:=Rs.mp g;exact On _
     show CW _+1<=100;lk
   refine#[_,AD (j:=1) rfl,by show(Z.map AR).length<=10000000; rw[No]; lk,?_];refine Ag (λd=>.bl^(N.ts.map AR).any λe=>Ae e==Ae d) (λJ=>∃s,J=[.sh^.lst^(N.ts.map AR).map λd=>.str^Ae d,s]) _ _ _ _ ?_ #[_,rfl] ?_
   .rintro d g J m S ⟨s,rfl⟩ F
    let#[t,i,rfl]:=Rs.mp g;exists _,rfl,I t^o t i,Bb (B:=0) (d:=.str _) (by cbv) (HI (o t i).1 (o t i).2.1)^T0 _,L,_,rfl;show S (.bl^((N.ts.map AR).map λd=>.str^Ae d).any λy=>Dt y^.str^Ae^AR t) m _;rw[mj];exact F _ #[_,rfl]
   .rw[fw]
    refine C8 ?_;exact p)
theorem Es:A.Y "_law_walked" 1 ["_law_net_here","_law_way"] .sh QI:=A.gk A.h1a ["_law_net_here","_law_way","_law_sum_of","_law_k","_law_here","_law_there","_law_steps"] (λT V M=>(AC (Aa (DTW.dt^BR (As^Ah (Bk kit_tuple (dv 1) rfl T.Gaa rfl T.Gab (by decide +kernel)))^BR (Bl Bt DD (Fw T.Gac^dv 1) AB)^BX^Bl (Bp M) B_ BU^Hd ["_law_one"] [o_] (A8^dv 1) (λnq=>CU 0 nq) A0 (Bk Ls (dv 0) rfl T.Gaa rfl T.Gaj (by decide +kernel))) (AE^AJ A2) AO)
 (AC (Aa (Bl (Bp M) B_ BU^Hd ["_law_net_here","_law_one"] [P3 0,o_] (A8^dv 1) (λnq=>CU 1 nq) A0^BD (Bp M) B_ (dv 1) (Aj (dv 0) AB)^by with_unfolding_all rfl) (AE^AJ A2) AO)
 (AC (CB 2 V AB)
 (AC (CP gL rfl (K7 rfl T.Gad (AN AB^AN (Fw T.Gac^dv 1) AW)) (CU 3 V) (AC (UE (Bu DA Bv (dv 1) (Ao^AV DM EX (dv 3) AB)^Ao^AV AX Ac (dv 3) AB)^Ry^Af (CU 4 V)^Af (CU 5 V) CM)
 (AC (L9 (i:=6) V rfl (gi rfl) rfl [("_law_here":Str),("_law_there":Str),("_law_tie":Str)] [P3 4,P3 5,o_] (A8^Aj (dv 0) AB) (λ_ _ _ _ _=>(Ga (i:=2) (show nO [("_law_here":Str),("_law_there":Str),("_law_tie":Str)] by decide +kernel) rfl (gi rfl))) (λ_ _ _ _ _=>(GZ^DTW.dt^HC (Bl Dw Gj (dv 0)^dv 1)^HC (Bl (Bp M) B_ (dv 0)^Bu DA Bv (dv 2) BE^Ao AB)^GV^Bl (Bp M) B_ (dv 1)^Bu DA Bv (dv 2) BE^Ao AB)) (λ_ _ _ _ _=>(Aj (dv 2) AB)) (by kernel_rfl))
 (AC (Aa (Bl (G2 M) LI (dv 6)^BM AG) (AE^AJ A2) AO)
 (AE^CB 2 V^AV AX Ac (dv 2)^Aj (dv 6) AB)))))
 (AE^AJ^dv 2)))))) (@λss n Pd h0=>by
 let#[N,us,zz,d,rfl,a3,#[I,lt],ok,lp,fd,p]:=h0;cases d with
 | tup W =>
  have hl:=BL W;have C:Be W<=160000:=fd.2.1;have X:Pd (if W.all Cg then Q4 N^strsOf W else .non) n:=p;exists _,_,rfl,rfl;show if((W.length:Int)==0)=p_ then _ else _
  cases W with
  |nil=>exact Ay X
  | cons x0 r0=>
   rw[show(((x0::r0).length:Int)==0)=q_ from beq_eq_false_iff_ne.mpr^by simp only[eq]; lk];refine Az #[by lk,?_];refine Ag (λd=>.bl^Cg d) (λv=>∃s,v=[s]) _ _ _ _ ?_ #[_,rfl] ?_
   .rintro d k v m nx ⟨s,rfl⟩ q
    have:=q [.sh d] #[_,rfl]
    cases d <;>exact this
   rw[fw];refine C8 ?_;show if(!(x0::r0).all Cg)=p_ then _ else _
   cases ha:(x0::r0).all Cg with
   |false=>rw[ha]at X; exact Ay X
   | true =>
    rw[ha]at X;let#[ys,e]:=F8 ha;rw[e,Bo]at X;cases ys with
    |nil=>cases e
    | cons y r=>
     simp only[gJ]at e;cases e;have p2:Pd (if y∈N.ps then J7^EH N.ts y r 0 else .non) n:=X
     have E:∀z∈y::r,Bz^.str z:=λz C=>by
      refine Bb (B:=10 ^ 40) (by cbv) ?_^T0 _;exact qz.mp fd.1 _ (Rs.mpr #[z,C,rfl]:D.str z∈(y::r).map D.str)
     refine Az #[by lk,?_];refine Ag (λd=>.bl (match d with|.str z=>N.ps.any (·==z)|_=>q_)) (λv=>∃s,v=[.sh^.tup [.tup^N.ps.map .str,zz],s]) _ _ _ _ ?_ #[_,rfl] ?_
     .rintro d k v m nx ⟨s,rfl⟩ q
      let#[z,C,rfl]:=Rs.mp (show d∈(y::r).map D.str from k);exists _,AD (j:=0) rfl,E z C,Cq ok.names,_,rfl
      have:=q [.sh^.tup [.tup^N.ps.map .str,zz],.sh^.str z] #[_,rfl]
      have Z:((N.ps.map D.str).any λu=>Dt u^.str z)=N.ps.any (·==z):=by rw[mj]; rfl
      have this:nx (.bl (N.ps.any (·==z))) m [.sh^.tup [.tup^N.ps.map .str,zz],.sh^.str z]:=this;rw[←Z]at this;exact this
     rw[fw];refine C8 (l:=(y::r).map D.str) (p:=fun(d:D)=>match d with|.str z=>N.ps.any (·==z)|_=>q_) ?_;show if(!((y::r).map D.str).all _)=p_ then _ else _
     rw[j9]
     have O:((y::r).all ((fun(d:D)=>match d with|.str z=>N.ps.any (·==z)|_=>q_)∘D.str))=p_↔∀z∈y::r,z∈N.ps:=by
      rw[gI];refine forall_congr' λz=>forall_congr' λC=>?_;show(N.ps.any (·==z))=p_↔_;rw[iR];exact#[fun#[u,hu,e]=>by simp only[←eq_of_beq e]; exact hu,λh=>#[z,h,beq_self_eq_true _]]
     by_cases J:∀z∈y::r,z∈N.ps
     .rw [O.mpr J]
      rw[if_pos^J y Op]at p2;refine Az #[_,_,rfl,rfl,_,_,rfl,#[by cbv,by cbv,by lk,by lk],?_];have a4:∀t∈N.ts,t.a≠t.b:=λt H e=>by have:=(ok.tin t H).2.2.1; rw[e]at this; exact jg _ this
      have Q:(((y::r).map D.str).length:Int) - 1=(r.length:Int):=by simp only[No,eq]; lk
      refine EG (all:=Ci 1 ((((y::r).map D.str).length:Int) - 1).toNat) (λo m v=>∃(x:Str) (g:r_ Str) (s:Int) (s3 s4 s5 s6:Slot),(y::r).drop o.length=x::g/\m=n/\Pd (J7^EH N.ts x g s) n/\v=[.sh^.tup [.tup^N.ps.map .str,zz],.sh^.tup^(y::r).map .str,.sh^.int s,s3,s4,s5,s6]) ?_ ?_ _ [] _ _ rfl #[y,r,0,_,_,_,_,rfl,rfl,p2,rfl]
      .rintro m v ⟨x,g,s,s3,s4,s5,s6,k,rfl,F,rfl⟩
       rw[B0,Q]at k
       have:=congrArg jG k
       simp only[kF,eq,eq]at this;have M:g=[]:=jq.mp (by omega);rw[M]at F;exact F
      .rintro o d a6 m v nx a0 ⟨x,g,s,s3,s4,s5,s6,k,rfl,F,rfl⟩ q
       let#[rfl,hk]:=IG a0;rw[Q]at hk;have R:=congrArg jG k;simp only[kF,eq,eq]at R;cases g with
       |nil=>simp only[hZ]at R; omega
       | cons z g=>
        rw[fh,gC]at q;have a5:(y::r).drop (o.length+1)=z::g:=by rw[←List.drop_drop,k]; rfl
        have hx:x∈y::r:=kI (i:=o.length) (by rw[k]; exact Op);have C:z∈y::r:=kI (i:=o.length) (by rw[k]; exact TM _ Op);have ec:=WJ k;show HE 2 (BK (Aq 4)^BK (Aq 5) Eb) (D.tup^Dp.cutD ((y::r).map D.str) (P3 (1+(o.length:Int) - 1))^P3 (1+(o.length:Int)+1)) _ _;rw[ec];exists rfl,rfl
        rcases VA a3 with rfl|rfl
        all_goals
         refine#[_,AD (j:=1) rfl,by rw[No]; lk,?_];refine Dd (Ea x z) Tg (λv=>∃s,v=[.sh^.str x,.sh^.str z,s]) _ _ _ _ ?_ #[_,rfl] ?_
         .rintro d k v m nx sk ⟨s,rfl⟩ h1 h2
          let#[t,H,rfl]:=Rs.mp k;have H:=(I t).mp H;let#[m1,m2,_]:=ok.tin t H
          have l2:Bz^.tup [.str t.a,.str t.b]:=Cq (ps:=[t.a,t.b]) λp F=>by
           simp only[TW,ft,or_false]at F
           rcases F with rfl|rfl
           .exact ok.names _ m1
           .exact ok.names _ m2
          have k1:=h1 [.sh^.str x,.sh^.str z,.sh^AR t] #[_,rfl];have U:=h2 [.sh^.str x,.sh^.str z,.sh^AR t] #[_,rfl];have ej:Ea x z^AR t=(!(x==z)&&((t.a==x||t.b==x)&&(t.a==z||t.b==z))):=rfl;have a1:∀x:Str,([D.str t.a,D.str t.b].any λu=>Dt u^.str x)=(t.a==x||t.b==x):=λx=>by show(t.a==x||(t.b==x||false))=_; rw[nP]
          rw[ej]at k1 U;show if(!(x==z))=p_ then _ else _
          cases Z:(x==z)with
          |true=>rw[Z]at U; exact Az^Az (U rfl)
          | false=>
           refine Ay #[E x hx,l2,_,rfl,?_];show if([D.str t.a,D.str t.b].any λu=>Dt u^.str x)=p_ then _ else _
           rw[a1];cases e2:(t.a==x||t.b==x)with
           |false=>rw[Z,e2]at U; exact Az^Az (U rfl)
           |true=>
            refine Ay #[E z C,l2,_,rfl,?_];show if([D.str t.a,D.str t.b].any λu=>Dt u^.str z)=p_ then _ else _
            rw[a1];cases e3:(t.a==z||t.b==z)with
            |false=>rw[Z,e2,e3]at U; exact Az (U rfl)
            |true=>rw[Z,e2,e3]at k1; exact Ay #[_,AD (j:=2) rfl,k1 rfl]
         .rw[fw]
          have S:=JX (ts:=us) (x:=x) (y:=z) λt H=>a4 t^(I t).mp H;rw[look_same ok I]at S
          have G:∀d∈((us.map AR).filter^Ea x z).map Tg,qY 1000000 d:=λd k=>by
           let#[e,he,rfl]:=Rs.mp k;let#[t,H,rfl]:=Rs.mp (g0.mp he).1;let#[_,_,_,m3,m4]:=ok.tin t^(I t).mp H;show t.len.natAbs<=1000000;lk
          have a2:∀d∈((us.map AR).filter^Ea x z).map Tg,Ct d<=0:=λd k=>by
           let#[e,he,rfl]:=Rs.mp k;let#[t,H,rfl]:=Rs.mp (g0.mp he).1;exact On _
          generalize((us.map AR).filter^Ea x z).map Tg=L at S G a2;have a7:CW L<=0:=qJ.mpr a2;exists z0,Bb (B:=1000000) (by cbv) (qz.mpr G) (by show CW L+1<=100; lk),#[rfl,rfl,by cbv];unfold EH at F;cases L with
          | nil=>
           have hc:look N.ts x z=o_:=by
            cases c:look N.ts x z with
            |none=>rfl
            |some l=>rw[c]at S; cases S
           rw[hc]at F;exact Ay F
          | cons a L=>
           cases c:look N.ts x z with
           |none=>rw[c]at S; cases S
           |some l=>
            rw[c]at S F;cases S;exact Az #[_,AD (j:=0) rfl,q _ _ #[z,g,s+l,_,_,_,_,a5,rfl,F,rfl]]
     .rw [gj.mpr λh=>J^O.mp h]
      have:(if y∈N.ps then J7^EH N.ts y r 0 else .non)=D.non:=by
       by_cases hy:y∈N.ps
       .rw[if_pos hy,NJ ok]
        .rfl
        .refine jc λhc=>J λz C=>?_
         rcases TW.mp C with rfl|C
         .exact hy
         .exact jc λhn=>hc #[z,C,hn]
       .rw[if_neg hy]
      rw[this]at p2;exact Ay p2
 |_=>exact p)
theorem Hv:A.Y "_law_is_fair" 2 ["_law_places_here","_law_ties","_law_thing"] .sh Uk:=A.gk A.h1b ["_law_places_here","_law_ties","_law_thing","_law_price"] (λT X B=>(AC (Aa (DTW.dt^BR (As^Ah (Bk kit_tuple (dv 2) rfl T.Gaa rfl T.Gab (by decide +kernel)))^BX^Bl Dw Gj (Fw T.Gac^dv 2)^Fw T.Gac^dv 0) (AE^AJ BU) AO)
 (AC (Aa (Bl (Bp B) B_ BU^Hd ["_law_one"] [o_] (A8^dv 2) (λr=>CU 0 r) A0^cg B (FV A)^BA 0^BZ AB^BZ (AV DZ CQ AB AB) AF) (AE^AJ BU) AO)
 (AC (CB 3 X (DR (O3 rfl) WP rfl T.Gar boot_dict (AN (Hd ["_law_places_here","_law_thing","_law_k"] [P3 0,P3 2,o_] (DI.c (CT rfl T.Gad (AN (Fw T.Gac^dv 2) AW))) (λr=>CU 2 r) A0^AT^AA (Aj (dv 0)^dv 2)^AA (Aj (dv 1)^dv 2) AG) AW)))
 (AE^AJ^BD (E8 B) B_ BU (Hd ["_law_price","_law_one","_law_other","_law_length_here"] [P3 3,o_,o_,o_] (A8^dv 1) (λr=>Ry^Af (CU 1 r)^Af (CU 2 r)^Af (CU 3 r) CM) A0^BD G1 LH (Ai Js Ub rfl T.Gal boot_abs (AN (AV DM EX (By B (dv 0)^dv 1)^By B (dv 0)^dv 2) AW)) (dv 3)^Bj _)^by with_unfolding_all rfl))))) (@λss n Z h=>by
 let#[N,O,d,rfl,C,#[u,a0],F,q]:=h;have ok:=C.1;have a1:=C.2.1
 by_cases z:∃g,d=.tup g
 case neg=>
  cases d with
  |tup g=>exact absurd #[g,rfl] z
  |_=>exact q
 let#[g,rfl]:=z;have G:∀d∈g,qY (10 ^ 40) d:=λd y=>(DN F y).1;have q:Z (.bl ((((g.length:Int)==(N.ps.length:Int))&&g.all Nz)&&N.ts.all λt=>decide (Dn (ER N g t.a - ER N g t.b)<=t.len))) n:=q;exists _,_,rfl,rfl,_,_,rfl,rfl;rw[No];show if(!((g.length:Int)==(N.ps.length:Int)))=p_ then _ else _
 cases H:((g.length:Int)==(N.ps.length:Int))with
 |false=>rw[H]at q; exact Ay q
 |true=>
 rw[H,iM]at q;have I:g.length=N.ps.length:=by have:=beq_iff_eq.mp H; lk
 refine Az #[by show g.length<=10000000; omega,?_];refine Ag (λd=>.bl^Nz d) (λo=>∃s,o=[s]) _ _ _ _ ?_ #[_,rfl] ?_
 .rintro d y o m J ⟨s,rfl⟩ j
  exists#[by cbv,by cbv,by cbv],d,0,_,rfl
  have e:IR 0 ((10:Int) ^ (45:Int).toNat) d=Nz d:=by
   cases d with
   |int i=>
    have hi:i.natAbs<=10 ^ 40:=G _ y
    have:(10:Int) ^ (45:Int).toNat=10 ^ 45:=rfl
    show(decide (0<=i)&&decide (i<=(10:Int) ^ (45:Int).toNat))=decide (0<=i);simp only[this,decide_eq_true (by omega:i<=10 ^ 45),nR]
   |_=>rfl
  rw[e];exact j _ #[_,rfl]
 .rw [fw]
  refine C8 (p:=Nz) (neg:=q_) ?_;rw[if_neg f6];cases L:g.all Nz with
  |false=>rw[L,jh]at q; exact Ay q
  |true=>
  rw[L,iM]at q;have Q:=gI.mp L;refine Az #[_,_,rfl,rfl,_,rfl,#[by lk,by omega],by rw[B0]; lk,?_];refine Ag (λd=>match d with|.int i=>.tup [(atI (N.ps.map D.str) i).getD .non,(atI g i).getD .non]|_=>.non) (λo=>∃s,o=[.sh^.tup^N.ps.map .str,.sh^.tup g,s]) _ _ _ _ ?_ #[_,rfl] ?_
  .rintro d y o m J ⟨s,rfl⟩ j
   let#[k,E,rfl]:=GA y;have E:k<g.length:=by lk
   have R:atI (N.ps.map D.str) (0+(k:Int))=P3^.str^N.ps.getD k "":=by
    rw[show(0+(k:Int))=((k:Nat):Int) by lk];exact AD^by rw[fo,Nt.getD_at^by lk]; rfl
   have S:atI g (0+(k:Int))=P3 g[k]:=by
    rw[show(0+(k:Int))=((k:Nat):Int) by lk];exact AD^FM E
   have j:J (.tup [(atI (N.ps.map D.str) (0+(k:Int))).getD .non,(atI g (0+(k:Int))).getD .non]) m [.sh^.tup^N.ps.map .str,.sh^.tup g,.sh^.int (0+(k:Int))]:=j _ #[.sh^.int (0+(k:Int)),rfl];rw[R,S]at j;exact#[_,R,_,S,z2,j]
  .have ez:(Ci 0 ((g.length:Int)).toNat).map (λd=>match d with|.int i=>D.tup [(atI (N.ps.map D.str) i).getD .non,(atI g i).getD .non]|_=>.non)=jm (λp x=>D.tup [.str p,x]) N.ps g:=by
    refine List.ext_getElem? λk=>?_;unfold Ci;rw[g9,fo,kA]
    by_cases E:k<g.length
    .rw[List.getElem?_range^by lk,FM E,Nt.getD_at (show k<N.ps.length by lk)]
     show P3^D.tup [(atI (N.ps.map D.str) (0+(k:Int))).getD .non,(atI g (0+(k:Int))).getD .non]=P3^D.tup [.str^N.ps.getD k "",g[k]];rw[show(0+(k:Int))=((k:Nat):Int) by lk,AD (v:=D.str^N.ps.getD k "") (by rw[fo,Nt.getD_at^by lk]; rfl),AD^FM E];rfl
    .rw[jP (by rw[iq]; lk),jP (by lk:N.ps.length<=k)]
     rfl
   rw[fw,ez];exists _,_,_,rfl,Pb I.symm,ir.mpr^(IH ok.rise).imp λh e=>h^im e;refine#[by show(O.map AR).length<=10000000; rw[No]; omega,?_];refine Ag (λd=>.bl (match d with|.tup [.str a,.str b,.int l]=>decide (Dn (ER N g a - ER N g b)<=l)|_=>q_)) (λo=>∃U V W,o=[.sh^.dic (N.ps.map .inr) g,U,V,W]) _ _ _ _ ?_ #[_,_,_,rfl] ?_
   .rintro d y o m J ⟨U,V,W,rfl⟩ j
    let#[v,M,rfl]:=Rs.mp y;have M:=(u v).mp M;let#[m1,m2,_]:=ok.tin v M;have v1:=SK I Q m1;have v2:=SK I Q m2;exists rfl,rfl,_,_,_,_,rfl,rfl,v1,_,_,_,_,rfl,rfl,v2;exact j _ #[_,_,_,rfl]
   .rw[fw]
    refine C8 (p:=fun(d:D)=>match d with|.tup [.str a,.str b,.int l]=>decide (Dn (ER N g a - ER N g b)<=l)|_=>q_) (neg:=p_) ?_;rw[if_pos rfl,j9]
    have e:(O.all ((fun(d:D)=>match d with|.tup [.str a,.str b,.int l]=>decide (Dn (ER N g a - ER N g b)<=l)|_=>q_)∘AR))=N.ts.all λt=>decide (Dn (ER N g t.a - ER N g t.b)<=t.len):=by
     rw[hX,gI,gI];exact#[λh t z=>h t^(u t).mpr z,λh t z=>h t^(u t).mp z]
    rw[e];exact q)
theorem Hq:A.Y "_law_row_due" 3 ["_law_net_here","_law_times_here","_law_kept","_law_tie","_law_row"] .sh QJ:=A.gk A.h1c ["_law_net_here","_law_times_here","_law_kept","_law_tie","_law_row","_law_places_here","_law_length_here","_law_first","_law_second","_law_apart"] (λT e q=>(AC (CB 5 e^Aj (dv 0) AB)
 (AC (Aa (Bl Bt DD (Aj (dv 4) AB) AY) (AC (CB 6 e^cg q (Es A)^BZ (AT^AA (dv 5)^AA (dv 2) AG)^BZ (Aj (dv 4) AB) AF)
 (AC (Aa (DTW.dt^BR (Bl Fi Jx (dv 6) A2)^BR (Bl Dw Gj (Aj (Aj (dv 4) AB) AB)^Aj (dv 3) AB)^BX^Bl Dw Gj (Aj (Aj (dv 4) AB)^Cu AB)^Aj (dv 3) AB) (AE^AJ AY) AO)
 (AE^AJ^EM (Bl JI Nu (AV Ce Do (dv 6)^Aj (dv 1) AB)^AV Ce Do (Aj (dv 3) AB)^Aj (dv 1) AB) AY A2))) AO)
 (AC (Aa (As^Ah^cg q (Hv A)^BA 5^BA 2^BZ (Aj (dv 4) AB) AF) (AE^AJ AY) AO)
 (AC (Y6 (i:=7) (j:=8) rfl e rfl rfl (by cbv) rfl rfl (AA (MC q (dv 5)^AN (Aj (dv 3) AB) AW)^AA (MC q (dv 5)^AN (Aj (dv 3) AB) AW) AG) rfl)
 (AC (CB 9 e (Ai Js Ub rfl T.Gal boot_abs (AN (AV DM EX (Aj (Aj (dv 4) AB)^dv 7)^Aj (Aj (dv 4) AB)^dv 8) AW)))
 (AE^AJ^EM (Bl JI Nu (AV Ce Do (dv 9)^Aj (dv 1) AB)^AV Ce Do (Aj (dv 3) AB)^Aj (dv 1) AB) A2 AY))))))) (@λss n E h=>by
 let#[N,M,t,b,d,u,s,y,rfl,C,g,k,#[F,G,H,I],J,Z,L,p]:=h;have ok:=C.1;let#[O,Q,_]:=ok.tin u Z;unfold OF at p;exists _,AD (j:=0) rfl,_,AD (j:=0) rfl;show if(s=="out")=p_ then _ else _
 cases c:s=="out" with
 | true=>
  rw[c,if_pos rfl]at p;refine Ay #[z2,_,AD (j:=1) rfl,M,d,_,y,by rw[k],rfl,J,g.1,by have:=g.2.1; lk,L,?_];unfold QN Yj at p
  rcases Kq M y with D|⟨x,r,l,rfl,D⟩
  .rw[D]at p ⊢
   exact#[rfl,p]
  .rw[D]at p ⊢
   have hs:U8^R_ (x::r)=x::r:=Bo _;simp only[hs]at p;obtain⟨y,R⟩:∃y,(x::r).getLast?=P3 y:=#[_,lY^by simp];simp only[R,show((x::r).head?==P3 u.a)=(x==u.a)from kJ,show(P3 y==P3 u.b)=(y==u.b)from kJ]at p;exists rfl,_,AD (j:=1) rfl,.str x,AD (j:=0) rfl,_,AD (j:=0) rfl;show if(!(x==u.a))=p_ then _ else _
   cases v:x==u.a with
   |false=>rw[v]at p; exact Ay p
   | true=>
    rw[v]at p;refine Az #[_,AD (j:=1) rfl,1,rfl,.str y,Lr R,_,AD (j:=1) rfl,?_];show if(!(y==u.b))=p_ then _ else _
    cases z:y==u.b with
    |false=>rw[z]at p; exact Ay p
    |true=>
     rw[z]at p;refine Az #[_,AD (j:=1) rfl,WK F G,_,AD (j:=2) rfl,_,AD (j:=0) rfl,WK H I,?_];show if decide (u.len*t<l*b)=p_ then _ else _
     have p:E (if l*b<=u.len*t then .non else .str "far") n:=p
     by_cases o:l*b<=u.len*t
     .rw[if_pos o]at p; rw[decide_eq_false^by lk]; exact Az p
     .rw[if_neg o]at p; rw[decide_eq_true^by lk]; exact Ay p
 | false=>
  rw[c,if_neg f6]at p;refine Az #[_,AD (j:=1) rfl,M,d,y,by rw[k],g,J,L,?_];unfold Pg at p;show if(!(FZ M y))=p_ then _ else _
  cases B:FZ M y with
  |false=>rw[B,if_neg f6]at p; exact Ay p
  | true=>
   rw[B,if_pos rfl]at p;cases y with
   |tup m=>
    let#[S,U]:=L0 B;let#[ix,ex,_]:=Ps O;let#[iy,V,_]:=Ps Q;let#[a1,a2,a3,a4]:=Ky ok ex;let#[v,z,c3,c4]:=Ky ok V;have e:=IH ok.rise;have W:=SK (N:=M) S U (by rw[k]; exact O);have X:=SK (N:=M) S U (by rw[k]; exact Q);rw[k,LP e ex]at W;rw[k,LP e V]at X;refine Az #[#[_,rfl],_,AD (j:=0) rfl,_,_,ix,rfl,rfl,a1,a2,a3,a4,#[_,rfl],_,AD (j:=1) rfl,_,_,iy,rfl,rfl,v,z,c3,c4,_,_,rfl,?_];exists _,AD (j:=1) rfl,_,AD W,_,AD (j:=1) rfl,_,AD X;exists _,AD (j:=1) rfl,WK F G,_,AD (j:=2) rfl,_,AD (j:=0) rfl,WK H I;show if decide (u.len*t<Dn (ER M m u.a - ER M m u.b)*b)=p_ then _ else _
    have p:E (if Dn (ER M m u.a - ER M m u.b)*b<=u.len*t then .str "near" else .non) n:=p
    by_cases o:Dn (ER M m u.a - ER M m u.b)*b<=u.len*t
    .rw[if_pos o]at p; rw[decide_eq_false^by lk]; exact Az p
    .rw[if_neg o]at p; rw[decide_eq_true^by lk]; exact Ay p
   |_=>cases B)
theorem Fl:A.Y "_law_greedy_due" 5 ["_law_net_here","_law_times_here","_law_thin","_law_paper"] .sh WU:=A.gk A.h1d ["_law_net_here","_law_times_here","_law_thin","_law_paper","_law_row","_law_kept","_law_number","_law_tie","_law_word"] (λT nd U=>(AC (Aa (DTW.dt^BR (As^Ah^cg U (Hu A)^BA 0^BA 2 AF)^BX^As^Ah (Bk kit_tuple (dv 3) rfl T.Gaa rfl T.Gab (by decide +kernel))) (AE^AJ^AT^AA AY^AA AB AG) AO)
 (AC (Aa (Bl Dw Gj (Fw T.Gac^dv 3)^Fw T.Gac^Aj (dv 0) AB) (AE^AJ^AT^AA AY^AA AB AG) AO)
 (AC (CP gL rfl (Fx^dv 3) (CU 4 nd) (AC (Aa (DTW.dt^BR (As^Ah (Bk kit_tuple (dv 4) rfl T.Gaa rfl T.Gab (by decide +kernel)))^BX^Bl Dw Gj (Fw T.Gac^dv 4) AB) (AE^AJ^AT^AA AY^AA AB AG) AO)
 (AE^Aa (Bl (E8 U) B_ (Ai (CD U) EY rfl T.Gae kC (AN (Aj (dv 4) AB) AW))^AT^AA AY^AA AY AG) (AE^AJ^AT^AA AY^AA AB AG) AO)))
 (AC (N0 5 nd^BM AG)
 (AC (CP gL rfl (P6 rfl T.Gai (cg U (Co A)^BZ (Aj (dv 0) AB) AF)) (Ry^Af (CU 6 nd)^Af (CU 7 nd) CM) (AC (Aa (Bl Dw Gj (BD Bt DD (Aj (Aj (dv 3)^dv 6) AB) AY^Bj _)^BD (Bp U) B_ (dv 7) (Aj (dv 2) AB)^by with_unfolding_all rfl) (AE^AJ^AT^AA AY^AA (dv 6) AG) AO)
 (AC (CB 8 nd^WC 5^cg U (Hq A)^BA 0^BA 1^BA 5^BA 7^BZ (Aj (dv 3)^dv 6) AF)
 (AC (Aa (Bl IM MN (dv 8) A2) (AE^AJ^AT^AA (dv 8)^AA (dv 6) AG) AO)
 (AE^Aa (Bl (Bp U) B_ (dv 7)^Aj (dv 2) AB) (AE^EL 5 Qi Rw Ru BP Ec (pv 5)^AA (dv 7) AG) AO)))))
 (AE^AJ A2))))))) (@λss n J h=>by
 let#[N,t,b,d,p,rfl,E,a4,tm,#[f1,f2,f3],fp,q0,q]:=h;have ok:=E.1;have a5:=E.2.2;have a7:=PySem.sizeLine_eq;exists N,d,rfl,ok,a4,a5,f1,f2,f3;show if(!qh N d)=p_ then _ else _
 cases c:qh N d with
 |false=>exact Ay #[z2,q0^.inl c]
 |true=>
 let#[a,rfl,W]:=qK.mp c;have W:thn N a:=W;have a6:=W.okN E;let#[L,o1,o2]:=Lc N.ts;have a8:=o1.length_eq;have q:=q a L rfl W o1 o2
 by_cases hp:∃i,p=.tup i
 case neg=>
  have q:=q0^.inr λi e=>hp #[i,e];cases p with
  |tup i=>exact absurd #[i,rfl] hp
  |_=>exact Az #[z2,q]
 let#[i,rfl]:=hp;have q:J (if i.length=L.length then(if i.all CI=p_ then EK #[N.ps,a] t b 0 L i else IQ "shape" 0)else IQ "shape" 0) n:=q;refine Az #[_,_,rfl,rfl,_,AD (j:=1) rfl,_,_,rfl,rfl,?_];show if(!((i.length:Int)==((N.ts.map AR).length:Int)))=p_ then _ else _
 rw[No]
 by_cases hl:i.length=L.length
 case neg=>
  rw[if_neg hl]at q;rw[show((i.length:Int)==(N.ts.length:Int))=q_ by rw[beq_eq_false_iff_ne]; lk];exact Ay #[z2,q]
 rw[if_pos hl]at q;rw[show((i.length:Int)==(N.ts.length:Int))=p_ by rw[beq_iff_eq]; lk];refine Az ?_;have l2:Bz^.tup [.str "'in'",.str "'out'"]:=Bb (B:=10) (by cbv) #[by show ∀c∈cs "'in'",c<1114112; decide +kernel,by show ∀c∈cs "'out'",c<1114112; decide +kernel,trivial]^by show max 0^max 0 0+1<=100; decide
 have V:∀(l:r_ D) (Q:Slot) (nx:Nat->r_ Slot->Prop),(∀r∈l,r∈i)->(l.all CI=q_->J (IQ "shape" 0) n)->(l.all CI=p_->∀Q,nx n [.sh^enc N,.sh^Kb t b,.sh^enc #[N.ps,a],.sh^.tup i,Q,.no,.no,.no,.no])->
   BH (Aq 4) Yw {EE J with nx:=nx} l n [.sh^enc N,.sh^Kb t b,.sh^enc #[N.ps,a],.sh^.tup i,Q,.no,.no,.no,.no]:=by
  intro l
  induction l with
  |nil=>intro Q nx _ _ h; exact h rfl Q
  | cons r l ih=>
   intro Q nx a0 h1 X;have fr:=DN fp^a0 r Op;simp only[ij]at h1 X
   have next:CI r=p_->BH (Aq 4) Yw {EE J with nx:=nx} l n [.sh^enc N,.sh^Kb t b,.sh^enc #[N.ps,a],.sh^.tup i,.sh r,.no,.no,.no,.no]:=λg=>by
    rw[g,iM]at h1 X;exact ih _ nx (λx hx=>a0 x^TM _ hx) h1 X
   have F:CI r=q_->J (IQ "shape" 0) n:=λg=>h1 (by rw[g]; rfl);unfold Yw;cases r with
   | tup xs=>
    exists _,_,rfl,rfl;show if(!((xs.length:Int)==2))=p_ then _ else _
    by_cases X:xs.length=2
    case neg=>
     rw[show((xs.length:Int)==2)=q_ by rw[beq_eq_false_iff_ne]; lk];exact Ay #[z2,F^gj.mpr λh=>X^T4 h]
    rw[show((xs.length:Int)==2)=p_ by rw[beq_iff_eq]; lk]
    match xs,X,fr,next,F with
    | [x,y],_,fr,next,F=>
     have fx:=DN fr (d:=x) Op;have M:=(IU (by cbv) fx.1).1;refine Az #[_,AD (j:=0) rfl,_,rfl,RM fx M,z2,Q8 M fx.1,l2,_,rfl,?_]
     have e:([D.str "'in'",D.str "'out'"].any λy=>Dt y^.str^Ae x)=((("'in'":Str)==Ae x)||(("'out'":Str)==Ae x)):=by
      simp only[mF,mF,List.any_nil,nP,FE,FE]
     show if(!([D.str "'in'",D.str "'out'"].any λy=>Dt y^.str^Ae x))=p_ then _ else _
     rw[e];cases hb:((("'in'":Str)==Ae x)||(("'out'":Str)==Ae x))with
     |true=>exact Az (next (gent_two.mpr^(XG M).mp hb))
     |false=>exact Ay #[z2,F^gj.mpr λh=>by rw[(XG M).mpr^gent_two.mp h]at hb; cases hb]
   |_=>exact#[z2,F rfl]
 refine V i _ _ (λ_ z=>z) (λg=>by rw[g,if_neg f6]at q; exact q) λg Q=>?_;rw[g,if_pos rfl]at q;refine#[z0,_,AD (j:=1) rfl,_,N.ts,rfl,rfl,by lk,λR p1 p2=>#[_,rfl,?_]];obtain rfl:=Eo (p1.trans o1.symm) p2 o2;have a1:Bz^.tup^a.map AR:=(De ok W.1).1
 have go:∀(S C:r_ An) (G I:r_ D) (s6 s7 s8:Slot),C++S=R->G++I=i->G.length=C.length->I.length=S.length->J (EK #[N.ps,a] t b G.length S I) n->
   BH (HE 2^BK (Aq 6)^BK (Aq 7) Eb) bS {EE J with nx:=CG (wC D.non)^EE J} (Ew G.length^S.map AR) n [.sh^enc N,.sh^Kb t b,.sh^enc #[N.ps,a],.sh^.tup i,Q,.ow^.lst^(C.filter λv=>decide (v∈a)).map AR,s6,s7,s8]:=by
  intro S
  induction S with
  |nil=>intro C G I s6 s7 s8 _ _ _ H m; cases I with
   |nil=>exact m
   |cons _ _=>cases H
  | cons u S ih=>
   intro C G I s6 s7 s8 e1 e2 e3 H m
   match I,H,m with
   | a2::I,H,m=>
    have O:i[G.length]?=P3 a2:=by rw[←e2,iD^On _,Nat.sub_self]; rfl
    have hu:u∈N.ts:=o1.subset (by rw[←e1]; exact f8 _ Op);have hg:=gI.mp g a2^gZ O;have fr:=DN fp^gZ O;let#[s,y,rfl,hs]:=IT hg;have fy:=DN fr (d:=y) (by simp);have a3:Mo (Br #[N.ps,a] u) (C.filter λv=>decide (v∈a)):=RC E W (by rw[e1]; exact o1) (by rw[e1]; exact o2);have next:=λs6 s7 s8=>ih (C++[u]) (G++[.tup [.str s,y]]) I s6 s7 s8 (by rw[iB]; exact e1) (by rw[iB]; exact e2) (by simp only[fh,fh,e3]; rfl)^Nat.succ.inj H;rw[fh,gC]at next;unfold EK Vo at m;unfold bS;exists rfl,rfl,_,AD O,_,AD (j:=0) rfl,_,AD (j:=1) rfl,Dz ok hu,a1,_,rfl;rw[Gh];show if(!((s=="in")==decide (u∈a)))=p_ then _ else _
    have m:J (match (if decide (u∈a)=(s=="in")then(if u∈a then Pg (Br #[N.ps,a] u) t b u y else QN (Br #[N.ps,a] u) t b u y)else .str "word")with|.str w=>IQ w G.length|_=>EK #[N.ps,a] t b (G.length+1) S I) n:=m
    by_cases Z:decide (u∈a)=(s=="in")
    case neg=>
     rw[if_neg Z]at m;rw[show((s=="in")==decide (u∈a))=q_ from beq_eq_false_iff_ne.mpr λz=>Z z.symm];exact Ay #[z2,m]
    rw[if_pos Z]at m;rw[show((s=="in")==decide (u∈a))=p_ from beq_iff_eq.mpr Z.symm]
    have er:(if u∈a then Pg (Br #[N.ps,a] u) t b u y else QN (Br #[N.ps,a] u) t b u y)=OF (Br #[N.ps,a] u) t b u s y:=by
     unfold OF
     rcases hs with rfl|rfl
     .rw[if_pos (of_decide_eq_true^Z.trans^by decide +kernel),if_neg^by decide +kernel]
     .rw[if_neg (of_decide_eq_false^Z.trans^by decide +kernel),if_pos^by decide +kernel]
    rw[er]at m;refine Az #[_,rfl,_,AD O,N,Br #[N.ps,a] u,t,b,_,u,s,y,rfl,E,WO a6 u,rfl,tm,a3,hu,fy,?_]
    rcases YF (Br #[N.ps,a] u) t b u s y with e|⟨w,e⟩
    .rw[e]at m ⊢
     exists rfl,rfl,_,AD (j:=1) rfl,Dz ok hu,a1,_,rfl;rw[Gh];rw[List.filter_append,gW]at next;show if decide (u∈a)=p_ then _ else _
     cases cd:decide (u∈a)with
     |true=>
      rw[show([u].filter λv=>decide (v∈a))=[u]from by rw[List.filter_cons,cd]; rfl]at next;have kl:=a3.2;exact Ay #[_,rfl,rfl,_,_,rfl,rfl,by rw[No]; omega,next _ _ _ m]
     |false=>
      rw[show([u].filter λv=>decide (v∈a))=[]from by rw[List.filter_cons,cd]; rfl]at next
      have:=next (.sh^.int (G.length:Int)) (.sh^AR u) (.sh .non) m
      rw[lO,gM]at this;exact Az this
    .rw[e]at m ⊢
     exact#[rfl,rfl,z2,m]
 exact go R [] [] i _ _ _ rfl rfl rfl hl q)
omit A in
theorem oI:BJ ["_law_e","_law_strange"] ["_law_e"]^AK Em:=by walk_at "s"
theorem Hr:Jz P w K mg base:=A.gotH A.h1e λT F=>by
 let#[C_NoLine,U_NoLine,l,m]:=T.x_NoLine;let#[C_NoPaper,U_NoPaper,b,c]:=T.x_NoPaper;let#[C_NoPlace,U_NoPlace,d,e]:=T.x_NoPlace;let#[C_NoRow,U_NoRow,o,q]:=T.x_NoRow;let#[C_NoTie,U_NoTie,r,t]:=T.x_NoTie;let#[C_TooMany,U_TooMany,g,j]:=T.x_TooMany;let#[C_Twice,U_Twice,u,v]:=T.x_Twice;exact d8 F oI (by cbv) (λy A x s H E z B=>(AC (CB 1 oI.nd (WD (i:=0) (FI (by cbv) l rfl m (FI (by cbv) d rfl e (FI (by cbv) o rfl q (FI (by cbv) r rfl t (FI (by cbv) g rfl j (FI (by cbv) u rfl v ZL)))))) (by cbv) rfl T.Gaa))
 (AC (Aa (DTW.dt^BR (Ah^dv 1)^BR (As^Ah (ZC (i:=0) (by cbv) b rfl c rfl T.Gaa))^BX^As^Ah (WE (i:=0) rfl T.Gak rfl T.Gaa)) (AE^AJ^AT^AA AY^AA AB AG) AO)
 (AE^AJ^AT^AA (XZ (i:=0)^by cbv)^AA (XZ (i:=0)^by cbv) AG)))) (λC n D _ h=>by
 let#[a,w,k,rfl,p]:=h;exact#[_,bJ _ _,_,bH _ _,z2,p])
theorem KC:A.Y "_law_asked" 7 ["_law_net_here","_law_times_here","_law_thin","_law_paper"] .sh F1:=A.got A.h1f λT F m b=>have GR_lets_greedy:=JK A; by
 let#[C_ThinError,c,e,g]:=T.x_ThinError;exact bW F ["_law_net_here","_law_times_here","_law_thin","_law_paper","_law_found","_law_stays","_law_due","_law_e"] (λv j=>(AC (CB 4 v A2)
 (AC (CB 5 v (Ai (CD j) EY rfl T.Gae kC (AN (AT^AA (dv 0)^AA (dv 2)^AA (dv 3) AG) AW)))
 (AC (Y4 rfl rfl (λ_ _ h=>h) (UC (Vy (i:=4) v rfl (gi rfl) (UH GR_lets_greedy (j.mono^by cbv) rfl (BA 0^BA 1^BA 2^BA 3 AF))))
 (WA (i:=7) v rfl rfl rfl e g (gi #[rfl,c]) rfl rfl (λa=>(AE^CB 4 v (UM (a:=a) 7 rfl (Hr A) ((j.held^P3^.ref a).mono^by cbv) rfl (AS (bv 7) AF))))
 Y9))
 (AC (CB 6 v^cg j (Fl A)^BA 0^BA 1^BA 2^BA 3 AF)
 (AE^AJ^Cv (BD Bt DD (Ai (CD j) EY rfl T.Gae kC (AN (dv 4) AW)) (Ai (CD j) EY rfl T.Gae kC (AN (EM (Bl Fi Jx (dv 6) A2) BU^dv 6) AW))^Bj _)^D9^BD Bt DD (Ai (CD j) EY rfl T.Gae kC (AN (AT^AA (dv 0)^AA (dv 2)^AA (dv 3) AG) AW)) (dv 5)^Bj _)))))) (@λL n z h=>by
 let#[N,t,b,d,p,rfl,l,o,C,x,y,M,q]:=h;have G:=Gw l
 have E:FS^.tup [enc N,d,p]:=by
  refine Mn (B:=10 ^ 41) (by cbv) #[G.1.mono^by cbv,x.1,y.1.mono^by cbv,trivial] ?_ ?_
  .have:=G.2.2
   have:=x.2.2
   have:=y.2.2
   show max (Ct^enc N)^max (Ct d)^max (Ct p) 0+1<=100;lk
  .show BY^enc N+1+(BY d+1+(BY p+1+0))<=270000
   lk
 exists(by cbv:3<=sizeLine),_,rfl,E;generalize H:Ae^.tup [enc N,d,p]=S
 have s:∀w k,FS^IQ w k->b7 (EE z) n [.sh^enc N,.sh^Kb t b,.sh d,.sh p,.sh^IQ w k,.sh^.str S,.sh^IQ w k,.no]:=by
  intro w k j;exists _,rfl,j,rfl,_,rfl,j;generalize Ae^IQ w k=Z;show(match (.bl (Z==Z):D)with|.bl p_=>_|.bl q_=>_|_=>False);rw[beq_self_eq_true];exists(by cbv:3<=sizeLine),_,rfl,E;show z (.bl (Ae^.tup [enc N,d,p]==S)) n;rw[H,beq_self_eq_true];exact q
 have u:b7 (EE z) n [.sh^enc N,.sh^Kb t b,.sh d,.sh p,.sh^.bl p_,.sh^.str S,.sh .non,.no]:=by
  have j:FS^.bl p_:=F_ (B:=1) (by cbv) trivial (T0 _) (T0 _);exists _,rfl,j,rfl,_,rfl,j;generalize Ae^.bl p_=Z;show(match (.bl (Z==Z):D)with|.bl p_=>_|.bl q_=>_|_=>False);rw[beq_self_eq_true];exists(by cbv:3<=sizeLine),_,rfl,E;show z (.bl (Ae^.tup [enc N,d,p]==S)) n;rw[H,beq_self_eq_true];exact q
 let#[r,j]:=Vm N t b d p
 rcases Vl l j with rfl|⟨w,k,rfl,I,J⟩
 .exact#[N,t,b,d,p,rfl,Ib l o C x y j #[N,t,b,d,p,rfl,Ib l o C x y j u]]
 .exact#[N,t,b,d,p,rfl,Ib l o C x y j λa=>#[#[_,_,_,rfl],a,w,k,rfl,N,t,b,d,p,rfl,Ib l o C x y j^s w k^U_ I J]])
theorem G3:A.Y "_law_row_bent" 2 ["_law_feed_here","_law_row"] .sh cF:=A.gk A.h1g ["_law_feed_here","_law_row","_law_word","_law_part","_law_at","_law_more","_law_by"] (λT u R=>(AC (UE (dv 1)^Ry^Af (CU 2 u)^Af (CU 3 u) CM)
 (AC (CB 4 u^cg R (Ax A)^AS (BC 0)^BZ (Fw T.Gac^dv 3) AF)
 (AC (N0 5 u^BM^AA (AT^AA (EM (Bl Bt DD (dv 2) AY) AY AY)^AA (dv 3) AG)^AA (AT^AA (dv 2)^AA (Ow (dv 3)^Cu AB) AG)^AA (AT^AA (dv 2)^AA (Bu DA Bv (dv 3) BE^Ao^dv 4) AG)^AA (AT^AA (dv 2)^AA (Bu DA Bv (dv 3) (Ao^dv 4) BE) AG) AG)
 (AC (N0 5 u^AV IP FJ (Ey 5)^BM^AA (AT^AA (dv 2)^AA (DR DP MO rfl T.Gag boot_list (AN (dv 3) AW)) AG)^AA (AT^AA (dv 2)^AA (AV AX Ac (dv 3)^Bu DA Bv (dv 3) BE^Ao AB) AG)^AA (BM^AA (dv 2)^AA (dv 3) AG)^AA (AT^AA (dv 2)^AA (dv 3)^AA AB AG)^AA (AT^AA (dv 2) AG) AG)
 (AC (Aa (Bl Bt DD (dv 2) AY) (AE (CP gL rfl (Fx^BM^AA AB^AA (Cu AB)^AA (AV DZ CQ AB AB) AG) (CU 6 u) (AE^EL 5 Qi Rw Ru BP Ec (pv 5)^AA (AT^AA (dv 2)^AA (AV AX Ac (AV AX Ac (Bu DA Bv (dv 3) BE^Ao^dv 4)^AT^AA (AV AX Ac (Aj (dv 3)^dv 4)^dv 6) AG)^Bu DA Bv (dv 3) (Ao^AV AX Ac (dv 4) AB) BE) AG) AG))) AO)
 (AE^AJ^Aj (Ey 5)^cg R (Ax A)^AS (BC 0)^BZ (Fw T.Gac^Ey 5) AF))))))) (@λss n G h=>by
 let#[d,rfl,#[s,b,rfl,H,l1,V,S,hz,z,B],hn,p]:=h;have W:=PySem.sizeLine_eq;refine#[rfl,rfl,_,_,rfl,rfl,(b.length:Int),rfl,by lk,by lk,by lk,λa a0 a1=>?_];obtain⟨a,rfl⟩:∃k:Nat,a=(k:Int):=#[a.toNat,by lk];have I:a<b.length:=by lk
 have J:Cj (10 ^ 30) b:=qz.mpr λx X=>(qz.mp S x X).mono (by cbv);have c:∀l:r_ D,(∀y∈l,y∈b)->Be l<=3300->Cj (10 ^ 30) l/\Be l<=3300/\CW l<=0:=λl g h=>#[qz.mpr λy h=>qz.mp J y^g y h,h,qJ.mpr λy h=>qJ.mp z y^g y h];have c1:=Bg b o_^P3 (a:Int);have c2:=Bg b (P3 (a:Int)) o_;have c3:=Bg b o_^P3 (1:Int);have c4:=Bg b (P3 ((a:Int)+1)) o_;have k1:=(Gc b o_^P3 (a:Int)).length_le;have k3:=(Gc b o_^P3 (1:Int)).length_le;have k4:=(Gc b (P3 ((a:Int)+1)) o_).length_le
 have C:∀(j:r_ D) (t:Slot),(∀e∈j,eB e)->1<=j.length->j.length<=100->Wp (EE G) (n - 1) [.fd,.sh^.tup [.str s,.tup b],.sh^.str s,.sh^.tup b,.sh^.int a,.ow^.lst j,t]:=λj t m L E=>by
  refine#[_,_,rfl,rfl,(j.length:Int),rfl,by lk,by lk,by lk,λr r0 r1=>?_];obtain⟨k,rfl⟩:∃k:Nat,r=(k:Int):=#[r.toNat,by lk];have o:k<j.length:=by lk
  exact#[j[k],AD^FM o,p _ _ (m _^gH o)^by lk]
 let#[p1,Z,p3,p4,p5]:=HB H (c b (λ_ h=>h)^by lk).1 (c b (λ_ h=>h)^by lk).2.1 z;have mk:=λl M N=>(HB H (c l M N).1 (c l M N).2.1 (c l M N).2.2).1;have q2:=mk b.reverse (λy h=>kL.mp h) (by rw[IE]; lk);have q3:=mk (Dp.cutD b o_^P3 (a:Int)) (λy h=>A_ h) (by lk);have q4:=mk (Dp.cutD b (P3 (a:Int)) o_) (λy h=>A_ h) (by lk);have q6:=mk (b++Dp.cutD b o_^P3 (1:Int)) (λy h=>(Uf.mp h).elim id A_)^by rw[BS]; lk
 have q:∀F:Str,(F="in"\/F="out")->∀e∈[D.tup [.str F,.tup b],.tup [.str s,.tup b.reverse],.tup [.str s,.tup^Dp.cutD b o_^P3 (a:Int)],.tup [.str s,.tup^Dp.cutD b (P3 (a:Int)) o_],.tup [.str s,.lst b],.tup [.str s,.tup (b++Dp.cutD b o_^P3 (1:Int))],.lst [.str s,.tup b],.tup [.str s,.tup b,.int 0],.tup [.str s]],eB e:=λF O e m=>by
  simp only[TW,ft,or_false]at m
  rcases m with rfl|rfl|rfl|rfl|rfl|rfl|rfl|rfl|rfl
  .exact(HB O (c b (λ_ h=>h)^by lk).1 (c b (λ_ h=>h)^by lk).2.1 z).1
  .exact q2
  .exact q3
  .exact q4
  .exact Z
  .exact q6
  .exact p3
  .exact p4
  .exact p5
 rcases H with rfl|rfl
 .exists z2,1,rfl,rfl,z2,z2,z2,(by cbv:4<=sizeLine),z2,by lk,z2,z2,z3,z1,(by cbv:5<=sizeLine),(by cbv:4+5<=sizeLine)
  let#[i,U]:=B rfl b[a] (gH I);have Q:b[a]?=P3^.int i:=by simp only[FM I,U]
  have fi:i.natAbs<=10 ^ 29:=by have:=qz.mp S _^gH I; simp only[U]at this; exact this
  have go:∀(v:r_ Int) (j:r_ D) (t:Slot),(∀k∈v,k.natAbs<=1000000)->(∀e∈j,eB e)->1<=j.length->j.length+v.length<=100->
    BH (Aq 6) aS {EE G with nx:=Wp^EE G} (v.map .int) (n - 1) [.fd,.sh^.tup [.str "in",.tup b],.sh^.str "in",.sh^.tup b,.sh^.int a,.ow^.lst j,t]:=by
   intro v
   induction v with
   |nil=>intro j t _ m L E; exact C j t m L^by simpa using E
   | cons k v ih=>
    intro j t o m L E;simp only[eq]at E;have k0:=o k Op;refine#[_,rfl,rfl,_,AD Q,z1,by show(Dp.cutD _ _ _).length+1<=sizeLine; lk,by show(Dp.cutD _ _ _++[D.int _]).length+(Dp.cutD _ _ _).length<=sizeLine; simp only[fh,gC]; lk,z2,_,_,rfl,rfl,by lk,?_];refine ih (j++[_]) _ (λk h=>o k^TM _ h) (λe h=>?_) (by simp only[fh]; lk)^by simp only[fh,gC]; lk
    rcases Uf.mp h with h|h
    .exact m e h
    .rw [Re.mp h]
     refine(HB (.inl rfl) (qz.mpr λy g=>?_) ?_^qJ.mpr λy g=>?_).1
     .rcases Uf.mp g with g|g
      .rcases Uf.mp g with g|g
       .exact qz.mp J y^A_ g
       .rw[Re.mp g]
        show(i+k).natAbs<=10 ^ 30;omega
      .exact qz.mp J y^A_ g
     .rw[BS,BS]
      show Be _+(200+1+0)+Be _<=3300;lk
     .rcases Uf.mp g with g|g
      .rcases Uf.mp g with g|g
       .exact qJ.mp z y^A_ g
       .rw[Re.mp g]; exact On _
      .exact qJ.mp z y^A_ g
  exists 1,rfl,#[by cbv,by cbv,by cbv],z3
  exact go [1,-1,(10:Int) ^ (6:Int).toNat] _ _ (λk o=>by
   simp only[TW,ft,or_false]at o
   rcases o with rfl|rfl|rfl <;>decide) (q "out" (.inr rfl)) (by simp)^by simp
 .exists z2,1,rfl,rfl,z2,z2,z2,(by cbv:4<=sizeLine),z2,by lk,z2,z2,z3,z1,(by cbv:5<=sizeLine),(by cbv:4+5<=sizeLine)
  exact C _ _ (q "in" (.inl rfl)) (by simp)^by simp)
theorem Hs:A.Y "_law_own_way" 2 ["_law_thin","_law_one","_law_other"] .sh Ui:=A.got A.h1h λT F m b=>have oJ:=Tz (W':=ZZ) (λ_ _ _ h=>SA h)^Es A; bW F ["_law_thin","_law_one","_law_other","_law_known","_law_way","_law_ahead"] (λZ V=>(AC (CB 3 Z^ZD^cg V (FW A)^AS (Jm^Aj (dv 0) AB)^BA 1 AF)
 (AC (N0 4 Z^BM^AA (dv 2) AG)
 (AC (GW gL (DTW.dt^HC (Bl Dw Gj (Aj (Ey 4)^Cu AB)^dv 1)^GV^Bl (OQ V) Ua (Aj (Ey 4)^Cu AB)^dv 3) (AC (L9 (i:=5) Z rfl (gi rfl) rfl [("_law_thin":Str),("_law_way":Str),("_law_here":Str)] [P3 0,P3 4,o_] (DI.c^V_^dv 3) (λ_ _ _ _ _=>(Ga (i:=2) (show nO [("_law_thin":Str),("_law_way":Str),("_law_here":Str)] by decide +kernel) rfl (gi rfl))) (λ_ _ _ _ _=>(GZ^Bl IM MN (cg V oJ^BA 0^BZ (AT^AA (dv 2)^AA (Aj (Ey 1)^Cu AB) AG) AF) A2)) (λ_ _ _ _ _=>(dv 2)) (by kernel_rfl))
 (AC (L9 (i:=5) Z rfl (gi rfl) rfl [("_law_known":Str),("_law_thin":Str),("_law_way":Str),("_law_here":Str)] [P3 3,P3 0,P3 4,o_] (A8^dv 5) (λ_ _ _ _ _=>(Ga (i:=3) (show nO [("_law_known":Str),("_law_thin":Str),("_law_way":Str),("_law_here":Str)] by decide +kernel) rfl (gi rfl))) (λ_ _ _ _ _=>(GZ^Bl Bt DD (AV AX Ac (By V (dv 0)^dv 3)^cg V oJ^BA 1^BZ (AT^AA (dv 3)^AA (Aj (Ey 2)^Cu AB) AG) AF)^By V (dv 0)^Aj (Ey 2)^Cu AB)) (λ_ _ _ _ _=>(dv 3)) (by kernel_rfl))
 (AE^EL 4 Qi Rw Ru BP Ec (pv 4)^AA (Aj (dv 5) AB) AG))))
 (AE^AJ^EM (Bl Bt DD (Aj (Ey 4)^Cu AB)^dv 1) (Vx T.Gab^Ow (Ey 4)^Cu AB)^AT^AA (dv 1)^AA (dv 2) AG))))) (@λss n Pd h=>by
 let#[M,a,b,rfl,o,ha,hb,l2,p]:=h;have a2:=PySem.sizeLine_eq;have a3:=o.2.1;refine#[_,AD (j:=1) rfl,M,a,_,M.ts,rfl,rfl,λ_=>Iff.rfl,o,ha,λB L K I T=>#[B,L,rfl,RF I,?_]];exists z1
 exists λm n' Q=>n'=n/\∃(q:r_ Str) (x:Str) (s5:Slot),Q=[.sh^enc M,.sh^.str a,.sh^.str b,.sh^.fdi B L,.ow^.lst^q.map .str,s5]/\OwnI M K q x/\m=((K x).getD 0).toNat,
  #[_,rfl,[b],b,_,rfl,#[rfl,by simp,λu hu=>by simp only[Re.mp hu]; exact hb,λE e u hu=>by rw[Re.mp hu]; exact#[E,e,je _]],rfl]
 rintro m n' Q ⟨rfl,q,x,s5,rfl,J,rfl⟩;have W:q.length<=M.ps.length:=LN J.nd J.ins;have g:=Lr J.lst;have a0:x∈M.ps:=J.ins x^List.mem_of_getLast? J.lst;exists 1,rfl,.str x,g
 have done:(CG^Zt (Au^Am (Oo q_) (Am CV (Bc 4)^Xs^wC^D.int 1)^AH 1) (Gr D1^AM (Z7 (Bc 4)^Xs^wC^D.int 1) Ad)^Bs^AM (AH 1)^AM (AH 2) Ad) (EE Pd) n' [.sh^enc M,.sh^.str a,.sh^.str b,.sh^.fdi B L,.ow^.lst^q.map .str,s5]:=by
  exists 1,rfl,.str x,g;show if(x==a)=p_ then _ else _
  cases c:x==a with
  | true=>
   refine Ay #[1,rfl,rfl,?_];show Pd (.tup (q.map D.str).reverse) n';rw[←List.map_reverse]
   have R:q.reverse≠[]:=λz=>by
    have:=J.lst
    rw[List.reverse_eq_nil_iff.mp z]at this;cases this
   cases er:q.reverse with
   |nil=>exact absurd er R
   |cons z r=>exact p z r (by simp only[←er,jB]; exact W) λy t=>J.ins y^kL.mp^by rw[er]; exact t
  | false=>exact Az #[z2,p a [b] l2 λy t=>by
    rcases TW.mp t with rfl|t
    .exact ha
    .rw[Re.mp t]; exact hb]
 show if(!(x==a))=p_ then _ else _
 cases c:x==a with
 |true=>exact Az done
 | false=>
  have ne:x≠a:=λz=>by rw[z,beq_self_eq_true]at c; cases c
  refine Ay #[1,rfl,.str x,g,B,L,_,rfl,A3 x,?_];show if(BI B L^.inr x).isSome=p_ then _ else _
  rw[I.at_];cases ex:K x with
  |none=>exact Az done
  | some E=>
   refine Ay #[_,λ_ _ z=>z,?_]
   have N:∀d∈B.map Ra,∃y C,d=.str y/\K y=P3 C/\y∈M.ps:=λd S=>by
    let#[k,N,rfl]:=Rs.mp S;let#[y,rfl]:=I.dom k N;have U:=(I.mem y).mp N;cases v:K y with
    |none=>exact absurd v U
    |some C=>exact#[y,C,rfl,v,T.ins y U]
   have f2:∀{y:Str},y∈M.ps->DC^.tup [.str y,.str x]:=λt=>QO o.1 (w:=[_,x]) (show 2<=1000 by cbv) λz hz=>by
    rcases TW.mp hz with rfl|hz
    .exact t
    .rw[Re.mp hz]; exact a0
   have kl:=I.le λy t=>T.ins y t;exists B,L,rfl,λk N=>?_,by rw[No]; omega
   .let#[y,rfl]:=I.dom k N
    have:=(o.1.names y^T.ins y^(I.mem y).mp N).2.1
    show y.length<=sizeLine;lk
   refine Dd (Zw M x) id (λQ=>∃s,Q=[.sh^enc M,.br^.lst^q.map .str,s]) _ _ _ _ ?_ #[_,rfl] ?_
   .rintro d S Q m nx sk ⟨s,rfl⟩ U h2
    let#[y,C,rfl,v,t]:=N d S;exists 1,rfl,.str x,g,z2,M,.tup [.str y,.str x],rfl,o.1,by lk,o.2.2,f2 t,rfl;exact B9 (λc=>U _ #[_,rfl] c) λc=>h2 _ #[_,rfl]^gj.mpr c
   rw[fw,ll];exists f_ (iZ _ _) (by rw[No]; omega);refine Dd (ZM M K x E) id (λQ=>∃s,Q=[.sh^.fdi B L,.sh^enc M,.br^.lst^q.map .str,s]) _ _ _ _ ?_ #[_,rfl] ?_
   .rintro d S Q m nx sk ⟨s,rfl⟩ U h2
    let#[S,X]:=g0.mp S;let#[y,C,rfl,v,t]:=N d S;have X:(!NP (JU M^.tup [.str y,.str x]))=p_:=X
    have O:∃l,look M.ts y x=P3 l:=by
     rw[Lq,if_pos t]at X;cases e:look M.ts y x with
     |none=>rw[e]at X; cases X
     |some l=>exact#[l,rfl]
    let#[l,O]:=O;have e2:JU M^.tup [.str y,.str x]=.int (0+l):=by rw[Lq,if_pos t,O]; rfl
    exists B,L,_,.int C,rfl,A3 y,by rw[I.at_,v]; rfl,1,rfl,.str x,g,z2,M,.tup [.str y,.str x],rfl,o.1,by lk,o.2.2,f2 t;rw[e2];refine#[1,rfl,.str x,g,B,L,_,.int E,rfl,A3 x,by rw[I.at_,ex]; rfl,?_];have ec:ZM M K x E^.str y=(C+(0+l)==E):=by rw[O4 v,O]
    rw[ec]at U h2;exact B9 (λc=>U _ #[_,rfl] c) λc=>h2 _ #[_,rfl]^gj.mpr c
   simp only[fw,ll]
   have R:((B.map Ra).filter^Zw M x).filter^ZM M K x E≠[]:=λz=>by
    let#[y,C,l,v,O,e]:=UX o.1 T ex ne;have a1:=T.ins y^by rw[v]; simp
    have hm:D.str y∈((B.map Ra).filter^Zw M x).filter^ZM M K x E:=by
     refine g0.mpr #[g0.mpr #[Rs.mpr #[.inr y,(I.mem y).mpr (by rw[v]; simp),rfl],?_],?_]
     .unfold Zw; rw[Lq,if_pos a1,O]; rfl
     .rw[O4 v,O]; show(C+(0+l)==E)=p_; rw[beq_iff_eq]; lk
    rw[z]at hm;cases hm
   cases eL:((B.map Ra).filter^Zw M x).filter^ZM M K x E with
   |nil=>exact absurd eL R
   | cons z0 r0=>
    have h0:z0∈((B.map Ra).filter^Zw M x).filter^ZM M K x E:=by rw[eL]; exact Op
    let#[h0,H]:=g0.mp h0;let#[y,C,rfl,v,t]:=N z0 (g0.mp h0).1
    obtain⟨l,O,e⟩:∃l,look M.ts y x=P3 l/\C+(0+l)=E:=by
     rw[O4 v]at H;cases e:look M.ts y x with
     |none=>rw[e]at H; cases H
     |some l=>rw[e]at H; exact#[l,rfl,eq_of_beq H]
    have l1:=(JT o.1 O).2.1;have a4:0<=C:=(T.least y C v).1.pos o.1;refine#[_,rfl,rfl,_,AD (j:=0) rfl,_,_,rfl,rfl,by rw[No]; lk,?_];refine#[_,?_,rfl,q++[y],y,.sh^.lst (.str y::r0),?_,J.step T ex v l1^by lk,rfl]
    .rw[v]
     show C.toNat<E.toNat
     lk
    .rw[gW]
     rfl)
theorem GL:A.Y "_law_pair_bent" 8 ["_law_feed_here","_law_net_here","_law_thin","_law_paper"] .sh Uh:=have X:=Ax A; A.gk A.h1i ["_law_feed_here","_law_net_here","_law_thin","_law_paper","_law_way","_law_at","_law_tie","_law_row","_law_other","_law_word"] (λT v i=>(AC (CB 4 v^cg i X^AS (BC 0)^BZ AB AF)
 (AC (Aa (DTW.dt^BR (Bl (G2 i) LI (Aj (dv 1) AB)^AT AG)^BX^Bl (G2 i) LI (dv 4) AB) (AE^AJ^EM (Bl Bt DD (cg i X^AS (BC 0)^BZ AB AF) AB) (AT^AA (cg i (GN A)^AS (BC 0)^BA 2^BZ AB AF)^AA (dv 3) AG)^AT^AA (dv 2)^AA (cg i (GN A)^AS (BC 0)^BA 3^BZ AB AF) AG) AO)
 (AC (CB 5 v^cg i X^AS (BC 0)^BZ (Fw T.Gac^Aj (dv 1) AB) AF)
 (AC (CB 6 v^Aj (cg i (Co A)^BZ (Aj (dv 1) AB) AF)^dv 5)
 (AC (CB 7 v^cg i (G3 A)^AS (BC 0)^BZ (Aj (dv 3)^dv 5) AF)
 (AC (Aa (Bl Bt DD (dv 4) AB) (AE^CB 7 v^Aj (dv 3)^cg i X^AS (BC 0)^BZ (Fw T.Gac^dv 3) AF) AO)
 (AC (Aa (Bl (Ck i) EN (dv 4) AB) (AE^AJ^AT^AA (dv 2)^AA (AV AX Ac (AV AX Ac (Bu DA Bv (dv 3) BE^Ao^dv 5)^AT^AA (dv 7) AG)^Bu DA Bv (dv 3) (Ao^AV AX Ac (dv 5) AB) BE) AG) AO)
 (AC (CB 8 v^AT^AA (Aj (dv 2) AB)^AA (Vx T.Gab^Hd ["_law_tie","_law_thin","_law_one"] [P3 6,P3 2,o_] (A8^Aj (dv 1) AB) (λnq=>CU 2 nq) (GZ^Bl (YZ i) b_ (BD (Bp i) B_ (dv 2) (Aj (dv 1) AB)^by with_unfolding_all rfl)^BD (G2 i) LI (dv 2) (dv 0)^Bj _)^dv 2) AG)
 (AC (Aa (Bl Bt DD (dv 4) AB) (AE^AJ^AT^AA (dv 8)^AA (dv 3) AG) AO)
 (AC (CB 9 v^EM (Bl (Bp i) B_ (dv 6)^Aj (dv 2) AB) AY AY)
 (AC (CB 7 v^AT^AA AY^AA (AV VU ZR (AT^AA AB AG)^Fw T.Gac^Aj (dv 1) AB) AG)
 (AC (Aa (Bl Bt DD (dv 9) AY) (AE^CB 7 v^AT^AA AY^AA (cg i (Hs A)^BA 8^BZ (Aj (dv 6) AB)^BZ (Aj (dv 6) AB) AF) AG) AO)
 (AE^AJ^AT^AA (dv 8)^AA (AV AX Ac (AV AX Ac (Bu DA Bv (dv 3) BE^Ao^dv 5)^AT^AA (dv 7) AG)^Bu DA Bv (dv 3) (Ao^AV AX Ac (dv 5) AB) BE) AG)))))))))))))) (@λss n Z h=>by
 let#[N,E,rs,rfl,z,l7,b0,ht,b4,i,hn,p]:=h;have ok:=z.1;have a5:=ht.okN z;have b5:=PySem.sizeLine_eq;have sn:=Gw z;have sm:=Gw a5
 have C:∀r∈rs,eB r:=λr h=>by
  let#[a,b,c]:=Ms^i r h;exact#[a.mono^by cbv,by lk,c]
 have b6:Be rs<=1511*rs.length:=EO (k:=1511) λd M=>jk (Ms^i d M).2.1;have b7:CW rs<=2:=qJ.mpr λd M=>(Ms^i d M).2.2;have a6:qY (10 ^ 29)^.tup rs:=EJ λx l=>(Ms^i x l).1;let#[fp,zp]:=TL (by lk) C;have bm:KP^enc #[N.ps,E]:=#[sm.1.mono^by cbv,by lk,by lk];refine#[8,rfl,by cbv,by cbv,by lk,λw w0 w1=>?_];exists _,AD (j:=1) rfl,z0,(De ok λ_ h=>h).1,Bb (B:=0) (by cbv) trivial (by cbv);have e1:BY^.tup rs=Be rs:=rfl
 have F:bA (EE Z) (n - 1) [.fd,.sh^enc N,.sh^enc #[N.ps,E],.sh^.tup rs,.sh^.int w,.no,.no,.no,.no,.no]:=by
  refine#[2,rfl,by cbv,by cbv,by lk,λr r0 O=>?_];refine B9 (λ_=>?_) λ_=>?_
  .exact#[_,2000000,4,rfl,On _,sm.1.mono^by cbv,On _,by cbv,by lk,by lk,λe n' Q a2 a3 a4=>#[z2,p _ _ n' #[#[Q.mono^by cbv,by lk,by lk],fp,by lk,by lk]^by lk]]
  .exact#[.tup rs,10 ^ 29,4,rfl,On _,a6,by cbv,by cbv,by lk,by lk,λe n' Q a2 a3 a4=>#[z2,p _ _ n' #[bm,#[Q.mono^by cbv,by lk,by have a3:Ct e<=CW rs+1+1:=a3; omega],by lk,by lk]^by lk]]
 refine B9 (λ_=>F) λc=>?_;exists Bb (B:=8) (by cbv) (by show w.natAbs<=8; omega)^T0 _,Bb (B:=0) (by cbv) (by show(0:Int).natAbs<=0; decide)^T0 _;refine B9 (λ_=>F) λ_=>?_
 have tl:1<=N.ts.length:=by
  cases hN:N.ts with
  |nil=>rw[hN]at c; exact absurd rfl c
  |cons _ _=>simp
 refine#[_,AD (j:=1) rfl,_,_,rfl,rfl,_,rfl,by rw[No]; omega,by rw[No]; omega,by lk,λa a0 Q=>?_];rw[No]at Q;obtain⟨a,rfl⟩:∃k:Nat,a=(k:Int):=#[a.toNat,by lk];refine#[_,AD (j:=1) rfl,_,N.ts,rfl,rfl,by lk,λo o1 o2=>?_];have b8:=o1.length_eq;have ha:a<o.length:=by lk
 have hu:(o.map AR)[a]?=P3 (AR o[a]):=by rw[fo,FM ha]; rfl
 have q:o[a]∈N.ts:=o1.mem_iff.mp^gH ha;generalize o[a]=u at hu q;have R:a<rs.length:=by lk
 refine#[_,AD hu,_,AD^FM R,_,rfl,i _^gH R,by lk,λe n1 I b9=>?_]
 have S:∀(e:D) (J:Nat),eB e->n - 10<=J->W9 (EE Z) J [.fd,.sh^enc N,.sh^enc #[N.ps,E],.sh^.tup rs,.sh^.int w,.sh^.int a,.sh^AR u,.sh e,.no,.no]:=by
  intro e J I c0;have l1:=(Gc rs o_^P3 (a:Int)).length_le;have c1:=(Gc rs (P3 ((a:Int)+1)) o_).length_le
  have U:∀e,eB e->DC^.tup (Dp.cutD rs o_^P3 (a:Int)++[e]++Dp.cutD rs (P3 ((a:Int)+1)) o_)/\BY^.tup (Dp.cutD rs o_^P3 (a:Int)++[e]++Dp.cutD rs (P3 ((a:Int)+1)) o_)<=100000:=λe I=>by
   have hl:(Dp.cutD rs o_^P3 (a:Int)++[e]++Dp.cutD rs (P3 ((a:Int)+1)) o_).length<=25:=by simp only[fh,gC]; omega
   have:=TL (rs:=Dp.cutD rs o_^P3 (a:Int)++[e]++Dp.cutD rs (P3 ((a:Int)+1)) o_) (by lk) λx l=>by
    rcases Uf.mp l with l|l
    .rcases Uf.mp l with l|l
     .exact C x^A_ l
     .rw[Re.mp l]; exact I
    .exact C x^A_ l
   exact#[this.1,by lk]
  unfold W9;refine B9 (λ_=>?_) λ_=>?_
  .let#[O,r2]:=U e I
   exact#[z1,by show(Dp.cutD _ _ _).length+1<=sizeLine; omega,by show(Dp.cutD _ _ _++[e]).length+(Dp.cutD _ _ _).length<=sizeLine; rw[fh,gC]; omega,z2,p _ _ J #[bm,O,by lk,by lk]^by lk]
  .unfold W8
   refine#[_,AD (j:=0) rfl,_,AD (j:=1) rfl,by rw[No]; omega,?_];have lb:∀b:Bool,Bz^.bl b:=λb=>Bb (B:=0) (by cbv) trivial (T0 _);refine Dd (λd=>!Dt (.bl^(E.map AR).any λy=>Dt y d) (.bl^Dt d^AR u)) id (λρ=>∃s,ρ=[.sh^AR u,.sh^enc #[N.ps,E],s]) _ _ _ _ ?_ #[_,rfl] ?_
   .rintro d M ρ m nx sk ⟨s,rfl⟩ h1 h2
    let#[t,hh,rfl]:=Rs.mp M;exists _,AD (j:=1) rfl,Dz ok hh,(De ok ht.1).1,_,rfl,Dz ok hh,Dz ok q,lb _,lb _;exact B9 (λc=>h1 _ #[_,rfl] c) λc=>h2 _ #[_,rfl]^gj.mpr c
   rw[fw,ll,List.filter_map];have V:thn N^N.ts.filter ((λd=>!Dt (.bl^(E.map AR).any λy=>Dt y d) (.bl^Dt d^AR u))∘AR):=#[λt h=>(g0.mp h).1,ok.qg.filter _];generalize N.ts.filter ((λd=>!Dt (.bl^(E.map AR).any λy=>Dt y d) (.bl^Dt d^AR u))∘AR)=ts' at V;have G:=V.okN z;have a7:=Gw G;have W:KP^enc #[N.ps,ts']:=#[a7.1.mono^by cbv,by lk,by lk];exists z2;refine B9 (λ_=>#[z2,p _ _ J #[W,fp,by show BY^enc #[N.ps,ts']<=_; omega,by lk]^by lk]) λ_=>?_
   have H:∀(e:D) (s9:Slot),eB e->(CG^Bs^AM (AH 8)^AM (Am BO (Am BO (N4 FL (AH 3) CA^C3^AH 5)^Bs^AM (AH 7) Ad)^N4 FL (AH 3) (C3^Am BO (AH 5)^wC^D.int 1) CA) Ad) (EE Z) J [.fd,.sh^enc N,.sh^enc #[N.ps,E],.sh^.tup rs,.sh^.int w,.sh^.int a,.sh^AR u,.sh e,.sh^enc #[N.ps,ts'],s9]:=λe s9 I=>by
    let#[O,r2]:=U e I;exact#[z1,by show(Dp.cutD _ _ _).length+1<=sizeLine; omega,by show(Dp.cutD _ _ _++[e]).length+(Dp.cutD _ _ _).length<=sizeLine; rw[fh,gC]; omega,z2,p _ _ J #[W,O,by lk,by lk]^by lk]
   let#[m1,m2,_]:=ok.tin u q;have l2:=Xz ok q
   have a8:∀k:Nat,k<=7->Cj (10 ^ 30)^fq k^D.int 0/\Be^fq k^D.int 0<=3300/\CW^fq k^D.int 0<=0:=λk hk=>by
    have hm:∀y∈fq k^D.int 0,y=.int 0:=λy L=>(l_.mp L).2
    have:=EO (k:=201) (ds:=fq k^D.int 0) λy L=>by rw[hm y L]; exact On _
    rw[iz]at this;exact#[qz.mpr λy L=>by rw[hm y L]; show(0:Int).natAbs<=_; decide,by lk,qJ.mpr λy L=>by rw[hm y L]; exact On _]
   let#[y1,y2,y3]:=a8 N.ps.length l7;have pl:((N.ps.map D.str).length:Int).toNat=N.ps.length:=by rw[No,jX]
   unfold W7;exists _,AD (j:=1) rfl,Dz ok q,(De ok ht.1).1,_,rfl;refine B9 (λ_=>?_) λ_=>?_
   .exists z1,_,AD (j:=0) rfl,_,_,rfl,rfl,by rw[No]; omega,by rw[No]; omega,z2
    refine#[_,AD (j:=0) rfl,_,AD (j:=1) rfl,#[N.ps,ts'],u.a,u.b,rfl,G,m1,m2,l2,λx r hl a9=>#[z2,?_]];let#[b1,b2,b3]:=EB (B:=10 ^ 30) ok a9;have hl:(x::r).length<=N.ps.length:=hl;exact H _ _ (HB (.inr rfl) b1 (by lk) b3).1
   .exists z1,_,AD (j:=0) rfl,_,_,rfl,rfl,by rw[No]; omega,by rw[No]; omega,z2
    rw[pl];exact H _ _ (HB (.inl rfl) y1 y2 y3).1
 refine B9 (λ_=>?_) λ_=>S e n1 I (by lk);refine#[_,_,rfl,rfl,(rs.length:Int),rfl,by lk,by lk,by lk,λr r0 O=>?_];obtain⟨k,rfl⟩:∃k:Nat,r=(k:Int):=#[r.toNat,by lk];have hk:k<rs.length:=by lk
 exact#[_,AD^FM hk,S _ _ (C _^gH hk)^by lk])
end
section
variable {P:Program}{w:World}{K:Frag}{mg:Str->s_ Value}{base:Heap}
theorem LX:BJ ["_law_script"] ["_law_script"]^AK En:=by constructor <;>first|rfl|decide +kernel
theorem Ll(T:Txt K mg)(F:Fun K "_law_feed" "_law_feed" En f fd):qV P w K mg base Ef 1 f fd ["_law_script"]^LU K:=by
 refine F.ok LX (λi H Q E h=>?_) λj A d s H i Q E n h=>?_
 .let#[a,k,rfl,_]:=h
  rfl
 .let#[a,k,rfl,#[l,m],q]:=h
  exists _,Cz^Fh^OP^A4 (Ki DP rfl T.Gag boot_list (A4 (Mt sl_list (pv 0) Pe^Pc Av) B4))^A4 Av^A4 Av B4;refine#[_,rfl,63,rfl,a,_,rfl,m,λp o=>#[p,_,rfl,.inl^SqL.of AQ,λc r=>#[by show 3<=sizeLine; decide,λg e=>?_]]];rw[bw l]at e ⊢;have b:c≠g:=λz=>by simp only[←z,AQ]at e; cases e
  exact q c g _ b (by rw[AL b,AQ]) AQ
theorem oK:BJ ["_law_script","_law_feed_here","_law_net_here","_law_times_here","_law_thin","_law_paper","_law_k","_law_pair","_law_odd_here"] ["_law_script"]^AK I_:=by walk_at "s"
theorem Yd(A:Ctx P w K mg base h)(Gf:qV P w K mg base Ef 1 Z M ["_law_script"]^LU K)(mf:mg "_law_feed"=P3^.ref Z)(kf:keepIn K^.ref Z=p_)(bf:Binds K M ["_law_script"] [])(F:Fun K "law" "law" I_ f fd):qV P w K mg base Ef 9 f fd ["_law_script"]^Mm K:=by
 have O:=KC A;have oN:=Mz A;have oF:=Ax A;have oO:=GL A;have oP:=Ho A;have oQ:=KA A;have oR:=Hl A;have T:=A.T
 exact bV (n0:=3000) F oK rfl (by cbv) (λa0 A G s H E m=>Ep (i:=1) oK.nd rfl (gi rfl) (Pj Gf (m.mono^by cbv) rfl mf kf bf .nil W_ (A4 (pv 0) B4)))
  (λa0 A G s H E m=>(AC (CB 2 oK.nd^cg m oN^AS (BC 1)^BZ AB^BZ AB AF)
 (AC (CB 3 oK.nd^cg m oQ^AS (BC 1) AF)
 (AC (CB 4 oK.nd^cg m oP^BA 2^BA 3 AF)
 (AC (CB 5 oK.nd^cg m oR^BA 2^BA 3 AF)
 (AC (CP gL rfl (CT rfl T.Gad (AN AB AW)) (CU 6 oK.nd) (AC (CB 7 oK.nd^cg m oO^AS (BC 1)^BA 2^BA 4^BA 5 AF)
 (AC (Aa (As^Ah^cg m O^BA 2^BA 3^BZ (Aj (dv 7) AB)^BZ (Aj (dv 7) AB) AF) (AE^AJ BU) AO)
 (AC (Aa (Bl Bt DD (cg m oF^AS (BC 1)^BZ AB AF) AB) (AE^CB 7 oK.nd^AT^AA (Aj (dv 7) AB)^AA (Aj (cg m oO^AS (BC 1)^BA 2^BA 4^BA 5 AF) AB) AG) AO)
 (AE^Aa (As^Ah^cg m O^BA 2^BA 3^BZ (Aj (dv 7) AB)^BZ (Aj (dv 7) AB) AF) (AE^AJ BU) AO)))))
 (AC (CP gL rfl (Fx^BM^AA A2^AA BU^AA (AT AG)^AA (BM AG)^AA AY^AA AB^AA (DR DP MO rfl T.Gag boot_list (AN (dv 5) AW))^AA (AT^AA (AT AG) AG)^AA (AV VT ZQ (AT^AA A2 AG)^Fw T.Gac^dv 5) AG) (CU 8 oK.nd) (AE^Aa (DTW.dt^BR (As^Ah^cg m O^BA 2^BA 3^BA 4^BA 8 AF)^BX^As^Ah^cg m O^BA 2^BA 3^BA 8^BA 5 AF) (AE^AJ BU) AO))
 (AE^AJ^cg m O^BA 2^BA 3^BA 4^BA 5 AF)))))))) (by
 have a5:=PySem.sizeLine_eq;refine#[7,10,rfl,by cbv,by cbv,by cbv,λN n0 ok l1 l7 a6 a7=>?_];have g:okN N:=#[ok,by lk,by lk];refine#[rfl,by lk,λt b n1 b0 bt tt a8=>?_];have I:SO t b:=#[b0,by lk,by lk,tt];refine#[N,t,b,rfl,g,b0,by lk,by lk,tt,λQ o1 o2=>?_];refine#[N,t,b,rfl,g,I,λa4 n o3 o4 hp=>?_];have R:n.length=N.ts.length:=hp.len.trans o3.length_eq;have m:=TK ok l7 l1 hp;have L:thn N (sub N^Aw N t b [] Q).ts:=#[λt h=>(zL.mp h).1,ok.qg.filter _];obtain⟨u,eM⟩:∃u,sub N^Aw N t b [] Q=⟨N.ps,u⟩:=#[_,rfl];rw[eM]at L ⊢;have L:thn N u:=L;clear eM hp o1 o2 o3 o4;have sn:=Gw g;have sm:=Gw^L.okN g;have bm:KP^enc #[N.ps,u]:=#[sm.1.mono^by cbv,by lk,by lk]
 have a2:∀r∈n,eB r:=λr h=>by
  let#[a,b,c]:=Ms^m r h;exact#[a.mono^by cbv,by lk,c]
 let#[fp,zp]:=TL (by lk) a2;have q:∀{d p:D},BY d<=100000->BY p<=100000->BY^enc N+BY d+BY p<=260000:=λX h2=>by lk
 have S:∀(v:Nat) (B C:Slot),Yi {nx:=λ_ _=>False,rt:=λd _=>d=.bl p_} v [.no,.fd,.sh^enc N,.sh^Kb t b,.sh^enc #[N.ps,u],.sh^.tup n,B,C,.no]:=by
  intro v B C;unfold Yi;exists z0,z0,z0,z1,z1,_,_,rfl,rfl,by lk,by lk,(by cbv:9<=sizeLine);have o:∀{e:D},qY 10 e->BY e<=1000->Ct e<=2->DC e/\KP e/\BY e<=100000:=λf z d=>#[#[f.mono^by cbv,by lk,by lk],#[f.mono^by cbv,by lk,by lk],by lk]
  have od:∀e∈[D.non,.bl p_,.tup [],.lst [],.str "in",.int 0,.lst n,.tup [.tup []],.tup^fq (n.length:Int).toNat .non],DC e/\KP e/\BY e<=100000:=λe U=>by
   simp only[TW,ft,or_false]at U
   rcases U with rfl|rfl|rfl|rfl|rfl|rfl|rfl|rfl|rfl
   .exact o trivial (by cbv) (by cbv)
   .exact o trivial (by cbv) (by cbv)
   .exact o trivial (by cbv) (by cbv)
   .exact o trivial (by cbv) (by cbv)
   .exact o (by show ∀c∈cs "in",c<1114112; decide +kernel) (by decide +kernel)^by cbv
   .exact o (by show(0:Int).natAbs<=10; decide) (by cbv)^by cbv
   .let#[f1,f2,f3]:=fp
    have f3:CW n+1<=50:=f3;have e1:BY^.lst n=BY^.tup n:=rfl;exact#[#[f1,by lk,by show CW n+1<=50; omega],#[(show qY (10 ^ 40)^.lst n from f1).mono^by cbv,by lk,by show CW n+1<=90; lk],by lk]
   .exact o #[trivial,trivial] (by cbv)^by cbv
   .have hm:∀y∈fq (n.length:Int).toNat D.non,y=.non:=λy J=>(l_.mp J).2
    have:=EO (k:=1) (ds:=fq (n.length:Int).toNat D.non) λy J=>by rw[hm y J]; exact On _
    rw[iz]at this;have d0:CW^fq (n.length:Int).toNat D.non<=0:=qJ.mpr λy J=>by rw[hm y J]; exact On _
    exact o (qz.mpr λy J=>by rw[hm y J]; trivial:Cj 10 _) (by show Be _<=1000; lk)^by show CW _+1<=2; lk
  have V:∀(l:r_ D) (s8:Slot),(∀e∈l,DC e/\KP e/\BY e<=100000)->BH (Aq 8) Yk {({nx:=λ_ _=>False,rt:=λd _=>d=.bl p_}:E2)with nx:=(CG^A1 F1^AI (AU^AH 2)^AI (AU^AH 3)^AI (AU^AH 4)^AI (AU^AH 5) A5) {nx:=λ_ _=>False,rt:=λd _=>d=.bl p_}} l v [.no,.fd,.sh^enc N,.sh^Kb t b,.sh^enc #[N.ps,u],.sh^.tup n,B,C,s8]:=by
   intro l
   induction l with
   |nil=>intro s8 _; exact#[N,t,b,_,_,rfl,g,by lk,I,bm,fp,q (by lk)^by lk,rfl]
   |cons e l Y=>
    intro s8 U;let#[e1,e2,e3]:=U e Op;unfold Yk;exact#[N,t,b,_,_,rfl,g,by lk,I,bm,e1,q (by lk) e3,N,t,b,_,_,rfl,g,by lk,I,e2,fp,q e3^by lk,Y _ λx hx=>U x^TM _ hx]
  exact V _ _ od
 exists 8,rfl,#[by cbv,by cbv]
 have go:∀(W:r_ Int) (v:Nat) (B C:Slot),70*W.length<=v->
   BH (Aq 6) bK {({nx:=λ_ _=>False,rt:=λd _=>d=.bl p_}:E2)with nx:=Yi {nx:=λ_ _=>False,rt:=λd _=>d=.bl p_}} (W.map .int) v [.no,.fd,.sh^enc N,.sh^Kb t b,.sh^enc #[N.ps,u],.sh^.tup n,B,C,.no]:=by
  intro W
  induction W with
  |nil=>intro v B C _; exact S v B C
  | cons k W Y=>
   intro v B C hn;simp only[eq]at hn;unfold bK;refine#[N,u,n,rfl,g,l7,by lk,L,R,m,by lk,λd p n3 hb a9=>?_];let#[X,h2,h3,h4]:=hb;exists _,AD (j:=0) rfl,_,AD (j:=1) rfl,N,t,b,d,p,rfl,g,by lk,I,X,h2,q h3 h4;refine#[4,rfl,by cbv,by cbv,by lk,λr r0 r1=>?_];refine B9 (λ_=>?_) λ_=>?_
   .refine#[_,AD (j:=0) rfl,N,u,n,rfl,g,l7,by lk,L,R,m,by lk,λd' p' n4 a3 b1=>?_]
    let#[_,g2,_,g4]:=a3;exact#[_,AD (j:=1) rfl,z2,_,AD (j:=0) rfl,_,AD (j:=1) rfl,N,t,b,d,p',rfl,g,by lk,I,X,g2,q h3 g4,Y _ _ _^by lk]
   .exact#[_,AD (j:=0) rfl,_,AD (j:=1) rfl,N,t,b,d,p,rfl,g,by lk,I,X,h2,q h3 h4,Y _ _ _^by lk]
 exact go [0,1,2,3,4,5,6,7] n1 .no .no^by simp only[eq,hZ]; lk)
end
local macro_rules|`(tactic|walk_at "B")=>`(tactic|(intro _ _ _ _ _ _; exact fE λ_=>rfl))
theorem all_mk{l:PySem.W.OpenLaw}{K:Frag}(e:d "law"=P3^.ref i)(A:C0 K d h):∃fd:gX,(∀(s:Go) (v:Db),lc s fd #[[v],[]] [("_law_script",v)])/\∀b:fz,K.In b->b.Ns mainGlobals d->qV l.prog w K d b Ef 9 i fd ["_law_script"]^Mm K:=by
 let#[y,j,m,g]:=A.h0t.fn A.X A.G;have n:=g.binds (ps:=["_law_script"]) (by walk_at "B");let#[f,z,B,o,C,p,q,r,t,u,a,x,c,k]:=A.h1j;cases e.symm.trans^mg_of A.X A.G a;exact#[fnOf "law" "law" (CC I_) (A9 I_) (AK I_) .none p q r o t u,λs v=>.of_eq rfl,λb _ _=>Yd A (Ll A.T g) m g.kp n^Oj (st:=I_) x c k]
theorem walk{l:PySem.W.OpenLaw}{K:Params->Frag}(o:l.most=P3 63)(g:d.params.defaults=[])
  (p:∀(w:gB) (h:fz),i w h->(K w.params).In h)
  (F:∀(w:gB) (e:Str->s_ Db) (j:Ch) (h:fz),(K w.params).In h->h.Ns mainGlobals e->e d.name=P3^.ref j->
   ∃fd:gX,(∀(s:Go) (u:Db),lc s fd #[[u],[]] [("_law_script",u)])/\∀b:fz,(K w.params).In b->b.Ns mainGlobals e->qV l.prog w (K w.params) e b Ef 9 j fd ["_law_script"]^Mm^K w.params):
  PySem.W.WalkO q c m i l.row.toRowW d [] (λf r=>PySem.call f r):=
 L2.O_ (n:=63) (k:=9) (x:="_law_script") (CX:=λ_=>Ef) (sp:=λw=>Mm^K w.params) o (by cbv) g #[rfl,by cbv,by cbv,rfl] p F (λ_ _ a t v _ y=>#[a,t,rfl,#[v,y],λ_=>rfl]) λ_ _ _ _ _ z=>z
end K12
end _p
namespace PySem.W.Fast
def tw11963061171833784685:True:=⟨⟩
def tw9270145362030452126:True:=⟨⟩
def tw13268538472279741016:True:=⟨⟩
def tw5606190635201778358:True:=⟨⟩
def tw8915768605558034088:True:=⟨⟩
def tw16426445988856689919:True:=⟨⟩
def tw18327813134555157660:True:=⟨⟩
def tw2749339783017589451:True:=⟨⟩
def tw7579253321564042687:True:=⟨⟩
def tw3728240906991101108:True:=⟨⟩
def tw17179278886409732062:True:=⟨⟩
def tw6535997722328452126:True:=⟨⟩
def tw10144996221513590945:True:=⟨⟩
def tw18129492527120820802:True:=⟨⟩
def tw3094184053481348217:True:=⟨⟩
def tw10931080271022961211:True:=⟨⟩
def tw7133654403322818798:True:=⟨⟩
def tw10984835189301010715:True:=⟨⟩
def tw9825447833360757118:True:=⟨⟩
def tw16781973699473893645:True:=⟨⟩
def tw16268148218910105954:True:=⟨⟩
def tw16572189641114179073:True:=⟨⟩
def tw13209129889615927811:True:=⟨⟩
def tw12597359843056395501:True:=⟨⟩
def tw3164100450433279291:True:=⟨⟩
def tw3008496285505113646:True:=⟨⟩
def tw15435736024355906698:True:=⟨⟩
def tw3360563819446340474:True:=⟨⟩
def tw13038945509576603561:True:=⟨⟩
def tw7833404112878617589:True:=⟨⟩
def tw5837493656975584475:True:=⟨⟩
def tw251626487737373658:True:=⟨⟩
def tw14292620029374299818:True:=⟨⟩
def tw9745510080018453874:True:=⟨⟩
def tw7799132782326004130:True:=⟨⟩
def tw12948444810677339694:True:=⟨⟩
def tw16587348982486059226:True:=⟨⟩
def tw6986333230684953573:True:=⟨⟩
def tw6243614470582326177:True:=⟨⟩
def tw7224773907562284452:True:=⟨⟩
def tw12354672380976174911:True:=⟨⟩
def tw17081774974386852734:True:=⟨⟩
def tw12141021025827682817:True:=⟨⟩
def tw16573548804306262384:True:=⟨⟩
def tw10158724991814536248:True:=⟨⟩
def tw13109291337257106050:True:=⟨⟩
def tw3695796773622669838:True:=⟨⟩
def tw12751373941748776555:True:=⟨⟩
def tw5043319858315497692:True:=⟨⟩
def tw14862603380194471642:True:=⟨⟩
def tw2497970298149332242:True:=⟨⟩
def tw10307125722375290000:True:=⟨⟩
def tw3347581744803581568:True:=⟨⟩
def tw12866599429936920337:True:=⟨⟩
def tw15150797704490146995:True:=⟨⟩
def tw15065418506155725018:True:=⟨⟩
def tw5554331507084963262:True:=⟨⟩
def tw7978456415949476888:True:=⟨⟩
def tw4553101203344427249:True:=⟨⟩
def tw15853508652563646277:True:=⟨⟩
def tw13546615372815676864:True:=⟨⟩
def tw16114114482387959956:True:=⟨⟩
def tw9770956388407531191:True:=⟨⟩
def tw9324692183993545786:True:=⟨⟩
def tw13637023006700177986:True:=⟨⟩
def tw4041291797268487445:True:=⟨⟩
def tw5368080884369052252:True:=⟨⟩
def tw15347916723164637307:True:=⟨⟩
def tw10755238008408304202:True:=⟨⟩
def tw6671257339353342615:True:=⟨⟩
def tw7394618226890884939:True:=⟨⟩
def tw6458896213758368915:True:=⟨⟩
def tw6135785894308135934:True:=⟨⟩
def tw8325029050751493828:True:=⟨⟩
def tw2195419571185872578:True:=⟨⟩
def tw522853425074326270:True:=⟨⟩
def tw12304176995513097948:True:=⟨⟩
def tw14850866613269947280:True:=⟨⟩
def tw8003118141886991763:True:=⟨⟩
def tw7992064349574003117:True:=⟨⟩
def tw9305478642287301649:True:=⟨⟩
def tw17069825530140127800:True:=⟨⟩
def tw3405249947766362403:True:=⟨⟩
def tw3741760584832122383:True:=⟨⟩
def tw4442358381888415447:True:=⟨⟩
def tw13437062695270059538:True:=⟨⟩
def tw16444862148878873211:True:=⟨⟩
def tw5962211175869916738:True:=⟨⟩
def tw18161728101335450905:True:=⟨⟩
def tw4500982514815630789:True:=⟨⟩
def tw3617900620379457779:True:=⟨⟩
def tw1510537934041663771:True:=⟨⟩
def tw16276765553555761260:True:=⟨⟩
def tw7606063159563701507:True:=⟨⟩
def tw762458820993936282:True:=⟨⟩
def tw14488447224568385956:True:=⟨⟩
def tw12904431550375077043:True:=⟨⟩
def tw15427896339859960264:True:=⟨⟩
def tw2963252181006572799:True:=⟨⟩
def tw11558836888578133392:True:=⟨⟩
def tw12268279695137477749:True:=⟨⟩
def tw16185005656842533575:True:=⟨⟩
def tw12894510978558327482:True:=⟨⟩
def tw16727806734017312466:True:=⟨⟩
def tw17975402812683316243:True:=⟨⟩
def tw9535506929505677861:True:=⟨⟩
def tw11932518260689075450:True:=⟨⟩
def tw2219008537407971891:True:=⟨⟩
def tw10993006867181339244:True:=⟨⟩
def tw18128714176317961592:True:=⟨⟩
def tw7435387218622352733:True:=⟨⟩
def tw16742564882942594943:True:=⟨⟩
def tw2877541983626118686:True:=⟨⟩
def tw15958110243859871323:True:=⟨⟩
def tw14760625874511351653:True:=⟨⟩
def tw3098610867697455338:True:=⟨⟩
def tw15044429085684067317:True:=⟨⟩
def tw7662205242344507301:True:=⟨⟩
def tw1622200954433182987:True:=⟨⟩
def tw17123341038095617655:True:=⟨⟩
def tw9843200850219855242:True:=⟨⟩
def tw4878404424043681600:True:=⟨⟩
def tw14303088862666287922:True:=⟨⟩
def tw678599880935357473:True:=⟨⟩
def tw4167178924761647098:True:=⟨⟩
def tw2904472684888099126:True:=⟨⟩
def tw12497473100888739219:True:=⟨⟩
def tw9527526688563994886:True:=⟨⟩
def tw1004624110273998814:True:=⟨⟩
def tw13210067939967802643:True:=⟨⟩
def tw686234080993015782:True:=⟨⟩
def tw4632796409645167751:True:=⟨⟩
def tw17761565788465367156:True:=⟨⟩
def tw14999948152947179726:True:=⟨⟩
def tw6708764367997886814:True:=⟨⟩
def tw4174412890202405429:True:=⟨⟩
def tw11869478860676410404:True:=⟨⟩
def tw150402145667089990:True:=⟨⟩
def tw14963898228927642398:True:=⟨⟩
def tw12965206652522295455:True:=⟨⟩
def tw18125725889110638956:True:=⟨⟩
def tw16885487688498421938:True:=⟨⟩
def tw6940768248767038688:True:=⟨⟩
def tw8085294037490637493:True:=⟨⟩
def tw7792395874736268693:True:=⟨⟩
def tw11863125028401339275:True:=⟨⟩
def tw5530918474523672329:True:=⟨⟩
def tw7713683455677498323:True:=⟨⟩
def tw13189053092588377330:True:=⟨⟩
def tw13424193215699601042:True:=⟨⟩
def tw13191040853980750385:True:=⟨⟩
def tw14331044669561546254:True:=⟨⟩
def tw9404590418369564947:True:=⟨⟩
def tw2080855840693102028:True:=⟨⟩
def tw13240394684380946835:True:=⟨⟩
def tw1994436057953399039:True:=⟨⟩
def tw7867079563849242110:True:=⟨⟩
def tw16227354113443111600:True:=⟨⟩
def tw1601494744736507669:True:=⟨⟩
def tw9295044687276395910:True:=⟨⟩
def tw1428907802112104991:True:=⟨⟩
def tw11162504275768193092:True:=⟨⟩
def tw2137319825913248824:True:=⟨⟩
def tw9473473506476012539:True:=⟨⟩
def tw17218204971927067136:True:=⟨⟩
def tw7847301980441232300:True:=⟨⟩
def tw18349552479233485996:True:=⟨⟩
def tw3868029613519151205:True:=⟨⟩
def tw10806328512708682350:True:=⟨⟩
def tw11754327386369182098:True:=⟨⟩
def tw17315650133766999067:True:=⟨⟩
def tw8428732908224373371:True:=⟨⟩
def tw12933788986270753086:True:=⟨⟩
def tw10859945786799669491:True:=⟨⟩
def tw2153981182967856018:True:=⟨⟩
def tw5742899073407028278:True:=⟨⟩
def tw605797855998118380:True:=⟨⟩
def tw10240453447090890691:True:=⟨⟩
def tw5895085816540691353:True:=⟨⟩
def tw4232369128166625181:True:=⟨⟩
def tw3122057007485711547:True:=⟨⟩
def tw18337479656023892266:True:=⟨⟩
def tw4914977460276647876:True:=⟨⟩
def tw6120451851214609104:True:=⟨⟩
def tw7847331973970555789:True:=⟨⟩
def tw1525146225247075125:True:=⟨⟩
def tw3761872305094375142:True:=⟨⟩
def tw6248664256431021554:True:=⟨⟩
def tw3457349830580866048:True:=⟨⟩
def tw16735395138117159900:True:=⟨⟩
def tw1146732498121986218:True:=⟨⟩
def tw713279092358358711:True:=⟨⟩
def tw8758399152686524822:True:=⟨⟩
def tw17870644279040540544:True:=⟨⟩
def tw15666736780858472802:True:=⟨⟩
def tw16892974462915585123:True:=⟨⟩
def tw5024928247613020629:True:=⟨⟩
def tw1463000657356222291:True:=⟨⟩
def tw8363984441012301036:True:=⟨⟩
def tw6527224509264262971:True:=⟨⟩
def tw7501302533955168039:True:=⟨⟩
def tw11046485749340813407:True:=⟨⟩
def tw7993624899767155547:True:=⟨⟩
def tw2514536774029817538:True:=⟨⟩
def tw10761007440883462981:True:=⟨⟩
def tw31518457830502117:True:=⟨⟩
def tw9084771295052494677:True:=⟨⟩
def tw11159944996281123423:True:=⟨⟩
def tw11088264939146337957:True:=⟨⟩
def tw16608690570967500510:True:=⟨⟩
def tw15438919584941556712:True:=⟨⟩
def tw113369364154072556:True:=⟨⟩
def tw9455039374891103521:True:=⟨⟩
def tw270979458505539007:True:=⟨⟩
def tw9682414664861175763:True:=⟨⟩
def tw1507993168526703434:True:=⟨⟩
def tw16786585212046315613:True:=⟨⟩
def tw4565972552770901761:True:=⟨⟩
def tw14732932414549206489:True:=⟨⟩
def tw14417727902078674917:True:=⟨⟩
def tw10728218389884694938:True:=⟨⟩
def tw12950421750147950365:True:=⟨⟩
def tw17302027476468331631:True:=⟨⟩
def tw3204502904120097508:True:=⟨⟩
def tw12838824431035148391:True:=⟨⟩
def tw14584054055962828428:True:=⟨⟩
def tw8125654901394990350:True:=⟨⟩
def tw9341986959105729061:True:=⟨⟩
def tw17051296059431146697:True:=⟨⟩
def tw12994981462483398638:True:=⟨⟩
def tw3269394918727504927:True:=⟨⟩
def tw8229419834728597444:True:=⟨⟩
def tw7181118766716102504:True:=⟨⟩
def tw16954125833475911340:True:=⟨⟩
def tw11090149715831237199:True:=⟨⟩
def tw3236492128142897423:True:=⟨⟩
def tw14154584313150779894:True:=⟨⟩
def tw1197192859886151178:True:=⟨⟩
def tw15731015719009270982:True:=⟨⟩
end PySem.W.Fast
open _p
open PySem.W
set_option maxRecDepth 100000 in
set_option maxHeartbeats 0 in
theorem PySem.Challenge.cw_thinnet_k12_greedy_papers_bent_holds : PySem.Challenge.rw_thinnet_k12_greedy_papers_bent.Holds := by
 w_on; o_law; k_head; (case hw=>w_witness2)
 k_fill
 refine K12.walk (l:=PySem.Challenge.rw_thinnet_k12_greedy_papers_bent) rfl rfl (λw h Y=>PySem.W.kIn_of Y) ?F
 case F =>
  intro w mg fa h KX G hmg
  refine K12.all_mk (h:=h) hmg ?_
  apply K12.C0.mk KX G
  all_goals first
   | (refine' K12.Ht.mk ?a ?l ?c ?k; (case a=>k_is); (case l=>k_is); (case c=>k_is); (case k=>k_is))
   | (refine' K12.Hn.mk ?a; (case a=>k_is))
   | (refine' K12.Hx.mk ?c; (case c=>(refine' K12.xc_mk ?at_ ?atU ?o ?u ?kp ?ga ?gt ?sa ?ca ?nw ?nn ?nr; (case at_=>k_is); (case atU=>k_is); (case o=>k_is); (case u=>k_is); (case kp=>k_is); (case ga=>k_is); (case gt=>k_is); (case sa=>k_is); (case ca=>k_is); (case nw=>k_is); (case nn=>k_is); (case nr=>k_is))))
   | (refine' K12.H2.mk ?c ?i ?ty ?l ?cc ?k; (case c=>(refine' K12.xc_mk ?at_ ?atU ?o ?u ?kp ?ga ?gt ?sa ?ca ?nw ?nn ?nr; (case at_=>k_is); (case atU=>k_is); (case o=>k_is); (case u=>k_is); (case kp=>k_is); (case ga=>k_is); (case gt=>k_is); (case sa=>k_is); (case ca=>k_is); (case nw=>k_is); (case nn=>k_is); (case nr=>k_is))); (case i=>k_is); (case ty=>k_is); (case l=>k_is); (case cc=>k_is); (case k=>k_is))
#print axioms PySem.Challenge.cw_thinnet_k12_greedy_papers_bent_holds

import PyProof.Rows.All
import Wide.All
import OpenK.AllK
import Wide.FinOn
import Lean
import PyProof.EqAt
import PyProof.EqKinds
import PyProof.TupleCall
import PyProof.StationsW
import PyProof.PassesOwn
import PyProof.RulesAs
import PyProof.ExcClass3
import PyProof.Rows.CatchOwn
import OpenK.KMake
import OpenK.KWalk
import PyProof.InstStoreFacts
import PyProof.ExcBaseAll.ValueError
import PyProof.RangeIter
import OpenK.KRaise
import PyProof.NsDelKeeps
import KE.KIsAll
import PyProof.P3In
import PyProof.NeData
import PyProof.ExcArgs
import KE.KSortTup
import PyProof.CompUse
import KE.KRevIter
import PyProof.TupleOfGen
import PyProof.CollectIter
import PyProof.ListMulRoad
import PyProof.Draws
import PyProof.EnumMake
import PyProof.ListNew
import PyProof.AttrMissHeap
import PyProof.FactsAll.dict
import KE.KEqDict
import PyProof.FactsAll.zip
import PyProof.StrBlockH
import PyProof.MeetsStr2
import KE.KIntText
import PyProof.Rows.FStr
import PyProof.ReprLen
import PyProof.SumAny
import PyProof.Rows.SeqCalls
import PySem.SetOps
import PyProof.TupleKey
import PyProof.SetKind
import PyProof.IsRules
import PyProof.Rows.SetFrom
import PyProof.WalksMore
import PyProof.TupleIter
import KE.KDictSum
import PyProof.RulesTry
import PySem.Challenge.RW_thinnet_k31_tree_papers
open PySem.W (Frag nsIn keepIn fnOf codeIn mg_of mg_none_of)
set_option Elab.async false
set_option linter.all false
set_option maxRecDepth 100000
open Array renaming getElem?_eq_getElem->ie,length_toList->i5,getElem?_eq_some_iff->kL,getElem?_eq_none->kr,toArray_toList->nB
open Array.Perm renaming refl->mn
open Bool renaming and_eq_true->gP,false_ne_true->gR,eq_false_iff->h9,false_eq_true->iA,eq_iff_iff->iK,not_eq_true'->mP,true_and->nE
open Classical renaming byContradiction->jb,propDecidable->jn,not_forall->lT
open False renaming elim->g8
open ForInStep renaming yield->ju
open Int renaming toNat_natCast->jX,le_refl->ku,mul_le_mul_of_nonneg_left->lU
open List renaming length_map->No,getElem?_eq_getElem->On,mem_cons_self->Op,mem_singleton->Sc,mem_cons_of_mem->TM,mem_map->Tk,mem_cons->T0,length_append->XV,replicate->ZB,mem_append->eq,size_toArray->f_,mem_append_right->gA,length_cons->gB,getElem?_eq_some_iff->gC,length_singleton->gD,not_mem_nil->gJ,append_nil->gK,getElem?_map->gM,mem_append_left->gQ,append_assoc->gS,map_append->gU,nodup_cons->gX,toArray->gg,range->gi,nodup_nil->gl,nodup_append->gm,getElem_mem->gn,getD_eq_getElem?_getD->gp,length_filter_le->gs,nil_append->gu,map_cons->g9,length_nil->hX,pairwise_cons->iF,Nodup->iH,drop_eq_getElem_cons->iO,length_reverse->iQ,mem_of_getElem?->iV,getElem?_append_right->iW,mem_filter->ia,length_set->iz,zipWith->i6,all_eq_true->i7,any_eq_true->i8,cons_ne_nil->i9,mem_range->i_,map_map->jG,lookup_cons->jM,lookup->jO,getElem?_append_left->jZ,mem_of_find?_eq_some->jc,lt_irrefl->je,drop_length->ji,mem_flatMap->jj,filterMap_cons->jl,of_mem_zip->jr,length->jy,reverse_cons->j3,pairwise_map->j5,mem_iff_getElem?->j9,take_append_drop->kC,mem_iff_getElem->kH,all_cons->kN,perm_ext_iff_of_nodup->kO,filter_map->kR,zip_cons_cons->kW,getElem?_replicate->kg,length_eq_zero_iff->kh,range_succ_eq_map->ko,length_take->k7,take_length->k9,mem_reverse->lA,getElem?_zipWith->lB,getElem?_eq_none->lC,singleton_append->lD,getElem?_set_ne->lG,forIn_cons->lI,length_zip->lO,mem_of_mem_drop->lP,find?_some->lQ,getLast?_eq_some_getLast->lV,length_zipWith->lY,map_congr_left->lf,map_id->ln,mem_filterMap->lq,filterMap_map->lr,append_of_mem->l9,take_sublist->mI,getElem?_set->mN,length_range->mQ,cons_eq_cons->mR,getElem?_cons_succ->mi,pairwise_singleton->mj,getElem?_set_self->mq,take_of_length_le->my,length_replicate->mz,drop_zero->m6,getElem?_reverse->m7,map_nil->nN
open List.Sublist renaming refl->mT
open Nat renaming le_refl->Re,zero_le->f8,le_trans->gG,ne_of_lt->gO,lt_of_lt_of_le->gW,lt_irrefl->gv,le_succ->g_,lt_succ_of_lt->iy,ne_of_gt->jC,lt_of_le_of_lt->jR,le_sub_of_add_le->jd,not_lt->ke,min_le_right->k8,le_of_lt->mU,succ_le_succ->mX,le_of_eq->mY,le_add_right->me,sub_self->mh,min_eq_left->mo,ble->m9,mod_lt->nC
open Ne renaming symm->g0
open Option renaming map_eq_some_iff->iE,some_beq_some->lR,isSome_map->mM
open Option.some renaming inj->gH
open Or renaming inl->TW,inr->iI
open PyProof.Rows renaming slot_tuple_getitem->gk,callWith_type1->h_,boot_tuple->jF,boot_all->jU,listUpdate_at->jW,get?_update_seq->jw,boot_sorted->j2,AllBare->j6,IsTup->kc,listItems_at->lN,entry_tuple_getitem->lW,seqEpoch_at->lm,args_tuple_getitem->lu,lt_int->mr
open PyProof.Rows.KeyOrd renaming kle_refl->ig,kle_of_klt->ki,kle_trans->k_,kle_antisymm->nH
open PySem renaming wpAny_bind->Ch,Addr->Db,Value->Ev,Shared->Go,wpAny_pure->Rs,Heap->gI,Program->gN,World->gY,Expr->gZ,Around->gc,Stmt->gf,wpAny_field->gj,wpAny_mono->gq,wpAny_holding->gw,FuncData->gy,sizeLine_eq->gz,wpAny_Call_Name_kw->hU,wpAny_newObj_type->hZ,wpAny_loadPart_at->h8,codeAny_builtin->iB,wpAny_callSpecial?_slot->iC,wpAny_isSubtype_exc->iG,plainId_quiet->iJ,wpAny_loadPart'->iM,wpAny_call_entry->iN,builtinLookup_eq_fast->iR,wpAny_of_eq->iX,wpAny_seqItems->iY,wpAny_pyIter_list->iZ,wpAny_pyIter_tuple->ii,IsPair->ip,Builtin->ir,wpAny_truthy_bool->iw,Scope->jB,wpAny_specialOf->jE,typeLookup_type->jH,wpAny_attempt->jK,NameKind->jL,wpAny_setField->jN,wpAny_call->jP,wpAny_typeOf->jQ,wpAny_setField_rec->jS,wpAny_passesOwn->jT,codeAny_mono->jg,wpAny_getItem_str_slice->jm,wpAny_execs_nil->jq,tupleKind_room_in1->jt,wpAny_updateSeq->jx,wpAny_letGo->jz,IsZip->j4,isSubtype_type->j_,codeAny_call_builtin->kE,wpAny_rule->kF,wpAny_isInstance->kG,ExceptHandler->kM,codeAny_of_tree->kQ,PassesOwn->kT,PyData->kU,Keyword->kd,wpAny_onRaise->k6,plainObj_wpAny_Assign_Attribute->lE,IsPart->lH,post_val_or_str->lK,wpAny_updateSeq_pair->lL,BindsTo->lg,wpAny_tryCatch->li,ItemsOf->lj,SetTable->ll,wpAny_standAt->mB,wpAny_newFunctionEnv_cells->mC,wpAny_newList->mG,wpAny_sequenceKey->mJ,slot_list_getitem->mL,object_init_meets->mS,wpAny_execs_cons->mV,noFill_tuple_add->mW,wpAny_madeBy_exc->mZ
open PySem.Around renaming under_plainId->iD,frames_deeper->m_
open PySem.Builtin.Builtins renaming bindParams->l8
open PySem.Builtin.List renaming listExtendWith->iT,listLengthHint->iU,listTooLong->jh,listSameRef->jk
open PySem.Builtin.ObjectAttr renaming storeInDict->lJ
open PySem.Builtin.Slice renaming slicePlaces->ic,sliceAdjust->ja,sliceApplied->mE
open PySem.Builtin.SmallTypes renaming nextOf->iP,ownedTupleIsFree->iu,ownedTupleHandOut->kX
open PySem.Builtin.Tuple renaming tupleExact->im,tupleItemsOf->kJ,tupleIsExact->mF
open PySem.Calls renaming spliced_cons->ij,spliced_nil->jI,callWith_builtin->kn,Name_function_global->l_,evalArgs_plain->nA
open PySem.Code renaming quiet_builtin->jv
open PySem.EntryCells renaming newEntry->nF
open PySem.Expr renaming Call->kY
open PySem.F renaming slot_tuple_iterator_next->jV,called_tuple->kA,args_object_init_2->kI,plain_list_iadd->kj,plain_tuple_new->km,slot_zip_next->lM,plain_reversed_new->lS,plain_extend_loop->lZ,entry_object_init->lc,args_tuple_iterator_next_1->lh,entry_tuple_iterator_next->lz
open PySem.Heap renaming get?_push_of_some->FM,get?_push_size->UF,lt_size->Uf,get?_update_other->gF,get?_update_self->g7,size_push->iq,SameBut->jf,get?_update_ne->kP,IsTuple->md,ExtBut->mw,IsList->mx
open PySem.Heap.ExtBut renaming push->nO
open PySem.Heap.IsSliceOf renaming new->nL
open PySem.Heap.SameBut renaming update->lX
open PySem.Heap.UpToSlots renaming refl->nG
open PySem.NameKind renaming free->h7,cell->kz
open PySem.Obj renaming mapSeq->hV,data_mapFields->io,mapFields->jJ,isFreed_of_fields->j7
open PySem.PassesOwn renaming never->gL
open PySem.PyData renaming eqv->iL,depthAll->iS,canLayAll0->jY,hasDict->j8,eqvAll->mH,hasDictAll->mO,leavesShortAll->m8
open PySem.SeqAt.EqAt renaming int_str->nI,str_int->nJ
open PySem.Shared renaming heap->j1
open PySem.Str renaming ofString->ik
open PySem.Value renaming ref->gE,none->gh,builtin->jo,type->jp,bool->lF
open Sum renaming inr->i4,inl->kZ
open Sum.inr renaming inj->jA
open True renaming intro->jD
open PySem PySem.Spec PyProof.Rows
local macro_rules | `(tactic| walk_at "s")=>`(tactic| (constructor <;> first | rfl | decide +kernel))
namespace _p

local macro_rules|`(tactic|let#[$x,*]:=$e)=>open Lean Parser Tactic in do
 let q k a:=mkNode ``rcasesPatLo #[mkNode ``rcasesPatMed #[mkNullNode #[mkNode k a]],mkNullNode]
 let p:Syntax:=(← `(term|⟨$x,*⟩)).raw.rewriteBottomUp fun s=>if s.isIdent then q ``rcasesPat.one #[s] else if s.getKind= ``Term.hole then q ``rcasesPat.ignore s.getArgs else if s.getKind= ``Term.anonymousCtor||s.getKind= `«term#[_,]» then q ``rcasesPat.tuple s.getArgs else s
 let m:TSyntax ``rcasesPatMed:=⟨p[0]⟩
 `(tactic|obtain $m:rcasesPatMed:=$e)
local macro_rules|`(tactic|exists $x,*)=>`(tactic|refine⟨$x,*, ?_⟩)
local macro_rules|`(tactic|lk)=>`(tactic|omega)
local macro_rules|`(tactic|cbv)=>`(tactic|decide)
local macro_rules|`($f^$x)=>if f.raw.getTrailingSize>0 then Lean.Macro.throwUnsupported else match f with|`($g $a*)=>`($g $a* $x)|_=>`($f $x)
local macro_rules|`(#[%$t $y,*])=>if t.getTrailingSize>0||y.getElems.size=0 then Lean.Macro.throwUnsupported else `(⟨$y,*⟩)
open Option renaming some->P3,none->p_
open Bool renaming true->q_,false->r_
abbrev s_(a:Type u):=List a
abbrev t_(a:Type u):=Option a
namespace L2
abbrev Key:=Sum Int Str
def L1:Key->Ev->Bool
 |.inl k,v=>Value.isInt k v
 |.inr x,v=>Value.isStrOf x v
def eO(w:gY):Key->Int
 |.inl k=>hashInt k
 |.inr x=>hashStr w x
theorem Be:∀{k:Key}{v:Ev},L1 k v=q_->(∃i t,k=kZ i/\v=Value.int i t)\/(∃x t,k=i4 x/\v=Value.str x t)
 |.inl i,v,h=>by
  let#[t,e]:=Value.isInt_shape h;exact .inl #[i,t,rfl,e]
 |.inr x,v,h=>by
  let#[t,e]:=Value.isStrOf_shape h;exact .inr #[x,t,rfl,e]
def TQ(i:Int)(t:Tok):L1 (.inl i)^.int i t=q_:=by simp[L1,Value.isInt]
def TN(x:Str)(t:Tok):L1 (.inr x)^.str x t=q_:=by simp[L1,Value.isStrOf]
def Z1(a b:Int):decide ((kZ a:Key)=kZ b)=(a==b):=by
 grind
def Zy(a b:Str):decide ((i4 a:Key)=i4 b)=decide (a=b):=by
 grind
def Z0(a:Int)(b:Str):decide ((kZ a:Key)=i4 b)=r_:=decide_eq_false λq=>nomatch q
def Zz(a:Str)(b:Int):decide ((i4 a:Key)=kZ b)=r_:=decide_eq_false λq=>nomatch q
def BU(c:gN)(w:gY):PySem.KeyKind c w Key where
 is:=L1
 hash:=eO w
 inj:=λv a b l g=>by
  rcases Be l with⟨i,t,rfl,rfl⟩|⟨x,t,rfl,rfl⟩
  .rcases Be g with⟨j,u,rfl,e⟩|⟨y,u,rfl,e⟩
   .injection e with d _;rw[d]
   .exact nomatch e
  .rcases Be g with⟨j,u,rfl,e⟩|⟨y,u,rfl,e⟩
   .exact nomatch e
   .injection e with d _;rw[d]
 byValue:=λk v h=>by
  rcases Be h with⟨i,t,rfl,rfl⟩|⟨x,t,rfl,rfl⟩ <;>rfl
 pyHash:=λf h=>by
  rcases Be f with⟨i,t,rfl,rfl⟩|⟨x,t,rfl,rfl⟩
  .exact wpAny_pyHash_int h
  .exact wpAny_pyHash_str h
 eqBool:=λm f h=>by
  rcases Be m with⟨i,t,rfl,rfl⟩|⟨x,t,rfl,rfl⟩
  .rcases Be f with⟨j,u,rfl,rfl⟩|⟨y,u,rfl,rfl⟩
   .rw[Z1]at h;exact wpAny_eqBool_int h
   .rw[Z0]at h;exact nI i t y u _ _ _ _ h
  .rcases Be f with⟨j,u,rfl,rfl⟩|⟨y,u,rfl,rfl⟩
   .rw[Zz]at h;exact nJ x t j u _ _ _ _ h
   .rw[Zy]at h;exact wpAny_eqBool_str h
 «strs»:=λk x t v h=>by
  rcases Be h with⟨i,u,rfl,e⟩|⟨y,u,rfl,e⟩
  .exact nomatch e
  .injection e with d _
   subst d
   cases v <;>rfl
def Oe(a:gN)(w:gY)(i:Int)(t:Tok):(BU a w).is (.inl i)^.int i t=q_:=TQ i t
def Od(a:gN)(w:gY)(x:Str)(t:Tok):(BU a w).is (.inr x)^.str x t=q_:=TN x t
inductive V where
 |non|bl (b:Bool)|int (i:Int)|str (x:Str)|byt (b:Array UInt8)|flt (b:UInt64)|ref (a:Db)|ty (n:String)
 deriving DecidableEq
def RelV:V->Ev->Prop
 |.non,u=>u=gh
 |.bl b,u=>u=lF b
 |.int i,u=>∃t,u=Value.int i t
 |.str x,u=>∃t,u=Value.str x t
 |.byt b,u=>∃t,u=Value.bytes b t
 |.flt b,u=>∃t,u=Value.float b t
 |.ref a,u=>u=gE a
 |.ty n,u=>u=jp n
abbrev Vals:s_ V->s_ Ev->Prop:=Paired RelV
def Vals.length{a:s_ V}{b:s_ Ev}(r:Vals a b):a.length=b.length:=Paired.length r
theorem Vals.get:∀{a:s_ V}{b:s_ Ev}{i:Nat}{x:V},Vals a b->a[i]?=P3 x->∃u,b[i]?=P3 u/\RelV x u
 |_,_,_,_,.nil,e=>by simp at e
 |_,_,0,_,.cons r _,e=>by simp_all
 |_,_,i+1,x,.cons _ t,e=>by
  let#[u,c,d]:=Vals.get t^by simpa using e
  simp_all
theorem Vals.set{x:V}{u:Ev}(r:RelV x u):∀{a:s_ V}{b:s_ Ev} (i:Nat),Vals a b->Vals (a.set i x)^b.set i u
 |_,_,_,.nil=>.nil
 |_,_,0,.cons _ t=>.cons r t
 |_,_,i+1,.cons q t=>.cons q^Vals.set r i t
theorem Vals.append:∀{a b:s_ V}{c d:s_ Ev},Vals a c->Vals b d->Vals (a++b) (c++d)
 |_,_,_,_,.nil,s=>s
 |_,_,_,_,.cons r t,s=>.cons r^Vals.append t s
theorem Vals.take:∀{a:s_ V}{b:s_ Ev} (n:Nat),Vals a b->Vals (a.take n)^b.take n
 |_,_,0,_=>.nil
 |_,_,_+1,.nil=>.nil
 |_,_,n+1,.cons r t=>.cons r^Vals.take n t
theorem Vals.drop:∀{a:s_ V}{b:s_ Ev} (n:Nat),Vals a b->Vals (a.drop n)^b.drop n
 |_,_,0,r=>r
 |_,_,_+1,.nil=>.nil
 |_,_,n+1,.cons _ t=>Vals.drop n t
def RelO:t_ V->t_ Ev->Prop
 |some v,P3 u=>RelV v u
 |none,p_=>True
 |_,_=>False
def KV{a:Type}:s_ (a×V)->s_ (a×Ev)->Prop:=Paired fun(p:a×V) (q:a×Ev)=>p.1=q.1/\RelV p.2 q.2
def kV:Key->V
 |.inl i=>.int i
 |.inr x=>.str x
inductive HO where
 |lst (xs:List V)
 |tup (xs:List V)
 |dK (kvs:List (Key×V))|dT (kvs:List (List Key×V))
 |set (S:Int->Bool) (n:Nat)
 |ins (C dx:Db) (fs:List (Str×V))
 |own (x:Db)
 |xd (fs:List (Str×V))
 |met (f x:Db)
 |rng (lo hi:Int)
 |frz (o:Obj) (u:HO)
 |tbl (ps:Array Ev)
 |ext (φ:gI->Prop)
abbrev Hp:=Db->t_ HO
def A5(H:Hp)(a:Db)(o:HO):Hp:=λb=>if b=a then P3 o else H b
def Af{H:Hp}{a:Db}{o:HO}:A5 H a o a=P3 o:=by unfold A5;grind
def AS{H:Hp}{a b:Db}{o:HO}(h:b≠a):A5 H a o b=H b:=by unfold A5;rw[if_neg h]
def b9{H:Hp}{a b:Db}{o u:HO}(h:H a=P3 o)(c:H b=P3 u)(d:o≠u):a≠b:=by
 grind
def A6{H:Hp}{a b:Db}{o:HO}(h:H a=P3 o)(c:H b=p_):a≠b:=by
 grind
def IsTupN(h:gI)(a:Db)(b:Array Ev):Prop:=∃o,h.get? a=P3 o/\o.cls=.type "tuple"/\∃n,o.data=.seq b n/\o.dict=p_/\o.slots=#[]
def IsTupN.tup{h:gI}{a:Db}{b:Array Ev}(x:IsTupN h a b):kc h a b:=let #[o,c,d,n,e,_]:=x;#[o,c,d,n,e]
def IsTupN.new(h:gI)(a:Array Ev):IsTupN (h.push {cls:=.type "tuple",data:=.seq a}) h.objs.size a:=#[_,UF _ rfl,rfl,_,rfl,rfl,rfl]
section
variable (P:Program)(w:World)
def ObjOk(H:Hp)(h:gI)(a:Db):HO->Prop
 |.lst d=>d.length<=sizeLine/\∃(b:s_ Ev) (n:Nat),Vals d b/\h.get? a=P3 {cls:=.type "list",data:=.seq b.toArray n}
 |.tup d=>d.length<=sizeLine/\∃b:s_ Ev,Vals d b/\IsTupN h a b.toArray
 |.dK c=>c.length<=sizeLine/\(a==sysModules)=r_/\∃k,KV c k/\h.DictOf (BU P w) a k
 | .dT c=>c.length<=sizeLine/\(a==sysModules)=r_/\∃d:s_ (s_ Key×Db×Ev),
   Paired (fun(p:s_ Key×V) (q:s_ Key×Db×Ev)=>p.1=q.1/\H q.2.1=P3^.tup^p.1.map kV/\RelV p.2 q.2.2) c d /\
   ∃o l y,h.get? a=P3 o/\o.ExactDict/\o.data=.dict l y/\l.toList=d.map^entryOfKey^tupleKind^BU P w/\(d.map (·.1)).Nodup
 |.set S n=>h.SetOf (intKind P w) a S n
 | .ins C i g=>H i=P3^.own a/\g.length<=1000/\i≠a/\h.get? a=P3^PySem.W.instObj C i /\
   ∃e,h.Ns1 i e/\(∀f,RelO (g.lookup f)^e f)/\PySem.Within e (g.map (·.1))
 |.own _=>∃o,h.get? a=P3 o
 |.xd g=>∃e,h.Ns1 a e/\∀f,RelO (g.lookup f)^e f
 |.rng z A=>∃t u v,h.get? a=P3 {cls:=.type "range",data:=.fields #[ .int z t,.int A u,.int 1 v]}
 |.frz o u=>h.get? a=P3 o/\ObjOk H h a u
 |.tbl B=>h.get? a=P3 {cls:=.none,data:=.fields B}
 |.met f x=>h.get? a=P3^PySem.W.methodObj (.ref f)^.ref x
 |.ext j=>j h/\(∃o,h.get? a=P3 o)/\∀m r:gI,j m->(∀o,m.get? a=P3 o->r.get? a=P3 o)->j r
def HOk(H:Hp)(h:gI):Prop:=∀a o,H a=P3 o->ObjOk P w H h a o
end
section
variable {P:Program}{w:World}{H H':Hp}{h h':Heap}{a:Addr}{o:HO}
def ObjOk.lt(x:ObjOk P w H h a o):a<h.objs.size:=by
 cases o with
 |lst c=>let#[_,_,_,_,e]:=x;exact Uf e
 |tup c=>let#[_,_,_,p]:=x;exact p.tup.lt
 |dK b=>let#[_,_,_,_,o,_,_,e,_]:=x;exact Uf e
 |dT b=>let#[_,_,_,_,o,_,_,e,_]:=x;exact Uf e
 |set S n=>let#[o,_,_,_,e,_]:=x;exact Uf e
 |ins C g d=>let#[_,_,_,e,_]:=x;exact Uf e
 |own y=>let#[_,e]:=x;exact Uf e
 |xd d=>let#[_,#[_,_,_,e,_],_]:=x;exact Uf e
 |rng i j=>let#[_,_,_,e]:=x;exact Uf e
 |frz k u=>let#[e,_]:=x;exact Uf e
 |tbl l=>exact Uf (show h.get? a=P3 _ from x)
 |met f y=>exact Uf (show h.get? a=P3 _ from x)
 |ext m=>let#[_,#[_,e],_]:=x;exact Uf e
theorem Paired.mapP{e g:Type}{F G:e->g->Prop}:∀{c:s_ e}{d:s_ g},Paired F c d->(∀a b,F a b->G a b)->Paired G c d
 |_,_,.nil,_=>.nil
 |_,_,.cons r t,f=>.cons (f _ _ r)^Paired.mapP t f
def ObjOk.stay(x:ObjOk P w H h a o)(k:∀b u,(b=a\/H b=P3^.own a)->h.get? b=P3 u->h'.get? b=P3 u)
  (F:∀b,H b=P3^.own a->H' b=P3^.own a) (G:∀b m,H b=P3^.tup m->H' b=P3^.tup m):ObjOk P w H' h' a o:=by
 induction o with
 |lst m=>let#[z,l,n,r,e]:=x;exact#[z,l,n,r,k _ _ (.inl rfl) e]
 |tup m=>let#[z,l,r,g,e,c]:=x;exact#[z,l,r,g,k _ _ (.inl rfl) e,c]
 |dK s=>let#[z,y,I,r,g,i,j,e,c]:=x;exact#[z,y,I,r,g,i,j,k _ _ (.inl rfl) e,c]
 |dT s=>
  let#[z,y,m,r,g,i,j,e,c]:=x;exact#[z,y,m,Paired.mapP r λp q z=>#[z.1,G _ _ z.2.1,z.2.2],g,i,j,k _ _ (.inl rfl) e,c]
 |set S n=>let#[g,i,j,t,e,c]:=x;exact#[g,i,j,t,k _ _ (.inl rfl) e,c]
 |ins C N J=>
  let#[d,z,K,e,A,#[B,i,j,L,c],r]:=x;exact#[F _ d,z,K,k _ _ (.inl rfl) e,A,#[B,i,j,k _ _ (.inr d) L,c],r]
 |own y=>let#[g,e]:=x;exact#[g,k _ _ (.inl rfl) e]
 |xd J=>let#[A,#[B,i,j,e,c],r]:=x;exact#[A,#[B,i,j,k _ _ (.inl rfl) e,c],r]
 |rng O Q=>let#[t,u,v,e]:=x;exact#[t,u,v,k _ _ (.inl rfl) e]
 |frz g u M=>let#[e,q]:=x;exact#[k _ _ (.inl rfl) e,M q]
 |tbl D=>
  have e:h.get? a=P3 {cls:=.none,data:=.fields D}:=x;show h'.get? a=P3 {cls:=.none,data:=.fields D};exact k a _ (.inl rfl) e
 |met f y=>
  have e:h.get? a=P3^PySem.W.methodObj (.ref f)^.ref y:=x;show h'.get? a=P3^PySem.W.methodObj (.ref f)^.ref y;exact k a _ (.inl rfl) e
 |ext R=>let#[p,#[o,e],E]:=x;exact#[E _ _ p λo q=>k _ _ (.inl rfl) q,#[o,k _ _ (.inl rfl) e],E]
def HOk.lt(x:HOk P w H h)(e:H a=P3 o):a<h.objs.size:=(x a o e).lt
def HOk.fresh(x:HOk P w H h)(e:h.objs.size<=a):H a=p_:=by
 cases q:H a with
 |none=>rfl
 |some u=>exact absurd (gW (x.lt q) e)^gv _
def HOk.kept(x:HOk P w H h)(k:∀b u,h.get? b=P3 u->h'.get? b=P3 u):HOk P w H h':=λa o e=>
 (x a o e).stay (λb u _ q=>k b u q) (λ_ q=>q) λ_ _ q=>q
def HOk.laid(x:HOk P w H h)(k:∀b u,h.get? b=P3 u->h'.get? b=P3 u)(g:h.objs.size<=a)(new:ObjOk P w (A5 H a o) h' a o):HOk P w (A5 H a o) h':=λb u e=>by
 have d:=x.fresh g
 by_cases f:b=a
 .subst f;rw[Af]at e;grind
 .rw[AS f]at e
  exact(x b u e).stay (λc v _ q=>k c v q) (λc q=>by rw[AS^A6 q d];exact q) λc i q=>by rw[AS^A6 q d];exact q
end
def Rd(H:Hp)(a:Db)(u:HO):Prop:=H a=P3 u\/∃o,H a=P3^.frz o u
def Rd.ok{P:gN}{w:gY}{H:Hp}{h:gI}{a:Db}{u:HO}(r:Rd H a u)(x:HOk P w H h):ObjOk P w H h a u:=by
 rcases r with r|⟨o,r⟩
 .exact x a u r
 .let#[_,q]:=x a _ r
  exact q
def c9:t_ HO->Prop
 |some (.lst _)=>True
 |some (.dK _)=>True
 |some (.dT _)=>True
 |some (.set _ _)=>True
 |some (.ins _ _ _)=>True
 |some (.ext _)=>True
 |_=>False
section
variable {P:Program}{w:World}{H:Hp}{h h':Heap}{x e:Addr}{o':HO}
def HOk.write(ok:HOk P w H h)(f:c9^H x)(o:e=x\/H e=P3^.own x)(k:∀b u,b≠e->h.get? b=P3 u->h'.get? b=P3 u)(i:∃u,h'.get? e=P3 u)
  (new:ObjOk P w (A5 H x o') h' x o'):HOk P w (A5 H x o') h':=λb u q=>by
 have a:∀c y,H c=P3^.own y->c≠x:=λc y r z=>by subst z;rw[r]at f;exact f
 have d:∀c g,H c=P3^.tup g->c≠x:=λc g r z=>by subst z;rw[r]at f;exact f
 by_cases l:b=x
 .subst l;rw[Af]at q;cases q;exact new
 .rw[AS l]at q
  by_cases j:b=e
  .have m:H b=P3^.own x:=by
    grind
   rw[q]at m;cases m
   let#[v,n]:=i;exact#[v,by rw[j];exact n]
  .refine(ok b u q).stay (λc v p r=>k c v ?_ r) (λc r=>by rw[AS^a c b r];exact r) λc g r=>by rw[AS^d c g r];exact r
   grind
end
structure Un (fs ex:List Db) (H H':Hp) (h h':gI):Prop where
 keep:∀b o,h.get? b=P3 o->H b=p_->b∉fs->b∉ex->h'.get? b=P3 o
 slot:∀b o,h.get? b=P3 o->H b=p_->b∈fs->b∉ex->∃sl,h'.get? b=P3 {o with slots:=sl}
 free:∀b o,h.get? b=P3 o->H b=p_->b∉ex->H' b=p_
 there:∀b o,h.get? b=P3 o->b∉ex->∃o',h'.get? b=P3 o'
 tups:∀b xs,H b=P3^.tup xs->H' b=P3 (.tup xs)
 frzs:∀b o u,H b=P3^.frz o u->H' b=P3 (.frz o u)
 tbls:∀b ps,H b=P3^.tbl ps->∃more,H' b=P3^.tbl (ps++more)
section
variable {fs ex:s_ Addr}{H H1 H2:Hp}{h h1 h2 h':Heap}{a x e:Addr}{o:HO}
def Un.any(u:Un fs ex H H1 h h1){b:Db}{c:Obj}(q:h.get? b=P3 c)(n:H b=p_)(hx:b∉ex):∃e,h1.get? b=P3 {c with slots:=e}:=by
 by_cases d:b∈fs
 .exact u.slot b c q n d hx
 .exact#[_,u.keep b c q n d hx]
def Un.trans(a:Un fs ex H H1 h h1)(b:Un fs ex H1 H2 h1 h2):Un fs ex H H2 h h2 where
 keep:=λc d q n g e=>b.keep c d (a.keep c d q n g e) (a.free c d q n e) g e
 slot:=λc d q n g e=>by
  let#[p,f]:=a.slot c d q n g e;let#[l,k]:=b.slot c _ f (a.free c d q n e) g e;exact#[_,k]
 free:=λc d q n e=>by
  let#[j,f]:=a.there c d q e;exact b.free c j f (a.free c d q n e) e
 there:=λc d q e=>by
  let#[j,f]:=a.there c d q e;exact b.there c j f e
 tups:=λc i q=>b.tups c i (a.tups c i q)
 frzs:=λc d i q=>b.frzs c d i (a.frzs c d i q)
 tbls:=λc m q=>by
  let#[r,f]:=a.tbls c m q;let#[s,k]:=b.tbls c _ f
  grind
def Un.kept(k:∀b u,h.get? b=P3 u->h'.get? b=P3 u):Un fs ex H H h h':=
 #[λb c q _ _ _=>k b c q,λb c q _ _ _=>#[_,k b c q],λ_ _ _ n _=>n,λb c q _=>#[c,k b c q],λ_ _ q=>q,λ_ _ _ q=>q,λ_ d q=>#[#[],by rw[q];simp]]
def Un.refl:Un fs ex H H h h:=Un.kept λ_ _ q=>q
def Un.laid(k:∀b u,h.get? b=P3 u->h'.get? b=P3 u)(d:h.objs.size<=a)(c:H a=p_):Un fs ex H (A5 H a o) h h' where
 keep:=λb u q _ _ _=>k b u q
 slot:=λb u q _ _ _=>#[_,k b u q]
 free:=λb u q n _=>by rw[AS^gO^gW (Uf q) d];exact n
 there:=λb u q _=>#[u,k b u q]
 tups:=λb e q=>by rw[AS^A6 q c];exact q
 frzs:=λb u e q=>by rw[AS^A6 q c];exact q
 tbls:=λb f q=>#[#[],by rw[AS^A6 q c,q];simp]
def Un.write(f:c9^H x)(m:e=x\/H e=P3^.own x)(k:∀b u,b≠e->h.get? b=P3 u->h'.get? b=P3 u)(i:∃u,h'.get? e=P3 u):Un fs ex H (A5 H x o) h h':=by
 have j:∀b,H b=p_->b≠x:=λb n z=>by subst z;rw[n]at f;exact f
 have g:∀b,H b=p_->b≠e:=λb n z=>by
  grind
 have c:∀b u,H b=P3 u->¬c9^P3 u->b≠x:=λb u q p z=>by grind
 refine#[λb u q n _ _=>k b u (g b n) q,λb u q n _ _=>#[u.slots,k b u (g b n) q],λb u q n _=>by rw[AS^j b n];exact n,λb u q _=>?_,
  λb l q=>by rw[AS^c b _ q λz=>z];exact q,λb u l q=>by rw[AS^c b _ q λz=>z];exact q,λb r q=>#[#[],by rw[AS^c b _ q λz=>z,q];simp]]
 by_cases d:b=e
 .simp_all
 .exact#[u,k b u d q]
end
def fX(h:gI)(H:Hp):s_ Db:=(gi h.objs.size).filter λa=>(H a).isSome
def NE(h:gI)(H:Hp):gI:=PySem.W.hideAll h^fX h H
def TV(h:gI)(H:Hp):(NE h H).objs.size=h.objs.size:=PySem.W.hideAll_size _ _
def Vs{h:gI}{H:Hp}{b:Db}{o:Obj}(e:h.get? b=P3 o)(n:H b=p_):(NE h H).get? b=P3 o:=
 PySem.W.hideAll_get _ e λa=>by
  have q:=(ia.mp a).2
  grind
def Xe{h:gI}{H:Hp}{b:Db}{o:Obj}(e:(NE h H).get? b=P3 o):h.get? b=P3 o/\H b=p_:=by
 have a:=PySem.W.of_hideAll _ e;exists a;cases q:H b with
 |none=>rfl
 |some x=>
  have z:(NE h H).get? b=p_:=PySem.W.hideAll_none _^ia.mpr #[i_.mpr^Uf a,by simp[q]]
  grind
structure Mod (K:Frag) (mg:Str->Option Ev) (base:gI):Prop where
 kin:K.In base
 glob:base.Ns mainGlobals mg
 blt:∃mb,base.Ns builtinsNs mb/\∀x:Str,x ≠ "__name__"->mb x=bootBuiltins x
 nolimit:base.NoLimit
/-- the context:a def's body (or a comprehension's block) running. base:fixed through the whole law;s₀,H₀:the entry;outer:the frames whose slots others may change (a def's callers);stack:all frames that run;
   ex:iterators that were made ahead of the entry and are walked here^a comprehension's;fn:the names whose cells were made at the entry (a def:all;a comprehension's block:its own);calm:not within an except suite;pn:zH that every state bears;xe:what is wanted of an exception that leaves the code -/
structure Cx where
 prog:gN
 w:gY
 K:Frag
 mg:Str->Option Ev
 base:gI
 A:gc
 N:List Str
 s₀:Go
 H₀:Hp
 env:Env
 outer:List Env
 stack:List Env
 ex:List Db
 fn:Str->Bool
 calm:Bool
 pn:List (Db×Obj)
 xe:Ev->Go->Prop
def L8(l:s_ Env):s_ Db:=l.filterMap (·.frame)
abbrev Cx.fs(X:Cx):s_ Db:=L8 X.outer
def Tz(a:jB)(x:Str):Prop:=a.names.lookup x=P3 .local\/a.names.lookup x=P3 .cell\/a.names.lookup x=P3 .free
def Loc(a:jB)(x:Str):Prop:=a.names.lookup x=P3 .local\/a.names.lookup x=P3 .cell
def Look(a:Env)(h:gI)(m:Str->t_ Ev)(x:Str)(u:Ev):Prop:=
 (a.kindOf x=P3 .local/\m x=P3 u)\/((a.kindOf x=P3 .cell\/a.kindOf x=P3 .free)/\∃c,a.cells.lookup x=P3 c/\h.IsCell c^P3 u)
structure Cx.Ok (X:Cx):Prop where
 mod:Mod X.K X.mg X.base
 kind:X.env.scope.kind=.function
 glob:X.env.globals=mainGlobals
 blt:X.env.builtins=builtinsNs
 above:X.s₀.heap.objs.size<=X.env.locals
 inj:∀x y c,X.env.cells.lookup x=P3 c->X.env.cells.lookup y=P3 c->x=y
 has:∀x,(X.env.kindOf x=P3 .cell\/X.env.kindOf x=P3 .free)->∃c,X.env.cells.lookup x=P3 c
 cab:∀x c,X.fn x=q_->X.env.cells.lookup x=P3 c->X.s₀.heap.objs.size<=c
 hd:X.calm=q_->X.A.handled=p_
 frames:X.A.frames=P3 X.stack
 stk:X.stack=X.outer\/(X.stack=X.env::X.outer/\X.env.frame=P3 X.env.locals)
 exf:∀b∈X.ex,b≠X.env.locals/\∀x c,X.env.cells.lookup x=P3 c->c≠b
 bs:∀b o,X.base.get? b=P3 o->X.s₀.heap.get? b=P3 o/\X.H₀ b=p_
 bsz:X.base.objs.size<=X.s₀.heap.objs.size
 noex:∀b o,X.base.get? b=P3 o->b∉X.ex
 exfs:∀b∈X.ex,b∉X.fs
 funs:X.s₀.heap.FunFrames X.base X.outer
 frf:∀b∈X.fs,X.H₀ b=p_
structure Inv (X:Cx) (zH:List (Db×Obj)) (Z:List^Option V) (H:Hp) (s:Go):Prop where
 ok:X.Ok
 os:s.os=X.s₀.os
 bare:j6 s.gens
 base:Un X.fs X.ex X.H₀ H X.s₀.heap s.heap
 loc:∃m,s.heap.Ns X.env.locals m/\∀(i:Nat) (x:Str) (v:V),X.N[i]?=P3 x->Z[i]?=P3^P3 v->Tz X.env.scope x->∃u,RelV v u/\Look X.env s.heap m x u
 cell:∀x c,X.env.cells.lookup x=P3 c->∃v,s.heap.IsCell c v
 free:H X.env.locals=p_
 freeC:∀x c,X.env.cells.lookup x=P3 c->H c=p_
 pin:∀p∈X.pn++zH,s.heap.get? p.1=P3 p.2/\H p.1=p_/\p.1≠X.env.locals/\p.1∉X.fs/\∀v,p.2.data≠.cell v
 hok:HOk X.prog X.w H s.heap
 len:Z.length=X.N.length
section
variable {X:Cx}{zH:s_ (Addr×Obj)}{Z:s_^t_ V}{H H':Hp}{s:Shared}{h':Heap}
def Cx.Ok.nofr(ok:X.Ok){b:Db}{o:Obj}(e:X.base.get? b=P3 o):b∉X.fs:=λa=>by
 have:=(ok.funs.mem a).1
 grind
def Inv.bs(I:Inv X zH Z H s):∀b o,X.base.get? b=P3 o->s.heap.get? b=P3 o/\H b=p_:=λb o e=>
 #[I.base.keep b o (I.ok.bs b o e).1 (I.ok.bs b o e).2 (I.ok.nofr e)^I.ok.noex b o e,I.base.free b o (I.ok.bs b o e).1 (I.ok.bs b o e).2 (I.ok.noex b o e)]
def Inv.bk(I:Inv X zH Z H s):∀b o,X.base.get? b=P3 o->s.heap.get? b=P3 o:=λb o e=>(I.bs b o e).1
def Inv.mod(I:Inv X zH Z H s):Mod X.K X.mg X.base:=I.ok.mod
def Inv.kIn(I:Inv X zH Z H s):X.K.In s.heap:=I.ok.mod.kin.keeps I.bk
def Inv.lt(I:Inv X zH Z H s):X.env.locals<s.heap.objs.size:=let #[_,a,_]:=I.loc;a.lt
def Inv.sz(I:Inv X zH Z H s):X.s₀.heap.objs.size<=s.heap.objs.size:=gG I.ok.above^mU I.lt
def Inv.nofs(I:Inv X zH Z H s){a:Db}(h:s.heap.objs.size<=a):a∉X.fs:=λb=>by
 let#[_,o,c,_]:=I.ok.funs.mem b;exact absurd (gW (Uf c)^gG I.sz h)^gv _
def Inv.cne(I:Inv X zH Z H s):∀x c,X.env.cells.lookup x=P3 c->c≠X.env.locals:=λx c e z=>by
 let#[v,o,d,f]:=I.cell x c e;let#[m,#[g,h,i,a,b,_],_]:=I.loc
 grind
def Inv.funs(I:Inv X zH Z H s):s.heap.FunFrames X.base X.outer:=by
 have all:∀(l:s_ _),(∀b∈L8 l,b∈X.fs)->X.s₀.heap.FunFrames X.base l->s.heap.FunFrames X.base l:=by
  intro l
  induction l with
  |nil=>intro _ _;trivial
  |cons g r h=>
   intro d i;let#[j,#[L,o,f,k,m,n],p]:=i;have a:=d L (by unfold L8;simp_all);let#[q,e]:=I.base.slot L o m (I.ok.frf L a) a λz=>I.ok.exfs L z a;exact#[j,#[L,_,f,k,e,n],h (λb c=>d b^by unfold L8;rw[jl,f];exact TM _ c) p]
 exact all _ (λ_ c=>c) I.ok.funs
def Inv.stack(I:Inv X zH Z H s):s.heap.FunFrames X.base X.stack:=by
 rcases I.ok.stk with e|⟨e,a⟩
 .rw[e];exact I.funs
 .rw[e]
  let#[m,b,_]:=I.loc;exact .cons (by rw[I.ok.kind];decide) a b (Heap.get?_none_of_le^gG I.ok.bsz I.ok.above) I.funs
def Inv.stkSub(I:Inv X zH Z H s):∀b∈L8 X.stack,b∈X.env.locals::X.fs:=λb a=>by
 rcases I.ok.stk with e|⟨e,c⟩
 .grind
 .rw[e]at a
  unfold L8 at a;rw[jl,c]at a;exact a
def Inv.stkFree(I:Inv X zH Z H s):∀b∈L8 X.stack,H b=p_:=λb a=>by
 rcases T0.mp^I.stkSub b a with e|a
 .rw[e];exact I.free
 .let#[_,o,c,_]:=I.ok.funs.mem a
  exact I.base.free b o c (I.ok.frf b a) λz=>I.ok.exfs b z a
def Inv.step{g':Array GenState}{t':Nat}{d':Drawn}{ch:s_ Db}(I:Inv X zH Z H s)
  (f:∀b∈ch,(b∈X.ex\/X.s₀.heap.objs.size<=b)/\b≠X.env.locals/\(∀x c,X.env.cells.lookup x=P3 c->c≠b)/\∀p∈X.pn++zH,p.1≠b)
  (keep:∀b o,b≠X.env.locals->b∉X.fs->b∉ch->s.heap.get? b=P3 o->H b=p_->h'.get? b=P3 o)
  (y:∀b o,b≠X.env.locals->b∈X.fs->b∉ch->s.heap.get? b=P3 o->H b=p_->∃N,h'.get? b=P3 {o with slots:=N}) (free:∀b o,b∉ch->s.heap.get? b=P3 o->H b=p_->H' b=p_)
  (B:∀b o,b∉ch->s.heap.get? b=P3 o->∃E,h'.get? b=P3 E)
  (tups:∀b A,H b=P3^.tup A->H' b=P3^.tup A) (F:∀b o u,H b=P3^.frz o u->H' b=P3^.frz o u) (G:∀b M,H b=P3^.tbl M->∃J,H' b=P3^.tbl (M++J))
  (V:∀m,s.heap.Ns X.env.locals m->h'.Ns X.env.locals m) (O:HOk X.prog X.w H' h') (W:j6 g'):
  Inv X zH Z H' {s with heap:=h',gens:=g',drawn:=d',toks:=t'}:=by
 have K:∀b o,X.s₀.heap.get? b=P3 o->b≠X.env.locals:=λb o e=>gO^gW (Uf e) I.ok.above
 have j:∀b o,X.s₀.heap.get? b=P3 o->b∉X.ex->b∉ch:=λb o e a C=>by
  rcases(f b C).1 with z|z
  .exact a z
  .exact absurd (gW (Uf e) z)^gv _
 have g:∀x c,X.env.cells.lookup x=P3 c->∀v,s.heap.IsCell c v->h'.IsCell c v:=λx c e v #[o,D,P]=>by
  have h:c∉ch:=λz=>(f c z).2.2.1 x c e rfl
  by_cases R:c∈X.fs
  .let#[N,q]:=y c o (I.cne x c e) R h D^I.freeC x c e
   exact#[_,q,P]
  .exact#[o,keep c o (I.cne x c e) R h D^I.freeC x c e,P]
 refine#[I.ok,I.os,W,#[λb o e n C a=>?_,λb o e n C a=>?_,λb o e n a=>?_,λb o e a=>?_,λb A e=>tups b A^I.base.tups b A e,λb o A e=>F b o A^I.base.frzs b o A e,λb M e=>?_],?_,λx c e=>?_,?_,λx c e=>?_,λp S=>?_,O,I.len]
 .exact keep b o (K b o e) C (j b o e a) (I.base.keep b o e n C a)^I.base.free b o e n a
 .let#[N,t]:=I.base.slot b o e n C a
  let#[Q,L]:=y b _ (K b o e) C (j b o e a) t^I.base.free b o e n a;exact#[Q,L]
 .let#[E,t]:=I.base.there b o e a
  exact free b E (j b o e a) t^I.base.free b o e n a
 .let#[E,t]:=I.base.there b o e a
  exact B b E (j b o e a) t
 .let#[Y,t]:=I.base.tbls b M e
  let#[m2,L]:=G b _ t;exact#[Y++m2,by rw[L,Array.append_assoc]]
 .let#[m,hn,hl]:=I.loc
  refine#[m,V m hn,λi x v t L e3=>?_];let#[u,r,l]:=hl i x v t L e3;exists u,r
  rcases l with l|⟨k,c,e,z⟩
  .exact .inl l
  .exact .inr #[k,c,e,g x c e _ z]
 .let#[v,z]:=I.cell x c e
  exact#[v,g x c e v z]
 .let#[m,#[o,_,_,D,_],_]:=I.loc
  exact free _ o (λz=>(f _ z).2.1 rfl) D I.free
 .let#[v,o,D,P]:=I.cell x c e
  exact free c o (λz=>(f c z).2.2.1 x c e rfl) D^I.freeC x c e
 .let#[e,n,T,U,d]:=I.pin p S
  have h:p.1∉ch:=λz=>(f p.1 z).2.2.2 p S rfl;exact#[keep p.1 p.2 T U h e n,free p.1 p.2 h e n,T,U,d]
def Inv.un{t':Nat}(I:Inv X zH Z H s)(u:Un X.fs [] H H' s.heap h')(c:HOk X.prog X.w H' h'):Inv X zH Z H' {s with heap:=h',toks:=t'}:=by
 let#[m,#[o,l,p,f,r],_]:=id I.loc;let#[q,g]:=u.any f I.free^by simp
 exact I.step (ch:=[]) (λ_ z=>nomatch z) (λb o _ d _ e n=>u.keep b o e n d^by simp) (λb o _ d _ e n=>u.slot b o e n d^by simp) (λb o _ e n=>u.free b o e n^by simp) (λb o _ e=>u.there b o e^by simp) u.tups u.frzs u.tbls (λt h=>by
  let#[v,i,j,a,k]:=h;rw[f]at a;cases a
  exact#[_,_,_,g,k]) c I.bare
def Inv.call{i:Array GenState}{l:Nat}{q:Drawn}{j:s_ Db}(I:Inv X zH Z H s)(u:Un (L8 X.stack) j H H' s.heap h')(g:HOk X.prog X.w H' h')(t:j6 i)
  (d:∀b∈j,(b∈X.ex\/X.s₀.heap.objs.size<=b)/\b≠X.env.locals/\(∀x c,X.env.cells.lookup x=P3 c->c≠b)/\∀p∈X.pn++zH,p.1≠b):
  Inv X zH Z H' {s with heap:=h',gens:=i,drawn:=q,toks:=l}:=by
 let#[m,#[o,D,E,k,r],_]:=id I.loc;let#[F,h]:=u.any k I.free λz=>(d _ z).2.1 rfl
 exact I.step d (λb o h v a e n=>u.keep b o e n (λz=>(T0.mp^I.stkSub b z).elim h v) a) (λb o _ _ a e n=>u.any e n a) (λb o a e n=>u.free b o e n a) (λb o a e=>u.there b o e a) u.tups u.frzs u.tbls (λG y=>by
  let#[J,A,B,f,C]:=y;rw[k]at f;cases f
  exact#[_,_,_,h,C]) g t
def Inv.turned{t':Nat}{it:Db}(I:Inv X zH Z H s)(k:∀b o,b≠it->s.heap.get? b=P3 o->h'.get? b=P3 o)(A:H it=p_)(d:it≠X.env.locals)
  (f:it∈X.ex\/X.s₀.heap.objs.size<=it) (g:∀x c,X.env.cells.lookup x=P3 c->c≠it) (h:∀p∈X.pn++zH,p.1≠it):Inv X zH Z H {s with heap:=h',toks:=t'}:=by
 have i:∀b u,H b=P3 u->b≠it:=λb u e z=>by grind
 refine I.step (g':=s.gens) (d':=s.drawn) (ch:=[it]) (λb j=>?_) (λb o _ _ a e _=>k b o (λz=>a^by simp[z]) e) (λb o _ _ a e _=>#[o.slots,k b o (λz=>a^by simp[z]) e]) (λ_ _ _ _ n=>n)
  (λb o a e=>#[o,k b o (λz=>a^by simp[z]) e]) (λ_ _ e=>e) (λ_ _ _ e=>e) (λb B e=>#[#[],by rw[e];simp]) (λm l=>?_) (λb u e=>?_) I.bare
 .have e:b=it:=by simpa using j
  subst e;exact#[f,d,g,h]
 .let#[o,t,w,y,r]:=l
  exact#[o,t,w,k _ o (g0 d) y,r]
 .refine(I.hok b u e).stay (λc v a q=>k c v ?_ q) (λ_ q=>q) λ_ _ q=>q
  grind
def Inv.tok(I:Inv X zH Z H s)(t:Nat):Inv X zH Z H {s with toks:=t}:=I.un Un.refl I.hok
def Inv.kept{t':Nat}(I:Inv X zH Z H s)(k:∀b u,s.heap.get? b=P3 u->h'.get? b=P3 u):Inv X zH Z H {s with heap:=h',toks:=t'}:=I.un (Un.kept k)^I.hok.kept k
def Inv.laid{a:Db}{o:HO}{t':Nat}(I:Inv X zH Z H s)(k:∀b u,s.heap.get? b=P3 u->h'.get? b=P3 u)(c:s.heap.objs.size<=a)(d:ObjOk X.prog X.w (A5 H a o) h' a o):
  Inv X zH Z (A5 H a o) {s with heap:=h',toks:=t'}:=I.un (Un.laid k c^I.hok.fresh c)^I.hok.laid k c d
def Inv.write{x e:Db}{o:HO}{g:Nat}(I:Inv X zH Z H s)(d:c9^H x)(f:e=x\/H e=P3^.own x)(k:∀b u,b≠e->s.heap.get? b=P3 u->h'.get? b=P3 u)(a:∃u,h'.get? e=P3 u)
  (c:ObjOk X.prog X.w (A5 H x o) h' x o):Inv X zH Z (A5 H x o) {s with heap:=h',toks:=g}:=I.un (Un.write d f k a)^I.hok.write d f k a c
def Inv.pins_of{a:s_ (Db×Obj)}(I:Inv X zH Z H s)(h:∀p∈a,s.heap.get? p.1=P3 p.2/\H p.1=p_/\p.1≠X.env.locals/\p.1∉X.fs/\∀v,p.2.data≠.cell v):Inv X a Z H s:=
 #[I.ok,I.os,I.bare,I.base,I.loc,I.cell,I.free,I.freeC,λp b=>(eq.mp b).elim (λz=>I.pin p^gQ _ z)^h p,I.hok,I.len]
def KA{N:s_ Str}(c:N.Nodup){i j:Nat}{x:Str}(a:N[i]?=P3 x)(b:N[j]?=P3 x):i=j:=by
 let#[f,d]:=gC.mp a;let#[g,e]:=gC.mp b;exact(List.getElem_inj c).mp^d.trans e.symm
def SX{M:Model}{A:gc}{E:Ev->Go->Prop}{i:Nat}{x:Str}{v:V}{u:Ev}{Q:Unit->Go->Prop}(I:Inv X zH Z H s)(hN:X.N.Nodup)(P:X.N[i]?=P3 x)(B:Loc X.env.scope x)(r:RelV v u)
  (h:∀s',Inv X zH (Z.set i^P3 v) H s'->(∃a,jf a s.heap s'.heap/\(a=X.env.locals\/X.env.cells.lookup x=P3 a))->Q () s') (hf:X.fn x=q_\/X.env.scope.names.lookup x=P3 .local:=by first|exact .inl rfl|exact .inr rfl|assumption):wpAny M A (storeName X.env x u) Q E s:=by
 let#[m,hn,hl]:=id I.loc;have R:(X.env.scope.kind==.class||(X.env.scope.kind==.module&&X.env.locals !=X.env.globals))=r_:=by rw[I.ok.kind];rfl
 have F:i<Z.length:=by rw[I.len];exact(gC.mp P).1
 have J:=I.cne
 have g:∀{a:Db}{h':gI},(∃o,s.heap.get? a=P3 o/\H a=p_)->jf a s.heap h'->HOk X.prog X.w H h':=λ{a h'} ha f b ob e=>by
  let#[_,_,C]:=ha;refine(I.hok b ob e).stay (λc Y t q=>(f.2 c ?_).trans q) (λ_ q=>q) λ_ _ q=>q;rintro rfl
  rcases t with rfl|t
  .rw[C]at e;cases e
  .rw[C]at t;cases t
 rcases B with G|G
 .refine wpAny_storeName_local G hn (λh' a0 f=>?_) R
  let#[oL,_,_,a1,_]:=id hn;refine h _ #[I.ok,I.os,I.bare,#[λb o e n K B=>?_,λb o e n K B=>?_,I.base.free,λb o e B=>?_,I.base.tups,I.base.frzs,I.base.tbls],#[_,a0,λj y v' l D e3=>?_],λy c e=>?_,I.free,I.freeC,λp hp=>?_,g #[oL,a1,I.free] f,by simpa using I.len] #[_,f,.inl rfl]
  .exact(f.2 b^gO^gW (Uf e) I.ok.above).trans^I.base.keep b o e n K B
  .let#[sl,l]:=I.base.slot b o e n K B
   exact#[sl,(f.2 b^gO^gW (Uf e) I.ok.above).trans l]
  .let#[o',l]:=I.base.there b o e B
   exact#[o',(f.2 b^gO^gW (Uf e) I.ok.above).trans l]
  .by_cases L:j=i
   .subst L
    rw[P]at l;cases l
    rw[mq F]at D;cases D;exact#[u,r,.inl #[G,by simp]]
   .rw[lG^g0 L]at D
    let#[u',r',q]:=hl j y v' l D e3;exists u',r'
    rcases q with⟨k,e⟩|⟨k,c,e,z⟩
    .refine .inl #[k,?_]
     have:y≠x:=λe=>L^KA hN l (e▸P)
     simp[this,e]
    .exact .inr #[k,c,e,z.sameBut f^J y c e]
  .let#[Y,z]:=I.cell y c e
   exact#[Y,z.sameBut f^J y c e]
  .let#[e,n,ne,nf,d]:=I.pin p hp
   exact#[(f.2 p.1 ne).trans e,n,ne,nf,d]
 .have O:X.fn x=q_:=by
   rcases hf with z|z
   .exact z
   .rw[z]at G;cases G
  let#[c,t]:=I.ok.has x^.inl G;let#[Y,z]:=I.cell x c t;refine wpAny_storeName_cell I.ok.kind G t z λh' S f=>?_;let#[oc,T,U]:=id z;refine h {s with heap:=h'} #[I.ok,I.os,I.bare,#[λb o e n K B=>?_,λb o e n K B=>?_,I.base.free,λb o e B=>?_,I.base.tups,I.base.frzs,I.base.tbls],#[m,hn.sameBut f^g0^J x c t,λj y v' l D e3=>?_],λy c' e=>?_,I.free,I.freeC,λp hp=>?_,g #[oc,T,I.freeC x c t] f,by simpa using I.len] #[c,f,.inr t]
  .exact(f.2 b^gO^gW (Uf e)^I.ok.cab x c O t).trans^I.base.keep b o e n K B
  .let#[sl,l]:=I.base.slot b o e n K B
   exact#[sl,(f.2 b^gO^gW (Uf e)^I.ok.cab x c O t).trans l]
  .let#[o',l]:=I.base.there b o e B
   exact#[o',(f.2 b^gO^gW (Uf e)^I.ok.cab x c O t).trans l]
  .by_cases L:j=i
   .subst L
    rw[P]at l;cases l
    rw[mq F]at D;cases D;exact#[u,r,.inr #[.inl G,c,t,S]]
   .rw[lG^g0 L]at D
    let#[u',r',q]:=hl j y v' l D e3;exists u',r'
    rcases q with q|⟨k,c',e,z'⟩
    .exact .inl q
    .refine .inr #[k,c',e,z'.sameBut f ?_]
     rintro rfl;exact L^KA hN l (I.ok.inj _ _ _ e t▸P)
  .by_cases W:c'=c
   .subst W;exact#[_,S]
   .let#[w2,z2]:=I.cell y c' e
    exact#[w2,z2.sameBut f W]
  .let#[e,n,ne,nf,d]:=I.pin p hp
   refine#[(f.2 p.1 ?_).trans e,n,ne,nf,d];intro q;rw[q,T]at e;have q':oc=p.2:=gH e;exact d Y^by rw[←q'];exact U
def Eo{M:Model}{A:gc}{E:Ev->Go->Prop}{i:Nat}{x:Str}{v:V}{u:Ev}{Q:Unit->Go->Prop}(I:Inv X zH Z H s)(b:X.N.Nodup)(c:X.N[i]?=P3 x)(hx:Loc X.env.scope x)(r:RelV v u)
  (h:∀a,Inv X zH (Z.set i^P3 v) H a->Q () a) (d:X.fn x=q_\/X.env.scope.names.lookup x=P3 .local:=by first|exact .inl rfl|exact .inr rfl|assumption):wpAny M A (storeName X.env x u) Q E s:=
 SX I b c hx r (λa e _=>h a e) d
def Inv.call'{a:Go}{f:s_ Db}(I:Inv X zH Z H s)(g:a.os=s.os)(u:Un (L8 X.stack) f H H' s.heap a.heap)(d:HOk X.prog X.w H' a.heap)(h:j6 a.gens)
  (e:∀b∈f,(b∈X.ex\/X.s₀.heap.objs.size<=b)/\b≠X.env.locals/\(∀x c,X.env.cells.lookup x=P3 c->c≠b)/\∀p∈X.pn++zH,p.1≠b):Inv X zH Z H' a:=by
 let#[h',i,j,k,l]:=a;subst g;exact I.call u d h e
end
abbrev XK:=Ev->t_ Db->Hp->Prop
abbrev St:=s_^t_ V
abbrev VK:=V->Hp->Prop
abbrev TE:=St->Hp->VK->Prop
abbrev TT:=St->Hp->(Bool->Hp->Prop)->Prop
abbrev TA:=St->Hp->(s_ V->Hp->Prop)->Prop
structure Ends where
 nx:St->Hp->Prop
 rt:VK
 bk:St->Hp->Prop:=λ_ _=>False
 ct:St->Hp->Prop:=λ_ _=>False
abbrev TS:=Ends->St->Hp->Prop
def EP(X:Cx)(b:s_ (Db×Obj))(Z:St)(Q:VK)(u:Ev)(c:Go):Prop:=∃v a,Inv X b Z a c/\RelV v u/\Q v a
def TP(X:Cx)(c:s_ (Db×Obj))(Z:St)(Q:Bool->Hp->Prop)(b:Bool)(d:Go):Prop:=∃a,Inv X c Z a d/\Q b a
def AP(X:Cx)(c:s_ (Db×Obj))(Z:St)(Q:s_ V->Hp->Prop)(d:s_ Ev)(e:Go):Prop:=∃a b,Inv X c Z b e/\Vals a d/\Q a b
def SP(X:Cx)(c:s_ (Db×Obj))(D:Ends)(f:Flow)(d:Go):Prop:=
 match f with
 |.next=>∃b a,Inv X c b a d/\D.nx b a
 |.brk=>∃b a,Inv X c b a d/\D.bk b a
 |.cont=>∃b a,Inv X c b a d/\D.ct b a
 |.ret u=>∃v b a,Inv X c b a d/\RelV v u/\D.rt v a
def PE(X:Cx)(e:gZ)(t:TE):Prop:=
 ∀(a:s_ (Db×Obj)) (s:Go) (Z:St) (H:Hp) (Q:VK),Inv X a Z H s->t Z H Q->wpAny (model X.prog X.w) X.A (eval e X.env) (EP X a Z Q) X.xe s
def PT(X:Cx)(e:gZ)(t:TT):Prop:=
 ∀(a:s_ (Db×Obj)) (s:Go) (Z:St) (H:Hp) (Q:Bool->Hp->Prop),Inv X a Z H s->t Z H Q->wpAny (model X.prog X.w) X.A (isTrue e X.env^eval e X.env) (TP X a Z Q) X.xe s
def PW(X:Cx)(e:gZ)(t:TT):Prop:=
 ∀(a:Sem Ev) (b:s_ (Db×Obj)) (s:Go) (Z:St) (H:Hp) (Q:Bool->Hp->Prop),Inv X b Z H s->t Z H Q->wpAny (model X.prog X.w) X.A (isTrue e X.env a) (TP X b Z Q) X.xe s
def PW.pt{X:Cx}{e:gZ}{t:TT}(h:PW X e t):PT X e t:=h _
def PA(X:Cx)(b:s_ gZ)(t:TA):Prop:=
 ∀(pos:Pos) (a:s_ (Db×Obj)) (s:Go) (Z:St) (H:Hp) (Q:s_ V->Hp->Prop),Inv X a Z H s->t Z H Q->wpAny (model X.prog X.w) X.A (spliced^backTo pos^starEach b X.env) (AP X a Z Q) X.xe s
def PS(X:Cx)(st:gf)(t:TS):Prop:=
 ∀(a:s_ (Db×Obj)) (s:Go) (Z:St) (H:Hp) (D:Ends),Inv X a Z H s->t D Z H->wpAny (model X.prog X.w) X.A (exec st X.env) (SP X a D) X.xe s
def PSs(X:Cx)(st:s_ gf)(t:TS):Prop:=
 ∀(a:s_ (Db×Obj)) (s:Go) (Z:St) (H:Hp) (D:Ends),Inv X a Z H s->t D Z H->wpAny (model X.prog X.w) X.A (execs st X.env) (SP X a D) X.xe s
def thn{b:Type}{t:Sem b}{Q c:b->Go->Prop}{M:Model}{A:gc}{E:Ev->Go->Prop}{s:Go}(h:wpAny M A t Q E s)(d:∀a s,Q a s->c a s):wpAny M A t c E s:=gq h d λ_ _ x=>x
section
variable {X:Cx}
def B6(i:Nat):TE:=λZ H Q=>∃v,Z[i]?=P3^P3 v/\Q v H
def tC(v:V):TE:=λ_ H Q=>Q v H
def Ex{i:Nat}{x:Str}{pos:Pos}(j:X.N[i]?=P3 x)(k:Tz X.env.scope x)(hd:(x==("__debug__":Str))=r_:=by cbv)(f:(x==("__classdict__":Str))=r_:=by cbv):PE X (.Name x pos)^B6 i:=by
 intro q s Z H Q I h;let#[v,e,h]:=h;let#[m,n,o]:=I.loc;let#[u,r,l]:=o i x v j e k;have b:EP X _ Z Q u s:=#[v,H,I,r,h]
 rcases l with⟨d,p⟩|⟨d,c,g,a⟩
 .exact wpAny_Name (wpAny_loadName_local I.ok.kind d n p b) hd
 .rcases d with d|d
  .exact wpAny_Name (wpAny_loadName_cell I.ok.kind d g a b) hd
  .exact wpAny_Name (wpAny_loadName_free I.ok.kind d g a b f) hd
def BG{i j pos}:PE X (.Constant (.int i) j pos)^tC^.int i:=λ_ _ _ H _ I h=>wpAny_Constant_int #[.int i,H,I.tok _,#[_,rfl],h]
def bx{b j pos}:PE X (.Constant (.bool b) j pos)^tC^.bl b:=λ_ _ _ H _ I h=>Constant_bool #[.bl b,H,I,rfl,h]
def Zk{j pos}:PE X (.Constant .none j pos)^tC .non:=λ_ _ _ H _ I h=>Constant_none #[.non,H,I,rfl,h]
def Zh{x j pos}:PE X (.Constant (.str x) j pos)^tC^.str x:=λ_ _ _ H _ I h=>Calls.Constant_str #[.str x,H,I.tok _,#[_,rfl],h]
def Gl(X:Cx)(x:Str):Prop:=X.env.kindOf x=P3 .globalImplicit
def Dq{E:Ev->Go->Prop}{a:s_ (Db×Obj)}{s:Go}{Z:St}{H:Hp}{x:Str}{u:Ev}{pos:Pos}{Q:Ev->Go->Prop}(I:Inv X a Z H s)(b:Gl X x)(c:X.mg x=P3 u)(h:Q u s)
  (hd:(x==("__debug__":Str))=r_:=by cbv):wpAny (model X.prog X.w) X.A (eval (.Name x pos) X.env) Q E s:=
 l_ I.ok.kind b (Calls.loadGlobal_global (by rw[I.ok.glob];exact I.mod.glob.keeps I.bk) c h) hd
def DX{E:Ev->Go->Prop}{a:s_ (Db×Obj)}{s:Go}{Z:St}{H:Hp}{x:Str}{u:Ev}{pos:Pos}{Q:Ev->Go->Prop}(I:Inv X a Z H s)(b:Gl X x)(c:X.mg x=p_)(d:bootBuiltins x=P3 u)(h:Q u s)
  (e:x ≠ "__name__":=by cbv) (hd:(x==("__debug__":Str))=r_:=by cbv):wpAny (model X.prog X.w) X.A (eval (.Name x pos) X.env) Q E s:=by
 let#[i,f,g]:=I.mod.blt;exact l_ I.ok.kind b (Calls.loadGlobal_builtin (by rw[I.ok.glob];exact I.mod.glob.keeps I.bk) c (by rw[I.ok.blt];exact f.keeps I.bk) ((g x e).trans d) h) hd
def XW{x:Str}{v:V}{u:Ev}{pos:Pos}(a:Gl X x)(b:X.mg x=P3 u)(r:RelV v u)(hd:(x==("__debug__":Str))=r_:=by cbv):PE X (.Name x pos)^tC v:=
 λ_ _ _ H _ I h=>Dq I a b #[v,H,I,r,h] hd
def RT{x:Str}{v:V}{u:Ev}{pos:Pos}(a:Gl X x)(b:X.mg x=p_)(c:bootBuiltins x=P3 u)(r:RelV v u)(d:x ≠ "__name__":=by cbv)(hd:(x==("__debug__":Str))=r_:=by cbv):PE X (.Name x pos)^tC v:=
 λ_ _ _ H _ I h=>DX I a b c #[v,H,I,r,h] d hd
variable {a b:Expr}{ta tb:TE}{pos:Pos}
def tB(t:TE):TT:=λZ H Q=>t Z H λx d=>∃c,x=.bl c/\Q c d
def Zb{e:gZ}{t:TE}(h:PE X e t)(f:∀c,isTrue e X.env c=(do let v ←c;standAt e.pos;holding [v]^truthy v):=by intro _;rfl):PT X e^tB t:=by
 intro m s Z H Q I g;refine isTrue_plain (thn (h _ s Z H _ I g) λv n #[x,i,j,k,l]=>?_)^f _;let#[d,rfl,q]:=l;cases k;exact iw #[i,j,q]
variable {tA tB':TT}{rest:s_ Expr}
def bR(t u:TT):TT:=λZ H Q=>t Z H λc d=>if c=q_ then u Z d Q else Q r_ d
def fg(t u:TT):TT:=λZ H Q=>t Z H λc d=>if c=q_ then Q q_ d else u Z d Q
def d7(t:TT):TT:=λZ H Q=>t Z H λc d=>Q (!c) d
def RL(d:PT X a tA):PW X (.BoolOp .And [a] pos) tA:=by
 intro f g s Z H Q I h;refine isTrue_and^thn (d _ s Z H Q I h) λc i e=>?_;cases c with
 |true=>exact isTrue_and_nil e
 |false=>exact e
def ZZ(d:PT X a tA):PW X (.BoolOp .Or [a] pos) tA:=by
 intro f g s Z H Q I h;refine isTrue_or^thn (d _ s Z H Q I h) λc i e=>?_;cases c with
 |false=>exact isTrue_or_nil e
 |true=>exact e
def U6(d:PT X a tA)(e:PW X (.BoolOp .And (b::rest) pos) tB'):PW X (.BoolOp .And (a::b::rest) pos)^bR tA tB':=by
 intro f l s Z H Q I h;refine isTrue_and^thn (d _ s Z H _ I h) λc g #[i,j,k]=>?_;cases c with
 |true=>exact e f _ g Z i Q j k
 |false=>assumption
def bp(d:PT X a tA)(e:PW X (.BoolOp .Or (b::rest) pos) tB'):PW X (.BoolOp .Or (a::b::rest) pos)^fg tA tB':=by
 intro f l s Z H Q I h;refine isTrue_or^thn (d _ s Z H _ I h) λc g #[i,j,k]=>?_;cases c with
 |true=>assumption
 |false=>exact e f _ g Z i Q j k
def Zc(c:PT X a tA):PT X (.UnaryOp .Not a pos)^d7 tA:=λd s Z H Q I h=>isTrue_not^c _ s Z H _ I h
def bQ(ta tb:TE):TE:=λZ H Q=>ta Z H λx d=>∃c,x=.bl c/\if c=q_ then tb Z d Q else Q (.bl r_) d
def bJ(ta:TE):TE:=λZ H Q=>ta Z H λx d=>∃c,x=.bl c/\Q (.bl (!c)) d
def Zm(g:PE X a ta)(i:PE X (.BoolOp .And (b::rest) pos) tb):PE X (.BoolOp .And (a::b::rest) pos)^bQ ta tb:=by
 intro l s Z H Q I h;refine BoolOp_and^thn (g _ s Z H _ I h) λv j #[x,e,f,k,d]=>?_;let#[c,rfl,d]:=d;cases k;refine iw ?_;cases c with
 |true=>exact i _ j Z e Q f d
 |false=>exact#[.bl _,e,f,rfl,d]
def Zj(e:PE X a ta):PE X (.UnaryOp .Not a pos)^bJ ta:=by
 intro j s Z H Q I h;refine UnaryOp_^thn (e _ s Z H _ I h) λv k #[x,f,g,i,d]=>?_;let#[c,rfl,d]:=d;cases i;exact not_of^iw #[.bl _,f,g,rfl,d]
def fh(t:TT)(ta tb:TE):TE:=λZ H Q=>t Z H λc d=>if c=q_ then ta Z d Q else tb Z d Q
def OR{c:gZ}(j:PT X c tA)(k:PE X a ta)(l:PE X b tb):PE X (.IfExp c a b pos)^fh tA ta tb:=by
 intro m s Z H Q I h;refine wpAny_IfExp^thn (j _ s Z H _ I h) λd e #[f,g,i]=>?_;cases d with
 |true=>exact k _ e Z f Q g i
 |false=>exact l _ e Z f Q g i
end
def SqL(K:Frag)(H:Hp)(a:Db)(c:s_ V):Prop:=
 Rd H a (.lst c) \/
  ∃(o:Obj) (b:Array Ev) (n:Nat),K.lookup a=P3 o/\o.cls=.type "list"/\o.dict=p_/\o.data=.seq b n/\b.size<=sizeLine/\Vals c b.toList
def SqT(K:Frag)(H:Hp)(a:Db)(c:s_ V):Prop:=
 Rd H a (.tup c) \/
  ∃(o:Obj) (b:Array Ev) (n:Nat),K.lookup a=P3 o/\o.cls=.type "tuple"/\o.data=.seq b n/\b.size<=sizeLine/\Vals c b.toList
def e7:Ev->t_ V
 |.none=>P3 .non
 |.bool b=>P3^.bl b
 |.int i _=>P3^.int i
 |.str x _=>P3^.str x
 |.bytes b _=>P3^.byt b
 |.float b _=>P3^.flt b
 |.ref a=>P3^.ref a
 |.type n=>P3^.ty n
 |_=>p_
def RelV.abs{x:V}{u:Ev}(r:RelV x u):e7 u=P3 x:=by
 cases x with
 |non=>cases r;rfl
 |bl _=>cases r;rfl
 |int _=>let#[t,rfl]:=r;rfl
 |str _=>let#[t,rfl]:=r;rfl
 |byt _=>let#[t,rfl]:=r;rfl
 |flt _=>let#[t,rfl]:=r;rfl
 |ref _=>cases r;rfl
 |ty _=>cases r;rfl
def RelV.inj{x y:V}{u:Ev}(r:RelV x u)(q:RelV y u):x=y:=gH^r.abs.symm.trans q.abs
theorem Vals.inj:∀{a b:s_ V}{c:s_ Ev},Vals a c->Vals b c->a=b
 |_,_,_,.nil,.nil=>rfl
 |_,_,_,.cons r t,.cons d e=>by rw[r.inj d,Vals.inj t e]
section
variable {X:Cx}{zH:s_ (Addr×Obj)}{Z:St}{H:Hp}{s:Shared}{a:Addr}{xs ys:s_ V}
def SqL.of{K:Frag}(h:H a=P3^.lst xs):SqL K H a xs:=.inl^.inl h
def SqT.of{K:Frag}(h:H a=P3^.tup xs):SqT K H a xs:=.inl^.inl h
def Inv.list(I:Inv X zH Z H s)(h:SqL X.K H a xs):∃b:s_ Ev,Vals xs b/\PlainL s.heap a b.toArray/\xs.length<=sizeLine:=by
 rcases h with h|⟨o,b,n,c,d,f,g,i,r⟩
 .let#[z,b,n,r,e]:=h.ok I.hok
  exact#[_,r,#[_,n,e,rfl,rfl,rfl],z]
 .exists _,r,#[o,n,I.kIn a o c,d,f,by lk]
  have e:=r.length
  grind
def Inv.tuple(I:Inv X zH Z H s)(h:SqT X.K H a xs):∃b:s_ Ev,Vals xs b/\kc s.heap a b.toArray/\xs.length<=sizeLine:=by
 rcases h with h|⟨o,b,n,c,d,f,g,r⟩
 .let#[z,b,r,p]:=h.ok I.hok
  exact#[_,r,p.tup,z]
 .exists _,r,#[o,I.kIn a o c,d,n,by lk]
  have e:=r.length
  grind
def Inv.list_inj(I:Inv X zH Z H s)(h:SqL X.K H a xs)(f:SqL X.K H a ys):xs=ys:=by
 let#[c,r,#[o,n,e,_,_,d],_]:=I.list h;let#[b,g,#[i,j,k,_,_,l],_]:=I.list f
 have:c=b:=by grind
 subst this;exact r.inj g
def Inv.tuple_inj(I:Inv X zH Z H s)(h:SqT X.K H a xs)(f:SqT X.K H a ys):xs=ys:=by
 let#[c,r,#[o,e,_,n,d],_]:=I.tuple h;let#[b,g,#[i,j,_,k,l],_]:=I.tuple f
 have:c=b:=by grind
 subst this;exact r.inj g
end
abbrev Cx.wish(X:Cx)(E:Ev->Go->Prop):Cx:={X with xe:=E}
abbrev Cx.nox(X:Cx):Cx:=X.wish λ_ _=>False
def Cx.Ok.wish{X:Cx}(ok:X.Ok)(E:Ev->Go->Prop):(X.wish E).Ok:=
 #[ok.mod,ok.kind,ok.glob,ok.blt,ok.above,ok.inj,ok.has,ok.cab,ok.hd,ok.frames,ok.stk,ok.exf,ok.bs,ok.bsz,ok.noex,ok.exfs,ok.funs,ok.frf]
def Cx.Ok.unwish{X:Cx}{E:Ev->Go->Prop}(ok:(X.wish E).Ok):X.Ok:=
 #[ok.mod,ok.kind,ok.glob,ok.blt,ok.above,ok.inj,ok.has,ok.cab,ok.hd,ok.frames,ok.stk,ok.exf,ok.bs,ok.bsz,ok.noex,ok.exfs,ok.funs,ok.frf]
section
variable {X:Cx}{zH:s_ (Addr×Obj)}{Z:St}{H:Hp}{s:Shared}{E:Value->Shared->Prop}
def Inv.wish(I:Inv X zH Z H s)(E:Ev->Go->Prop):Inv (X.wish E) zH Z H s:=#[I.ok.wish E,I.os,I.bare,I.base,I.loc,I.cell,I.free,I.freeC,I.pin,I.hok,I.len]
def Inv.unwish(I:Inv (X.wish E) zH Z H s):Inv X zH Z H s:=#[I.ok.unwish,I.os,I.bare,I.base,I.loc,I.cell,I.free,I.freeC,I.pin,I.hok,I.len]
def SP.unwish{D:Ends}{f:Flow}{c:Go}(h:SP (X.wish E) zH D f c):SP X zH D f c:=by
 cases f with
 |next=>let#[b,a,I,q]:=h;exact#[_,a,I.unwish,q]
 |brk=>let#[b,a,I,q]:=h;exact#[_,a,I.unwish,q]
 |cont=>let#[b,a,I,q]:=h;exact#[_,a,I.unwish,q]
 |ret u=>let#[v,b,a,I,r,q]:=h;exact#[v,_,a,I.unwish,r,q]
def PSs.nox{st:s_ gf}{t:TS}(h:PSs X.nox st t):PSs X st t:=λzH s Z H D I a=>
 gq (h _ s Z H D (I.wish _) a) (λ_ _ q=>q.unwish) λ_ _ z=>g8 z
end
section
variable {X:Cx}{st:Stmt}{rest:s_ Stmt}{t u:TS}{e:Expr}{te:TE}{pos:Pos}
def YY:TS:=λD Z H=>D.nx Z H
def SW(t u:TS):TS:=λD Z H=>t {D with nx:=u D} Z H
def Mo:PSs X [] YY:=λ_ _ Z H _ I h=>jq #[Z,H,I,h]
def BQ(a:PS X st t)(b:PSs X rest u):PSs X (st::rest)^SW t u:=by
 intro g s Z H D I h;refine mV^thn (a _ s Z H _ I h) λf c q=>?_;cases f with
 |next=>
  let#[i,d,e,q]:=q;exact b _ c _ d D e q
 |ret v=>exact q
 |brk=>exact q
 |cont=>exact q
def Cy(a:PS X st t):PSs X [st] t:=by
 intro b s Z H D I h;refine mV^thn (a _ s Z H D I h) λf c q=>?_;cases f with
 |next=>exact jq q
 |ret v=>exact q
 |brk=>exact q
 |cont=>exact q
def ZQ:TS:=λD Z H=>D.bk Z H
def VA:PS X (.Break pos) ZQ:=λ_ _ Z H _ I h=>wpAny_Break #[Z,H,I,h]
def Inv.quiet{a:s_ (Db×Obj)}{Z:St}{H:Hp}{s:Go}(I:Inv X a Z H s):interactive X.env=r_:=by simp[interactive,I.ok.kind]
def bM(te:TE):TS:=λD Z H=>te Z H λ_ a=>D.nx Z a
def XI(a:PE X e te)(b:swapsWith e p_ pos.line X.env=pure r_:=by rfl):PS X (.Expr e pos)^bM te:=λg s Z H D I h=>wpAny_Expr_any (thn (a _ s Z H _ I h) λv i #[x,c,d,j,f]=>#[Z,c,d,f]) I.quiet b
def Wz(te:TE):TS:=λD Z H=>te Z H D.rt
def GD(a:PE X e te):PS X (.Return (P3 e) pos)^Wz te:=λg s Z H D I h=>wpAny_Return_some^thn (a _ s Z H _ I h) λv i #[x,b,c,d,f]=>#[x,Z,b,c,d,f]
def bK(c:TT)(t u:TS):TS:=λD Z H=>c Z H λb a=>if b=q_ then t D Z a else u D Z a
def RO{c:gZ}{a b:s_ gf}{e:TT}(k:PT X c e)(l:PSs X a t)(m:PSs X b u):PS X (.If c a b pos)^bK e t u:=by
 intro n s Z H D I h;refine wpAny_If^thn (k _ s Z H _ I h) λd f #[g,i,j]=>?_;cases d with
 |true=>exact l _ f Z g D i j
 |false=>exact m _ f Z g D i j
end
abbrev TG:=V->St->Hp->(St->Hp->Prop)->Prop
abbrev aa:=s_ V->St->Hp->(St->Hp->Prop)->Prop
def PG(X:Cx)(a:gZ)(t:TG):Prop:=
 ∀(b:s_ (Db×Obj)) (s:Go) (Z:St) (H:Hp) (v:V) (u:Ev) (Q:St->Hp->Prop),Inv X b Z H s->RelV v u->t v Z H Q->
  wpAny (model X.prog X.w) X.A (assign a X.env u) (λ_ e=>∃c d,Inv X b c d e/\Q c d) X.xe s
def c6(X:Cx)(f:s_ gZ)(t:aa):Prop:=
 ∀(a:s_ (Db×Obj)) (s:Go) (Z:St) (H:Hp) (b:s_ V) (c:s_ Ev) (Q:St->Hp->Prop),Inv X a Z H s->Vals b c->t b Z H Q->
  wpAny (model X.prog X.w) X.A (assignInOrder ((assignEach f X.env).map (·.2)) c) (λ_ g=>∃d e,Inv X a d e g/\Q d e) X.xe s
abbrev aZ:=V->V->V->Hp->(Hp->Prop)->Prop
def cz(X:Cx)(t:aZ):Prop:=
 ∀(a:s_ (Db×Obj)) (s:Go) (Z:St) (H:Hp) (o i v:V) (b c u:Ev) (Q:Hp->Prop),Inv X a Z H s->RelV o b->RelV i c->RelV v u->t o i v H Q->
  wpAny (model X.prog X.w) X.A (setItem b c u) (λ_ e=>∃d,Inv X a Z d e/\Q d) X.xe s
abbrev dR:=V->V->Hp->VK->Prop
def fS(X:Cx)(b:Operator)(t:dR):Prop:=
 ∀(a:s_ (Db×Obj)) (s:Go) (Z:St) (H:Hp) (x y:V) (v u:Ev) (Q:VK),Inv X a Z H s->RelV x v->RelV y u->t x y H Q->
  wpAny (model X.prog X.w) X.A (inplaceOp b v u) (EP X a Z Q) X.xe s
section
variable {X:Cx}{pos:Pos}
def L7(i:Nat):TG:=λv Z H Q=>Q (Z.set i^P3 v) H
def Gv{i:Nat}{x:Str}(a:X.N.Nodup)(b:X.N[i]?=P3 x)(hx:Loc X.env.scope x)(c:X.fn x=q_\/X.env.scope.names.lookup x=P3 .local:=by first|exact .inl rfl|exact .inr rfl|assumption):PG X (.Name x pos)^L7 i:=λe s Z H v u Q I r h=>wpAny_assign_Name^Eo I a b hx r (λf d=>#[_,H,d,h]) c
def eW:aa:=λa Z H Q=>a=[]/\Q Z H
def cN(t:TG)(u:aa):aa:=λa Z H Q=>∃v r,a=v::r/\t v Z H λb c=>u r b c Q
def RR:c6 X [] eW:=by
 intro a s Z H b c Q I r h;let#[e,h]:=h;exact assignInOrder_nil #[Z,H,I,h]
def Gu{e:gZ}{a:s_ gZ}{t:TG}{u:aa}(b:PG X e t)(c:c6 X a u)
  (d:(assignEach (e::a) X.env).map (·.2)=assign e X.env::(assignEach a X.env).map (·.2):=by rfl):c6 X (e::a)^cN t u:=by
 intro m s Z H n o Q I r h;let#[v,p,f,h]:=h;subst f;cases r with
 |cons r g=>
  rw[d];exact assignInOrder_cons^thn (b _ s Z H _ _ _ I r h) λ_ i #[_,j,k,l]=>c _ i _ j _ _ Q k g l
def eV(K:Frag)(n:Nat)(t:aa):TG:=λv Z H Q=>∃a b,v=.ref a/\SqT K H a b/\b.length=n/\t b Z H Q
def VG{c:s_ gZ}{k:Nat}{t:aa}{n:Nat}(g:X.calm=q_)(h:c6 X c t)
  (i:(assignEach c X.env).length=n:=by rfl) (d:(assignEach c X.env).findIdx? (·.1)=p_:=by rfl):PG X (.Tuple c k pos)^eV X.K n t:=by
 intro z s Z H v u Q I r f;let#[a,j,l,m,p,f]:=f;subst l;cases r;let#[q,w,x,A]:=I.tuple m;exact assign_Tuple_tuple (I.ok.hd g) x (by simp[i,←p,w.length]) d λB y=>h _ _ Z H j _ Q (I.kept λb o e=>y b o (gO^Uf e) e) (by lk) f
def cM(a b:TE)(t:aZ):TG:=λv Z H Q=>a Z H λo c=>b Z c λi H2=>t o i v H2 λd=>Q Z d
def QG{o i:gZ}{c d:TE}{t:aZ}(e:PE X o c)(f:PE X i d)(g:cz X t)
  (D:∀v,assign (.Subscript o i pos) X.env v=(do
   let a ←holding [v]^eval o X.env
   let b ←holding [v,a] (eval i X.env)
   standAt pos
   holding [v,a,b] (setItem a b v)
   release [v,a,b] []):=by intro _;rfl):PG X (.Subscript o i pos)^cM c d t:=λE s Z H v u Q I r h=>Ch^gw^thn (e _ s Z H _ I h) λa j #[x,k,l,m,n]=>Ch^gw^thn (f _ j Z k _ l n) λb p #[y,H2,q,w,z]=>Ch^mB^Ch^gw^thn (g _ p Z H2 x y v a b u _ q m w r z) λ_ F #[A,B,C]=>wpAny_release #[Z,A,B,C]
def Pw(a:TE)(g:TG):TS:=λD Z H=>a Z H λx b=>g x Z b D.nx
def Mq{a e:gZ}{b:TE}{g:TG}(c:PE X e b)(d:PG X a g)(f:swapsWithSole [a] e pos.line X.env=pure r_:=by rfl)(i:swappedStores [a] e X.env=pure p_:=by rfl)
  (j:(assignEach [a] X.env).map (·.2)=[assign a X.env]:=by rfl):PS X (.Assign [a] e pos)^Pw b g:=by
 intro p s Z H D I h;refine wpAny_Assign_stores (thn (c _ s Z H _ I h) λv k #[x,l,m,n,o]=>?_) f i;rw[j];exact thn (d _ k Z l x v _ m n o) λ_ r q=>q
def Ew{i:Nat}{x:Str}{e:gZ}{b:TE}{a:Pos}(c:X.N.Nodup)(d:X.N[i]?=P3 x)(hx:Loc X.env.scope x)(f:PE X e b)(g:swapsWith e (P3^.Name x a) pos.line X.env=pure r_:=by rfl)(j:X.fn x=q_\/X.env.scope.names.lookup x=P3 .local:=by first|exact .inl rfl|exact .inr rfl|assumption):
  PS X (.Assign [.Name x a] e pos) (Pw b^L7 i):=λp s Z H D I h=>wpAny_Assign_Name (thn (f _ s Z H _ I h) λv q #[y,k,l,m,n]=>Eo l c d hx m (λr o=>#[_,k,o,n]) j) g
def eB(i:Nat)(a:TE)(b:dR):TS:=λD Z H=>∃x,Z[i]?=P3^P3 x/\a Z H λy c=>b x y c λz H2=>D.nx (Z.set i^P3 z) H2
def Ze{i:Nat}{x:Str}{e:gZ}{p:TE}{j:Operator}{q:dR}{d:Pos}(C:X.N.Nodup)(t:X.N[i]?=P3 x)(hx:Loc X.env.scope x)(E:PE X e p)(F:fS X j q)(G:X.fn x=q_\/X.env.scope.names.lookup x=P3 .local:=by first|exact .inl rfl|exact .inr rfl|assumption):
  PS X (.AugAssign (.Name x d) j e pos) (eB i p q):=by
 intro n s Z H D I h;let#[v,J,h]:=h;let#[m,K,L]:=I.loc;have o:Tz X.env.scope x:=by rcases hx with k|k;exact .inl k;exact .inr^.inl k
 let#[u,r,l]:=L i x v t J o;refine wpAny_AugAssign_Name ?_
 have B:wpAny (model X.prog X.w) X.A (eval e X.env) (λw f=>wpAny (model X.prog X.w) X.A (inplaceOp j u w) (λr g=>wpAny (model X.prog X.w) X.A (storeName X.env x r) (λ_=>SP X n D .next) X.xe g) X.xe f) X.xe s:=by
  refine thn (E n s Z H _ I h) λw M #[y,O,P,Q,R]=>?_;refine thn (F n M Z O v y u w _ P r Q R) λz s2 #[zv,H2,S,T,U]=>?_;exact Eo S C t hx T (λs3 V=>#[_,H2,V,U]) G
 rcases l with⟨a,W⟩|⟨a,c,Y,b⟩
 .exact wpAny_loadName_local I.ok.kind a K W B
 .rcases a with a|a
  .exact wpAny_loadName_cell I.ok.kind a Y b B
  .rcases hx with k|k
   .have:X.env.scope.names.lookup x=P3 .free:=a
    rw[k]at this;cases this
   .have:X.env.scope.names.lookup x=P3 .free:=a
    rw[k]at this;cases this
def ft(f:Int->Int->Int):dR:=λx y H Q=>∃i j,x=.int i/\y=.int j/\Q (.int^f i j) H
def Z7:fS X .Add (ft λi j=>i+j):=by
 intro e s Z H x y v u Q I a b h;let#[i,j,c,d,q]:=h;subst c;subst d
 let#[t,rfl]:=a;let#[f,rfl]:=b;exact iadd_int #[.int _,H,I.tok _,#[_,rfl],q]
end
section
variable {X:Cx}{pos:Pos}
def ZI(c:TT)(g:TS):TS:=λD Z H=>∃W:Nat->St->Hp->Prop,(∃m,W m Z H)/\∀m Z H,W m Z H->
 c Z H λb a=>if b=q_ then ∃N:St->Hp->Prop,(∀d e,N d e->∃f,f<m/\W f d e)/\g {D with nx:=N,ct:=N,bk:=D.nx} Z a else D.nx Z a
def U_{c:gZ}{a:s_ gf}{t:TT}{u:TS}(x:kT (model X.prog X.w) X.A X.env X.xe)(F:PT X c t)(G:PSs X a u):PS X (.While c a [] pos)^ZI t u:=by
 intro l s Z H D I h;let#[W,#[J,K],d]:=h;refine wpAny_While^codeAny_whileLoop (λn L=>∃y z,Inv X l y z L/\W n y z) ?_ J #[Z,H,I,K];rintro n M ⟨i,B,O,P⟩;refine jT x^thn (F l M i B _ O^d n i B P) λb Q #[H2,C,j]=>?_;cases b with
 | true=>
  let#[N,E,j]:=j;rw[if_pos rfl];refine jT x^thn (G l Q i H2 _ C j) λf R k=>?_;cases f with
  |next=>
   let#[e,g,m,o]:=k;let#[p,q,r]:=E e g o;exact#[p,q,e,g,m,r]
  |cont=>
   let#[e,g,m,o]:=k;let#[p,q,r]:=E e g o;exact#[p,q,e,g,m,r]
  |brk=>exact k
  |ret v=>exact k
 |false=>
  rw[if_neg gR];exact jq #[i,H2,C,j]
end
structure It where
 go:Nat->Hp->Prop
 yld:Nat->Hp->V->Hp->Prop
 stop:Nat->Hp->Prop
def FU(X:Cx)(a:s_ (Db×Obj))(H:Hp)(b:Db):Prop:=
 H b=p_/\b≠X.env.locals/\b∉X.fs/\(b∈X.ex\/X.s₀.heap.objs.size<=b)/\(∀x c,X.env.cells.lookup x=P3 c->c≠b)/\∀p∈X.pn++a,p.1≠b
def Inv.fpOk{X:Cx}{d:s_ (Db×Obj)}{Z:St}{H f:Hp}{s:Go}{b:Db}(I:Inv X d Z H s)(a:s.heap.objs.size<=b)(g:f b=p_):FU X d f b:=by
 refine#[g,jC^gW I.lt a,I.nofs a,.inr^gG I.sz a,λx c e z=>?_,λp h z=>?_]
 .let#[v,q]:=I.cell x c e
  exact absurd (gW q.lt^by rw[z];exact a)^gv _
 .exact absurd (gW (Uf (I.pin p h).1)^by rw[z];exact a)^gv _
structure Turn (P:gN) (w:gY) (K:Frag) (tg:gZ) (J:It) (fp:List Db) (it:Db) (tn:Nat->gI->Prop):Prop where
 mem:it∈fp
 obj:∀i h,tn i h->∀b∈fp,∃o,h.get? b=P3 o/\∀v,o.data≠.cell v
 keep:∀i h h',tn i h->(∀b∈fp,∀o,h.get? b=P3 o->h'.get? b=P3 o)->tn i h'
 item:∀(X:Cx),X.prog=P->X.w=w->X.K=K->X.calm=q_->∀(i:Nat) (zH:List (Db×Obj)) (s:Go) (Z:St) (H:Hp) (E:Ev->Go->Prop),Inv X zH Z H s->(∀b∈fp,FU X zH H b)->tn i s.heap->J.go i H->
  wpAny (model P w) X.A (pyNext^.ref it) (λr s1=>∃u,r=P3 u /\
   wpAny (model P w) X.A (letOwnedTupleGo tg (.ref it) u) (λ_ s2=>∃x H',Inv X zH Z H' s2/\RelV x u/\J.yld i H x H'/\tn (i+1) s2.heap/\∀b∈fp,H' b=p_) E s1) E s
 done:∀(X:Cx),X.prog=P->X.w=w->X.K=K->X.calm=q_->∀(i:Nat) (zH:List (Db×Obj)) (s:Go) (Z:St) (H:Hp) (E:Ev->Go->Prop),Inv X zH Z H s->(∀b∈fp,FU X zH H b)->tn i s.heap->J.stop i H->
  wpAny (model P w) X.A (pyNext^.ref it) (λr s1=>r=p_/\Inv X zH Z H s1) E s
 self:∀(A:gc) (i:Nat) (s:Go) (Q:Ev->Go->Prop) (E:Ev->Go->Prop),tn i s.heap->Q (.ref it) s->wpAny (model P w) A (pyIter^.ref it) Q E s
abbrev TI:=St->Hp->(It->Hp->Prop)->Prop
def fT(X:Cx)(d:s_ (Db×Obj))(Z:St)(h:gZ)(R:It->Hp->Prop)(a:Ev)(e:Go):Prop:=
 ∃(it:Db) (f:s_ Db) (g:Nat->gI->Prop) (J:It) (c:Hp),a=.ref it/\Inv X d Z c e/\Turn X.prog X.w X.K h J f it g/\g 0 e.heap/\(∀b∈f,FU X d c b)/\R J c
def PI(X:Cx)(c a:gZ)(d:TI):Prop:=
 ∀(b:s_ (Db×Obj)) (s:Go) (Z:St) (H:Hp) (R:It->Hp->Prop),Inv X b Z H s->d Z H R->
  wpAny (model X.prog X.w) X.A (eval a X.env) (λv e=>wpAny (model X.prog X.w) X.A (pyIter v) (fT X b Z c R) X.xe e) X.xe s
def Rn {M:Model}{A:gc}{E:Ev → Go → Prop}{s:Go}{b:gZ}{it:Db}{u:Ev}{o:Obj}{n:String}{c:Array Ev}{Q:Unit → Go → Prop} (d:s.heap.get? it=P3 o) (e:o.cls=.type n) (hd:o.data=.fields c)
    (f:["enumerate","zip","dict_itemiterator","dict_reverseitemiterator","odict_iterator","itertools.zip_longest","itertools.pairwise"].contains n=r_) (a:Q () s):wpAny M A (letOwnedTupleGo b (.ref it) u) Q E s:=by
  unfold letOwnedTupleGo
  cases b <;>first
    |exact Rs a
    |(cases u <;>first
        |exact Rs a
        | (refine Ch^wpAny_load d ?_
           rw[e,hd];show wpAny M A (if(["enumerate","zip","dict_itemiterator","dict_reverseitemiterator","odict_iterator","itertools.zip_longest","itertools.pairwise"].contains n && c[0]?==P3^rawInt _)=q_ then _ else _) Q E s;rw[if_neg^by grind];exact Rs a))
def fD(K:Frag)(a:Db):It:=
 #[λi H=>∃b x,SqL K H a b/\b[i]?=P3 x,λi H x c=>c=H/\∀b,SqL K H a b->b[i]?=P3 x,λi H=>∃b,SqL K H a b/\b.length<=i]
def aj(K:Frag)(a:Db):It:=
 #[λi H=>∃b x,SqT K H a b/\b[i]?=P3 x,λi H x c=>c=H/\∀b,SqT K H a b->b[i]?=P3 x,λi H=>∃b,SqT K H a b/\b.length<=i]
def dW(a:Int)(n:Nat):It:=#[λi _=>i<n,λi H x b=>b=H/\x=.int (a+i),λi _=>n<=i]
def SR{P:gN}{w:gY}{K:Frag}{O:gZ}(a it:Db):Turn P w K O (fD K a) [it] it (λi h=>h.IsListIter it a i) where
 mem:=by simp
 obj:=λi h f b g=>by
  have e:b=it:=by simpa using g
  subst e;let#[o,e,c,d]:=f;exact#[o,e,λv z=>by rw[d]at z;cases z]
 keep:=λi h l f k=>f.at λo e=>k it (by simp) o e
 item:=by
  intro X q r t M i N s Z H E I m f y;subst q r t;let#[Q,x,n,A]:=y;let#[B,C,p,R]:=I.list n;let#[u,S,T]:=C.get A;let#[D,F,U,G,J,L]:=m it (by simp);refine wpAny_pyNext_list_item f p.isList (x:=u) (by simpa using S) λl j V=>?_;have W:Inv X N Z H {s with heap:=l}:=I.turned (t':=s.toks) (λb o g e=>(V.2 b g).trans e) D F G J L;let#[o,e,c,d]:=id j;exact#[u,rfl,Rn (s:={s with heap:=l}) e c d (by cbv) #[x,H,W,T,#[rfl,λys Y=>by rw[I.list_inj Y n];exact A],j,λb g=>(m b g).1]]
 done:=by
  intro X q r t M i N s Z H E I m f y;subst q r t;let#[Q,n,A]:=y;let#[B,C,p,R]:=I.list n;let#[D,F,U,G,J,L]:=m it (by simp);have hl:=C.length;exact wpAny_pyNext_list_end (I.ok.hd M) f p.isList (by simp;lk) λl eb=>#[rfl,I.turned (t':=s.toks) (λb o g e=>eb b o g e) D F G J L]
 self:=λ_ _ _ _ _ f h=>wpAny_pyIter_listiter f h
def JQ{P:gN}{w:gY}{K:Frag}{O:gZ}(a it:Db):Turn P w K O (aj K a) [it] it (λi h=>h.IsTupleIter it a i) where
 mem:=by simp
 obj:=λi h f b g=>by
  have e:b=it:=by simpa using g
  subst e;let#[o,e,c,d]:=f;exact#[o,e,λv z=>by rw[d]at z;cases z]
 keep:=λi h m f k=>f.at λo e=>k it (by simp) o e
 item:=by
  intro X r t y M i N s Z H E I n f A;subst r t y;let#[Q,x,q,B]:=A;let#[j,C,p,R]:=I.tuple q;let#[u,S,T]:=C.get B;let#[D,F,U,G,J,L]:=n it (by simp);refine wpAny_pyNext_tuple_item f (show s.heap.IsTuple a j.toArray from p) (x:=u) (by simpa using S) λm l V=>?_;have W:Inv X N Z H {s with heap:=m}:=I.turned (t':=s.toks) (λb o g e=>(V.2 b g).trans e) D F G J L;let#[o,e,c,d]:=id l;exact#[u,rfl,Rn (s:={s with heap:=m}) e c d (by cbv) #[x,H,W,T,#[rfl,λys Y=>by rw[I.tuple_inj Y q];exact B],l,λb g=>(n b g).1]]
 done:=by
  intro X r t y M i N s Z H E I n f A;subst r t y;let#[Q,q,B]:=A;let#[j,C,p,R]:=I.tuple q;let#[D,F,U,G,J,L]:=n it (by simp);have hl:=C.length;exact wpAny_pyNext_tuple_end (I.ok.hd M) f (show s.heap.IsTuple a j.toArray from p) (by simp;lk) λm eb=>#[rfl,I.turned (t':=s.toks) (λb o g e=>eb b o g e) D F G J L]
 self:=λ_ _ _ _ _ f h=>wpAny_pyIter_tupleiter f h
def Pq{P:gN}{w:gY}{K:Frag}{D:gZ}(it:Db)(f:Int)(n:Nat):Turn P w K D (dW f n) [it] it (λi h=>IsRangeIter h it (f+(i:Nat)*1) ((n:Int) - (i:Nat)) 1) where
 mem:=by simp
 obj:=λi h a b c=>by
  simp_all
 keep:=λi h g a k=>k it (by simp) _ a
 item:=by
  intro X l m p q i B s Z H E I j a r;subst l m p;let#[u,x,F,y,z,A]:=j it (by simp);have W:=Walks.range (prog:=X.prog) (w:=X.w) (I.ok.hd q) it f 1 n;refine W.item i s _ _ r a λv g C G d J=>?_;let#[t,rfl]:=G;have L:Inv X B Z H {s with heap:=g,toks:=C}:=I.turned (λb o c e=>J b o (by simpa using c) e) u x y z A;refine#[_,rfl,Rn (s:={s with heap:=g,toks:=C}) (n:="range_iterator") d rfl rfl (by cbv) #[.int (f+i),H,L,#[t,?_],#[rfl,rfl],d,λb c=>(j b c).1]];rw[Int.mul_one]
 done:=by
  intro X l m p q i B s Z H E I j a r;subst l m p;let#[u,x,F,y,z,A]:=j it (by simp);exact wpAny_pyNext_range_end (I.ok.hd q) a (by have:n<=i:=r;lk) λg M=>#[rfl,I.turned (t':=s.toks) (λb o c e=>M b o c e) u x y z A]
 self:=λ_ _ _ _ _ a h=>wpAny_pyIter_rangeiter a h
section
variable {X:Cx}{tg:Expr}
def eT(K:Frag)(c:TE):TI:=λZ H R=>c Z H λx b=>∃a,x=.ref a/\(∃d,SqT K b a d)/\R (aj K a) b
def VE{l:gZ}{d:TE}(f:PE X l d):PI X tg l^eT X.K d:=by
 intro r s Z H R I h;refine thn (f _ s Z H _ I h) λv g #[x,i,c,j,k]=>?_;let#[a,e,#[t,m],q]:=k;subst e;cases j;let#[n,u,p,w]:=c.tuple m;refine ii (p) ?_;refine#[_,_,_,_,i,rfl,c.kept λb o e=>FM _ e,JQ a _,#[_,UF _ rfl,rfl,rfl],λb y=>?_,q];have e:b=g.heap.objs.size:=by grind
 subst e;exact c.fpOk (Re _)^c.hok.fresh^Re _
def Ux{d:s_ (Db×Obj)}{Z:St}{H:Hp}{s:Go}{R:It->Hp->Prop}{E:Ev->Go->Prop}{a c:Int}{t u v:Tok}{f:Nat}(I:Inv X d Z H s)(h:-(2 ^ 62)<=a)(i:a<2 ^ 62)(j:-(2 ^ 62)<=c)(k:c<2 ^ 62)
  (q:R (dW a (c - a).toNat) H):wpAny (model X.prog X.w) X.A (pyIter^.ref s.heap.objs.size) (fT X d Z tg R) E {s with heap:=s.heap.push {cls:=.type "range",data:=.fields #[ .int a t,.int c u,.int 1 v]},toks:=f}:=by
 refine wpAny_pyIter_range (IsRange.new ..) (small_one h i j k) ?_;have g:Inv X d Z H {s with heap:=s.heap.push {cls:=.type "range",data:=.fields #[ .int a t,.int c u,.int 1 v]},toks:=f}:=I.kept λb o e=>FM _ e
 refine#[(s.heap.push {cls:=.type "range",data:=.fields #[ .int a t,.int c u,.int 1 v]}).objs.size,[(s.heap.push {cls:=.type "range",data:=.fields #[ .int a t,.int c u,.int 1 v]}).objs.size],_,_,H,rfl,
  g.kept (t':=f) λb o e=>FM _ e,Pq _ a (c - a).toNat,?_,λb l=>?_,q]
 .have m:a+((0:Nat):Int)*1=a:=by simp
  have n:(((c - a).toNat:Nat):Int) - ((0:Nat):Int)=Builtin.Range.rangeSize a c 1:=by rw[rangeSize_one];grind
  show IsRangeIter _ _ (a+((0:Nat):Int)*1) ((((c - a).toNat:Nat):Int) - ((0:Nat):Int)) 1;rw[m,n];exact UF _ rfl
 .have e:b=(s.heap.push {cls:=.type "range",data:=.fields #[ .int a t,.int c u,.int 1 v]}).objs.size:=by simpa using l
  subst e;exact g.fpOk (Re _)^g.hok.fresh^Re _
def cJ(a:TA):TI:=λZ H R=>a Z H λb c=>∃j:Int,b=[.int j]/\-(2 ^ 62)<=j/\j<2 ^ 62/\R (dW 0 j.toNat) c
def Sq{a:gZ}{c:TA}{p pos:Pos}(d:Gl X "range")(f:X.mg "range"=p_)(g:PA X [a] c)(i:starEach [a] X.env=[(r_,eval a X.env)]:=by rfl):PI X tg (.Call (.Name "range" p) [a] [] pos)^cJ c:=by
 intro o s Z H R I h;refine Call_^DX I d f boot_range (h_ (thn (g _ _ s Z H _ I h) λu v #[w,x,k,l,b]=>?_) i rfl);let#[j,e,b,m,q]:=b;subst e;cases l with
 |cons r n=>
  cases n;let#[t,rfl]:=r;exact call_range_1^Ux k (by lk) (by lk) b m^by simpa using q
def eA(d:TI)(g:TG)(e:TS):TS:=λD Z H=>d Z H λJ f=>∃W:Nat->Nat->St->Hp->Prop,(∃m,W 0 m Z f)/\∀i m Z H,W i m Z H->
 (J.stop i H/\D.nx Z H)\/(J.go i H/\∃N:St->Hp->Prop,(∀b a,N b a->∃c,c<m/\W (i+1) c b a)/\∀x a,J.yld i H x a->g x Z a λh H2=>e {D with nx:=N,ct:=N,bk:=D.nx} h H2)
def Jv(a:s_ Db)(h:gI):s_ (Db×Obj):=a.filterMap λb=>(h.get? b).map λo=>(b,o)
def ER{a:s_ Db}{h:gI}{b:Db}{o:Obj}(c:b∈a)(e:h.get? b=P3 o):(b,o)∈Jv a h:=lq.mpr #[b,c,by rw[e];rfl]
def Sy{a:s_ Db}{h:gI}{p:Db×Obj}(c:p∈Jv a h):p.1∈a/\h.get? p.1=P3 p.2:=by
 let#[b,f,e]:=lq.mp c;cases q:h.get? b with
 |none=>grind
 |some o=>
  rw[q]at e;have d:=gH e;subst d
  simp_all
def Inv.pinned{a:s_ (Db×Obj)}{Z:St}{H:Hp}{s:Go}{c:s_ Db}(I:Inv X a Z H s)(g:∀b∈c,FU X a H b)(h:∀b∈c,∃o,s.heap.get? b=P3 o/\∀v,o.data≠.cell v):Inv X (a++Jv c s.heap) Z H s:=
 I.pins_of λp i=>(eq.mp i).elim (λz=>I.pin p^gA _ z) λz=>by
  let#[f,e]:=Sy z;let#[j,k,l,_]:=g _ f;let#[o,m,d]:=h _ f
  grind
def Inv.unpinned{a b:s_ (Db×Obj)}{Z:St}{H:Hp}{s:Go}(I:Inv X (a++b) Z H s):Inv X a Z H s:=I.pins_of λp c=>I.pin p^gA _^gQ _ c
def HY{a:gZ}{t:s_ gf}{wi:TI}{g:TG}{tb:TS}{pos:Pos}(C:kT (model X.prog X.w) X.A X.env X.xe)(hc:X.calm=q_)(hi:PI X tg a wi)(hg:PG X tg g)(c:PSs X t tb)
  (hs:∀x,foldedSetIterable a X.env x=pure x:=by intro _;rfl):PS X (.For tg a t [] pos)^eA wi g tb:=by
 intro z s Z H D I h;refine wpAny_For (thn (hi z s Z H _ I h) λv s1 h1=>thn h1 λa0 s2 h2=>?_) hs;let#[it,E,tn,J,H2,e,I2,T,R,f2,W,#[m0,w0],F]:=h2;subst e;have j:∀{q:Hp},(∀b∈E,q b=p_)->∀b∈E,FU X z q b:=λhn b c=>#[hn b c,(f2 b c).2];refine codeAny_forLoop_any (λn s'=>∃i G q,Inv X z G q s'/\tn i s'.heap/\(∀b∈E,q b=p_)/\W i n G q) ?_ m0 #[0,Z,H2,I2,R,λb c=>(f2 b c).1,w0];rintro n s3 ⟨i,K,Q,I3,L,M,w3⟩
 rcases F i n K Q w3 with⟨O,qn⟩|⟨go,N,hN,step⟩
 .refine jT C^thn (T.done X rfl rfl rfl hc i z s3 K Q X.xe I3 (j M) L O) λr s4 #[S,I4]=>?_
  subst S;exact jq #[K,Q,I4,qn]
 .refine jT C^thn (T.item X rfl rfl rfl hc i z s3 K Q X.xe I3 (j M) L go) λr s4 #[u,S,h4]=>?_
  subst S;refine jT C^thn h4 λ_ s5 #[x,H5,I5,r5,y5,B,U]=>?_;have V:=I5.pinned (j U)^T.obj _ _ B;refine jT C^thn (hg _ s5 K H5 x u _ V r5^step x H5 y5) λ_ s6 #[Y,H6,I6,q6]=>?_;refine jT C^thn (c _ s6 Y H6 _ I6 q6) λf s7 y=>?_
  have again:∀{k:St}{l:Hp},Inv X (z++Jv E s5.heap) k l s7->N k l->∃m,m<n/\∃i G q,Inv X z G q s7/\tn i s7.heap/\(∀b∈E,q b=p_)/\W i m G q:=λ{k l} p P=>by
   let#[m',hm,w7]:=hN k l P;refine#[m',hm,i+1,k,l,p.unpinned,T.keep _ _ _ B λb c o e=>(p.pin (b,o)^gA _^gA _^ER c e).1,λb c=>?_,w7];let#[o,e,d]:=T.obj _ _ B b c;exact(p.pin (b,o)^gA _^gA _^ER c e).2.1
  cases f with
  |next=>let#[k,l,p,P]:=y;exact again p P
  |cont=>let#[k,l,p,P]:=y;exact again p P
  |brk=>let#[k,l,p,y]:=y;exact#[k,l,p.unpinned,y]
  |ret v=>let#[x7,k,l,p,r7,y]:=y;exact#[x7,k,l,p.unpinned,r7,y]
end
def Rp{K:Frag}{a:Db}{xs:s_ V}{g:TG}{j:TS}{D:Ends}{Z:St}{H:Hp}(b:Nat->St->Hp->Prop)(l:b 0 Z H)(n:∀i Z H,i<=xs.length->b i Z H->SqT K H a xs)
  (o:∀i x Z H,xs[i]?=P3 x->b i Z H->g x Z H λd H2=>j {D with nx:=b (i+1),ct:=b (i+1),bk:=D.nx} d H2) (r:∀Z H,b xs.length Z H->D.nx Z H):
  ∃W:Nat->Nat->St->Hp->Prop,(∃m,W 0 m Z H)/\∀i m Z H,W i m Z H->
   ((aj K a).stop i H/\D.nx Z H)\/((aj K a).go i H/\∃N:St->Hp->Prop,(∀f c,N f c->∃k,k<m/\W (i+1) k f c)/\∀x c,(aj K a).yld i H x c->g x Z c λd H2=>j {D with nx:=N,ct:=N,bk:=D.nx} d H2):=by
 exists λi m Z H=>m=xs.length - i/\i<=xs.length/\b i Z H,#[xs.length,by simp,f8 _,l];rintro i m Z H ⟨rfl,s,p⟩;have q:=n i Z H s p
 by_cases h:i<xs.length
 .refine .inr #[#[xs,xs[i],q,by simp],_,λf c t=>#[_,by lk,rfl,h,t],λx c y=>?_]
  let#[e,y]:=y;subst e;exact o i x Z _ (y xs q) p
 .have e:i=xs.length:=by lk
  subst e;exact .inl #[#[xs,q,Re _],r Z H p]
abbrev R2:=V->V->Hp->VK->Prop
def OpR(X:Cx)(f:Ev->Ev->Sem Ev)(r:R2):Prop:=
 ∀(a:s_ (Db×Obj)) (s:Go) (Z:St) (H:Hp) (x y:V) (v u:Ev) (Q:VK),Inv X a Z H s->RelV x v->RelV y u->r x y H Q->
  wpAny (model X.prog X.w) X.A (f v u) (EP X a Z Q) X.xe s
def e8(X:Cx)(f:Ev->Sem Ev)(r:V->Hp->VK->Prop):Prop:=
 ∀(a:s_ (Db×Obj)) (s:Go) (Z:St) (H:Hp) (x:V) (v:Ev) (Q:VK),Inv X a Z H s->RelV x v->r x H Q->
  wpAny (model X.prog X.w) X.A (f v) (EP X a Z Q) X.xe s
def De(X:Cx)(f:Ev)(r:s_ V->Hp->VK->Prop):Prop:=
 ∀(a:s_ (Db×Obj)) (s:Go) (Z:St) (H:Hp) (b:s_ V) (c:s_ Ev) (Q:VK),Inv X a Z H s->Vals b c->r b H Q->
  wpAny (model X.prog X.w) X.A (call f c) (EP X a Z Q) X.xe s
def e9(X:Cx)(r:V->Hp->(Bool->Hp->Prop)->Prop):Prop:=
 ∀(a:s_ (Db×Obj)) (s:Go) (Z:St) (H:Hp) (x:V) (v:Ev) (Q:Bool->Hp->Prop),Inv X a Z H s->RelV x v->r x H Q->
  wpAny (model X.prog X.w) X.A (truthy v) (TP X a Z Q) X.xe s
def D5(r:R2)(a b:TE):TE:=λZ H Q=>a Z H λx c=>b Z c λy H2=>r x y H2 Q
def fZ(r:V->Hp->VK->Prop)(a:TE):TE:=λZ H Q=>a Z H λx b=>r x b Q
def rI(C:Int->Int->Prop)(g:Int->Int->V):R2:=λx y H Q=>∃i j,x=.int i/\y=.int j/\C i j/\Q (g i j) H
def Jr(g:Int->Int->V):R2:=λx y H Q=>∃i j,x=.int i/\y=.int j/\Q (g i j) H
def rU(g:Int->V):V->Hp->VK->Prop:=λx H Q=>∃i,x=.int i/\Q (g i) H
section
variable {X:Cx}{a b:Expr}{ta tb:TE}{pos:Pos}
def aM(j:PE X a ta)(k:PE X b tb){i:s_ (Db×Obj)}{s:Go}{Z:St}{H:Hp}{R:V->V->Hp->Prop}(I:Inv X i Z H s)
  (h:ta Z H λx g=>tb Z g λy H2=>R x y H2) {Q:Ev->Go->Prop}{f:Ev->Ev->Sem Ev}
  (l:∀v u e x y H2,Inv X i Z H2 e->RelV x v->RelV y u->R x y H2->wpAny (model X.prog X.w) X.A (f v u) Q X.xe e):
  wpAny (model X.prog X.w) X.A (eval a X.env) (λv c=>wpAny (model X.prog X.w) X.A (eval b X.env) (λu d=>wpAny (model X.prog X.w) X.A (f v u) Q X.xe d) X.xe c) X.xe s:=thn (j _ s Z H _ I h) λv m #[x,g,n,o,p]=>thn (k _ m Z g _ n p) λu e #[y,H2,q,r,t]=>l v u e x y H2 q o r t
def B9{c:Operator}{r:R2}(d:OpR X (binaryOp c) r)(e:PE X a ta)(f:PE X b tb):PE X (.BinOp a c b pos)^D5 r ta tb:=λl s Z H Q I h=>wpAny_BinOp^aM e f I h λv u g x y H2 i j k q=>d _ g Z H2 x y v u Q i j k q
def bw{c:UnaryOp}{r:V->Hp->VK->Prop}(d:e8 X (unaryOp c) r)(e:PE X a ta):PE X (.UnaryOp c a pos)^fZ r ta:=λl s Z H Q I h=>UnaryOp_^thn (e _ s Z H _ I h) λv f #[x,g,i,j,k]=>d _ f Z g x v Q i j k
def dL{f:Ev->Ev->Sem Ev}{C:Int->Int->Prop}{g:Int->Int->Int}
  (c:∀(i j:Int) (t u:Tok) (s:Go) (Q:Ev->Go->Prop) (E:Ev->Go->Prop),C i j->Q (.int (g i j) s.toks) {s with toks:=s.toks+1}->wpAny (model X.prog X.w) X.A (f (.int i t)^.int j u) Q E s):
  OpR X f (rI C λi j=>.int^g i j):=by
 intro m s Z H x y v u Q I d e h;let#[i,j,rfl,rfl,k,q]:=h;let#[t,rfl]:=d;let#[l,rfl]:=e;exact c i j t l s _ _ k #[.int _,H,I.tok _,#[_,rfl],q]
def b8{f:Ev->Ev->Sem Ev}{g:Int->Int->Int}
  (c:∀(i j:Int) (t u:Tok) (s:Go) (Q:Ev->Go->Prop) (E:Ev->Go->Prop),Q (.int (g i j) s.toks) {s with toks:=s.toks+1}->wpAny (model X.prog X.w) X.A (f (.int i t)^.int j u) Q E s):
  OpR X f (Jr λi j=>.int^g i j):=by
 intro l s Z H x y v u Q I d e h;let#[i,j,rfl,rfl,q]:=h;let#[t,rfl]:=d;let#[k,rfl]:=e;exact c i j t k s _ _ #[.int _,H,I.tok _,#[_,rfl],q]
def Zp{f:Ev->Ev->Sem Ev}{g:Int->Int->Bool}
  (c:∀(i j:Int) (t u:Tok) (s:Go) (Q:Ev->Go->Prop) (E:Ev->Go->Prop),Q (.bool^g i j) s->wpAny (model X.prog X.w) X.A (f (.int i t)^.int j u) Q E s):
  OpR X f (Jr λi j=>.bl^g i j):=by
 intro l s Z H x y v u Q I d e h;let#[i,j,rfl,rfl,q]:=h;let#[t,rfl]:=d;let#[k,rfl]:=e;exact c i j t k s _ _ #[.bl _,H,I,rfl,q]
def Wm(i j:Int):Prop:=0<j/\j<1073741824
def Q6(i j:Int):Prop:=0<=j/\j<=1000000/\i.natAbs<2 ^ 64
def CMul(i j:Int):Prop:=(-(2 ^ 64)<i/\i<2 ^ 64)\/(-(2 ^ 64)<j/\j<2 ^ 64)
def CMul.ok{i j:Int}(h:CMul i j):IntMulOk i j:=by
 rcases h with⟨c,d⟩|⟨c,d⟩
 .exact .of_left^intBits_le_64 c d
 .exact .of_right^intBits_le_64 c d
def op_add:OpR X (binaryOp .Add) (Jr λi j=>.int (i+j)):=b8 λ_ _ _ _ _ _ _ q=>add_int q
def op_sub:OpR X (binaryOp .Sub) (Jr λi j=>.int (i - j)):=b8 λ_ _ _ _ _ _ _ q=>sub_int q
def Hd:OpR X (binaryOp .Mult) (rI CMul λi j=>.int (i*j)):=dL λ_ _ _ _ _ _ _ c q=>mul_int q c.ok
def JB:OpR X (binaryOp .FloorDiv) (rI Wm λi j=>.int (i / j)):=dL λi j _ _ _ _ _ c q=>by
 have d:=c.1;have e:=c.2;exact floordiv_int (by lk) (by grind)^.inl^PyProof.noPylong_small^by lk
def Ez:OpR X (binaryOp .Mod) (rI (λ_ j=>0<j) λi j=>.int (i % j)):=dL λi j _ _ _ _ _ c q=>mod_int' (by lk)^by rw[Int.fmod_eq_emod_of_nonneg i^by lk];exact q
def Jz:OpR X (binaryOp .Pow) (rI Q6 λi j=>.int (i ^ j.toNat)):=dL λ_ _ _ _ _ _ _ c q=>pow_int_small c.1 c.2.1 c.2.2 q
def fW{f:Ev->Sem Ev}{g:Int->Int}
  (c:∀(i:Int) (t:Tok) (s:Go) (Q:Ev->Go->Prop) (E:Ev->Go->Prop),Q (.int (g i) s.toks) {s with toks:=s.toks+1}->wpAny (model X.prog X.w) X.A (f^.int i t) Q E s):
  e8 X f (rU λi=>.int^g i):=by
 intro e s Z H x v Q I d h;let#[i,rfl,q]:=h;let#[t,rfl]:=d;exact c i t s _ _ #[.int _,H,I.tok _,#[_,rfl],q]
def ZC:e8 X (unaryOp .USub) (rU λi=>.int (-i)):=fW λ_ _ _ _ _ q=>neg_int q
end
def bS:V->V->Bool
 |.non,.non=>q_|.non,.int _=>q_|.int _,.non=>q_|.non,.bl _=>q_|.bl _,.non=>q_|.non,.str _=>q_|.str _,.non=>q_
 |.int _,.int _=>q_|.bl _,.bl _=>q_|.str _,.str _=>q_|.byt _,.byt _=>q_
 |.int _,.str _=>q_|.str _,.int _=>q_|.bl _,.str _=>q_|.str _,.bl _=>q_
 |_,_=>r_
def fJ:R2:=λx y H Q=>bS x y=q_/\Q (.bl (decide (x=y))) H
def fG:R2:=λx y H Q=>bS x y=q_/\Q (.bl (!decide (x=y))) H
def JH{i j:Int}:decide (V.int i=V.int j)=(i==j):=by
 rw[iK];simp
def NQ{i j:Bool}:decide (V.bl i=V.bl j)=(i==j):=by
 rw[iK];simp
def JG{i j:Str}:decide (V.str i=V.str j)=(i==j):=by
 rw[iK];simp
def R9{i j:Array UInt8}:decide (V.byt i=V.byt j)=(i.toList==j.toList):=by
 rw[iK]
 simp_all
section
variable {X:Cx}{a b:Expr}{ta tb:TE}{pos:Pos}
def BB{c:s_ (Db×Obj)}{Z:St}{H:Hp}{s:Go}{Q:VK}{k d:Bool}(I:Inv X c Z H s)(q:Q (.bl k) H)(e:k=d):EP X c Z Q (.bool d) s:=by
 subst e;exact#[.bl k,H,I,rfl,q]
def C4:OpR X (compareOp .Eq) fJ:=by
 intro g s Z H x y v u Q I f c h;let#[e,q]:=h;cases x with
 |non=>
  cases f;cases y with
  |non=>cases c;exact PySem.EqNone.eq_none_none^BB I q^by simp
  |bl j=>cases c;exact PySem.EqNone.eq_none_bool^BB I q^by simp
  |int j=>let#[d,rfl]:=c;exact PySem.EqNone.eq_none_int^BB I q^by simp
  |str j=>let#[d,rfl]:=c;exact PySem.EqNone.eq_none_str^BB I q^by simp
  |_=>exact absurd (show r_=q_ from e) gR
 |bl i=>
  cases f;cases y with
  |non=>cases c;exact PySem.EqNone.eq_bool_none^BB I q^by simp
  |bl j=>cases c;exact eq_bool^BB I q NQ
  |str j=>let#[d,rfl]:=c;exact PySem.EqMixed.eq_bool_str^BB I q^by simp
  |_=>exact absurd (show r_=q_ from e) gR
 |int i=>
  let#[t,rfl]:=f;cases y with
  |non=>cases c;exact PySem.EqNone.eq_int_none^BB I q^by simp
  |int j=>let#[d,rfl]:=c;exact eq_int^BB I q JH
  |str j=>let#[d,rfl]:=c;exact PySem.EqMixed.eq_int_str^BB I q^by simp
  |_=>exact absurd (show r_=q_ from e) gR
 |str i=>
  let#[t,rfl]:=f;cases y with
  |non=>cases c;exact PySem.EqNone.eq_str_none^BB I q^by simp
  |bl j=>cases c;exact PySem.EqMixed.eq_str_bool^BB I q^by simp
  |int j=>let#[d,rfl]:=c;exact PySem.EqMixed.eq_str_int^BB I q^by simp
  |str j=>let#[d,rfl]:=c;exact eq_str^BB I q JG
  |_=>exact absurd (show r_=q_ from e) gR
 |byt i=>
  let#[t,rfl]:=f;cases y with
  |byt j=>let#[d,rfl]:=c;exact PySem.W.eq_bytes^BB I q R9
  |_=>exact absurd (show r_=q_ from e) gR
 |_=>cases y <;>exact absurd (show r_=q_ from e) gR
def IL:OpR X (compareOp .NotEq) fG:=by
 intro g s Z H x y v u Q I f c h;let#[e,q]:=h;cases x with
 |non=>
  cases f;cases y with
  |non=>cases c;exact PySem.EqNone.ne_none_none^BB I q^by simp
  |bl j=>cases c;exact PySem.EqNone.ne_none_bool^BB I q^by simp
  |int j=>let#[d,rfl]:=c;exact PySem.EqNone.ne_none_int^BB I q^by simp
  |str j=>let#[d,rfl]:=c;exact PySem.EqNone.ne_none_str^BB I q^by simp
  |_=>exact absurd (show r_=q_ from e) gR
 |bl i=>
  cases f;cases y with
  |non=>cases c;exact PySem.EqNone.ne_bool_none^BB I q^by simp
  |bl j=>cases c;exact ne_bool^BB I q^congrArg not NQ
  |str j=>let#[d,rfl]:=c;exact PySem.EqMixed.ne_bool_str^BB I q^by simp
  |_=>exact absurd (show r_=q_ from e) gR
 |int i=>
  let#[t,rfl]:=f;cases y with
  |non=>cases c;exact PySem.EqNone.ne_int_none^BB I q^by simp
  |int j=>let#[d,rfl]:=c;exact ne_int^BB I q^congrArg not JH
  |str j=>let#[d,rfl]:=c;exact PySem.EqMixed.ne_int_str^BB I q^by simp
  |_=>exact absurd (show r_=q_ from e) gR
 |str i=>
  let#[t,rfl]:=f;cases y with
  |non=>cases c;exact PySem.EqNone.ne_str_none^BB I q^by simp
  |bl j=>cases c;exact PySem.EqMixed.ne_str_bool^BB I q^by simp
  |int j=>let#[d,rfl]:=c;exact PySem.EqMixed.ne_str_int^BB I q^by simp
  |str j=>let#[d,rfl]:=c;exact ne_str^BB I q^congrArg not JG
  |_=>exact absurd (show r_=q_ from e) gR
 |byt i=>
  let#[t,rfl]:=f;cases y with
  |byt j=>let#[d,rfl]:=c;exact PySem.W.ne_bytes^BB I q^congrArg not R9
  |_=>exact absurd (show r_=q_ from e) gR
 |_=>cases y <;>exact absurd (show r_=q_ from e) gR
def op_lt:OpR X (compareOp .Lt) (Jr λi j=>.bl (decide (i<j))):=Zp λ_ _ _ _ _ _ _ q=>mr q
def Yk:OpR X (compareOp .Gt) (Jr λi j=>.bl (decide (j<i))):=Zp λ_ _ _ _ _ _ _ q=>gt_int q
def b7:OpR X (compareOp .GtE) (Jr λi j=>.bl (decide (j<=i))):=Zp λ_ _ _ _ _ _ _ q=>ge_int q
def Sw:OpR X (compareOp .Lt) (λx y H Q=>∃i j,x=.str i/\y=.str j/\Q (.bl (decide (i.cps.toList<j.cps.toList))) H):=by
 intro e s Z H x y v u Q I c d h;let#[i,j,rfl,rfl,q]:=h;let#[t,rfl]:=c;let#[f,rfl]:=d;exact lt_str (BB I q rfl)
def J1:OpR X (compareOp .Is) (λx y H Q=>y=.non/\Q (.bl (decide (x=.non))) H):=by
 intro e s Z H x y v u Q I c d h;let#[rfl,q]:=h;cases d;refine is_none_gen^BB I q ?_
 cases x <;>first
  |omega
  |(let#[t,rfl]:=c;rfl)
def JA:OpR X (compareOp .IsNot) (λx y H Q=>y=.non/\Q (.bl (!decide (x=.non))) H):=by
 intro e s Z H x y v u Q I c d h;let#[rfl,q]:=h;cases d;refine isnot_none_gen^BB I q ?_
 cases x <;>first
  |omega
  |(let#[t,rfl]:=c;rfl)
def OpR.or{f:Ev->Ev->Sem Ev}{r c:R2}(h:OpR X f r)(g:OpR X f c):OpR X f (λx y H Q=>r x y H Q\/c x y H Q):=by
 intro i s Z H x y v u Q I d e q
 rcases q with q|q
 .exact h _ s Z H x y v u Q I d e q
 .exact g _ s Z H x y v u Q I d e q
def Ak(b:gZ){c:CmpOp}(h:c≠.In:=by cbv)(f:c≠.NotIn:=by cbv):behindInMarks c b=r_:=by
 have d:(c==CmpOp.In)=r_:=by grind
 have e:(c==CmpOp.NotIn)=r_:=by grind
 cases b <;>simp[behindInMarks,d,e]
def XZ{c:CmpOp}{r:R2}(d:OpR X (compareOp c) r)(e:PE X a ta)(f:PE X b tb)(g:behindInMarks c b=r_):PE X (.Compare a [c] [b] pos)^D5 r ta tb:=λm s Z H Q I h=>wpAny_Compare1 (aM e f I h λv u i x y H2 j k l q=>d _ i Z H2 x y v u Q j k l q) g
def UQ(t:TE):TT:=λZ H Q=>t Z H λx c=>∃k,x=.bl k/\Q k c
def Gr{d:CmpOp}{r:R2}(f:OpR X (compareOp d) r)(g:PE X a ta)(i:PE X b tb)(j:behindInMarks d b=r_):PT X (.Compare a [d] [b] pos)^UQ^D5 r ta tb:=by
 intro F s Z H Q I h
 refine wpAny_isTrue_Compare1 (thn (g _ s Z H _ I h) λv l #[x,m,n,o,p]=>thn (i _ l Z m _ n p) λu q #[y,H2,t,w,A]=>
  thn (f _ q Z H2 x y v u _ t o w A) λc G #[z,B,C,D,k,e,E]=>?_) j
 subst e;cases D;exact iw #[B,C,E]
def aY(K:Frag)(x:V)(H:Hp)(k:Bool):Prop:=
 match x with
 |.non=>k=r_
 |.bl b=>k=b
 |.int i=>k=(i !=0)
 |.str y=>y.length<=sizeLine/\k=((y.length:Int) !=0)
 |.byt y=>y.size<=sizeLine/\k=((y.size:Int) !=0)
 |.ref p=>(∃c,SqL K H p c/\k=!c.isEmpty)\/(∃c,SqT K H p c/\k=!c.isEmpty)\/∃d,H p=P3^.dK d/\k=!d.isEmpty
 |_=>False
def QX{d:Type}{c:s_ (d×V)}{e:s_ (d×Ev)}(r:KV c e):(!e.isEmpty)=!c.isEmpty:=by
 cases r <;>rfl
def KW{d:s_ V}{c:s_ Ev}(r:Vals d c):(!c.toArray.isEmpty)=!d.isEmpty:=by
 cases r <;>simp
def Hf:(sizeLine:Nat)<2 ^ 63:=by cbv
def ZF:e9 X (λx H Q=>∃k,aY X.K x H k/\Q k H):=by
 intro C s Z H x v Q I j h;let#[k,e,q]:=h;have D:=Hf;have E:sizeLine=16777216:=gz;cases x with
 |non=>
  cases j;have c:k=r_:=e;subst c;exact truthy_none #[H,I,q]
 |bl b=>
  cases j;have c:k=b:=e;subst c;exact iw #[H,I,q]
 |int i=>
  let#[t,rfl]:=j;have c:k=(i !=0):=e;subst c;exact PySem.P.truthy_int #[H,I,q]
 |str y=>
  let#[t,rfl]:=j;obtain⟨A,c⟩:y.length<=sizeLine/\k=((y.length:Int) !=0):=e;subst c;exact PySem.P.truthy_str (by lk) #[H,I.tok _,q]
 |byt y=>
  let#[t,rfl]:=j;obtain⟨A,c⟩:y.size<=sizeLine/\k=((y.size:Int) !=0):=e;subst c;exact PySem.W.truthy_bytes (by lk) #[H,I.tok _,q]
 | ref p=>
  cases j;have c:(∃g,SqL X.K H p g/\k=!g.isEmpty)\/(∃g,SqT X.K H p g/\k=!g.isEmpty)\/∃d,H p=P3^.dK d/\k=!d.isEmpty:=e
  rcases c with⟨g,l,c⟩|⟨g,l,c⟩|⟨d,l,c⟩
  .subst c
   let#[o,r,u,z]:=I.list l;have f:=r.length;exact wpAny_truthy_list u.isList (by simp only[f_];lk) #[H,I.tok _,by rw[KW r];exact q]
  .subst c
   let#[o,r,u,z]:=I.tuple l;have f:=r.length;exact truthy_tuple u (by simp only[f_];lk) #[H,I.tok _,by rw[KW r];exact q]
  .subst c
   obtain⟨z,B,n,r,m⟩:d.length<=sizeLine/\(p==sysModules)=r_/\∃n,KV d n/\s.heap.DictOf (BU X.prog X.w) p n:=I.hok p _ l;have f:d.length=n.length:=Paired.length r;exact wpAny_truthy_dict B m (by lk) #[H,I.tok _,by rw[QX r];exact q]
 |_=>exact(show False from e).elim
def U8(e:PE X a ta)(f:∀c,isTrue a X.env c=(do let v ←c;standAt a.pos;holding [v]^truthy v)):
  PT X a (λZ H Q=>ta Z H λx d=>∃k,aY X.K x d k/\Q k d):=λn s Z H Q I h=>isTrue_plain (thn (e _ s Z H _ I h) λv g #[x,i,j,l,m]=>ZF _ g Z i x v Q j l m)^f _
def QL:OpR X (binaryOp .Add) (λx y H Q=>∃i j,x=.str i/\y=.str j/\i.length+j.length<=sizeLine/\Q (.str (i++j)) H):=by
 intro g s Z H x y v u Q I c d h;let#[i,j,rfl,rfl,e,q]:=h;let#[t,rfl]:=c;let#[f,rfl]:=d;exact add_str (λf k=>#[.str _,H,I.tok _,#[_,rfl],q]) e
def vals1{x:V}{c:s_ Ev}(r:Vals [x] c):∃u,c=[u]/\RelV x u:=by
 cases r with
 |cons e d=>cases d;grind
def vals2{x y:V}{c:s_ Ev}(r:Vals [x,y] c):∃u d,c=[u,d]/\RelV x u/\RelV y d:=by
 cases r with
 |cons e f=>
  cases f with
  |cons g h=>cases h;exact#[_,_,rfl,e,g]
def Tj(e:X.calm=q_):De X (.builtin "min") (λd H Q=>∃i j,d=[.int i,.int j]/\Q (.int (if j<i then j else i)) H):=by
 intro f s Z H d g Q I r h;let#[i,j,rfl,q]:=h;let#[u,l,rfl,#[t,rfl],#[m,rfl]]:=vals2 r;refine min_two_ints (I.ok.hd e) λn o k=>#[_,H,I.kept k,?_,q]
 by_cases c:j<i
 .rw[if_pos c,if_pos c];exact#[_,rfl]
 .rw[if_neg c,if_neg c];exact#[_,rfl]
def ah(K:Frag)(x:V)(H:Hp)(n:Nat):Prop:=
 match x with
 |.str y=>y.length<=sizeLine/\n=y.length
 |.byt y=>y.size<=sizeLine/\n=y.size
 |.ref p=>(∃c,SqL K H p c/\n=c.length)\/∃c,SqT K H p c/\n=c.length
 |_=>False
def A8:De X (.builtin "len") (λc H Q=>∃x n,c=[x]/\ah X.K x H n/\Q (.int n) H):=by
 intro v s Z H c w Q I r h;let#[x,n,rfl,e,q]:=h;let#[u,rfl,g]:=vals1 r;have z:=Hf;have A:sizeLine=16777216:=gz;cases x with
 |str y=>
  let#[t,rfl]:=g;obtain⟨m,f⟩:y.length<=sizeLine/\n=y.length:=e;subst f;exact len_str (by lk) #[.int _,H,I.tok _,#[_,rfl],q]
 |byt y=>
  let#[t,rfl]:=g;obtain⟨m,f⟩:y.size<=sizeLine/\n=y.size:=e;subst f;exact PySem.W.len_bytes (by lk) #[.int _,H,I.tok _,#[_,rfl],q]
 | ref p=>
  cases g;have f:(∃c,SqL X.K H p c/\n=c.length)\/∃c,SqT X.K H p c/\n=c.length:=e
  rcases f with⟨c,i,f⟩|⟨c,i,f⟩
  .subst f
   let#[j,k,l,o]:=I.list i;have d:=k.length;exact Calls.call_len_list l.isList (by simp only[f_];lk) #[.int c.length,H,I.tok _,#[_,by simp only[f_];rw[d]],q]
  .subst f
   let#[j,k,l,o]:=I.tuple i;have d:=k.length;exact len_tuple l (by simp only[f_];lk) #[.int c.length,H,I.tok _,#[_,by simp only[f_];rw[d]],q]
 |_=>exact(show False from e).elim
end
structure ObjM (h:gI) (x dx C:Db) (mA:Str->Option Ev):Prop where
 obj:h.get? x=P3 (PySem.W.instObj C dx)
 ns:h.Ns1 dx mA
 ne:dx≠x
def Lu{h:gI}{d:Db}{f:Str->t_ Ev}(n:h.Ns1 d f):∃g,h.get? d=P3 g/\∀b,PySem.W.lookIn b g=P3^f b:=by
 let#[o,i,q,j,k,l,_,m]:=n;refine#[o,j,λb=>?_];have e:=m b;unfold nsFind findBy at e;unfold PySem.W.lookIn;rw[k]
 dsimp only
 split
 .simp_all
 .have a:i.toList.any (·.refKey)=r_:=by
   rw[List.any_eq_false];intro y p;let#[z,t,c]:=l y^Array.mem_toList_iff.mp p;simp[DictEntry.refKey,c]
  grind
def ObjM.look{h:gI}{x c C:Db}{d:Str->t_ Ev}(I:ObjM h x c C d):∃b,PySem.W.InstAt h x (PySem.W.instObj C c) C^P3 b/\∀a,PySem.W.lookIn a b=P3^d a:=
 let #[b,e,f]:=Lu I.ns
 #[b,#[I.obj,rfl,rfl,e],f]
def Ei(f:Str)(v:V):s_ (Str×V)->s_ (Str×V)
 |[]=>[(f,v)]
 |(g,x)::r=>if g=f then(g,v)::r else(g,x)::Ei f v r
theorem IT(f g:Str)(v:V):∀c:s_ (Str×V),(Ei f v c).lookup g=if g=f then P3 v else c.lookup g
 |[]=>by
  show jO g [(f,v)]=_
  by_cases h:g=f
  .simp_all
  simp_all
 | (k,x)::r=>by
  have d:=IT f g v r;rw[show Ei f v ((k,x)::r)=(if k=f then(k,v)::r else(k,x)::Ei f v r)from rfl]
  by_cases a:k=f
  .rw[if_pos a]
   by_cases h:g=k
   .simp_all
   .have b:(g==k)=r_:=beq_eq_false_iff_ne.mpr h
    simp only[jO,b,if_neg λe:g=f=>h^e.trans a.symm]
  .rw[if_neg a]
   by_cases h:g=k
   .simp_all
   .have b:(g==k)=r_:=beq_eq_false_iff_ne.mpr h
    simp only[jO,b];exact d
theorem Hi(f:Str)(v:V):∀a:s_ (Str×V),f∈(Ei f v a).map (·.1)/\∀g,g∈a.map (·.1)->g∈(Ei f v a).map (·.1)
 |[]=>#[by simp[Ei],λg h=>by simp at h]
 |(k,x)::r=>by
  let#[b,c]:=Hi f v r;rw[show Ei f v _=(if k=f then(k,v)::r else(k,x)::Ei f v r)from rfl]
  grind
theorem IU(f:Str)(v:V):∀a:s_ (Str×V),(Ei f v a).length<=a.length+1
 |[]=>by simp[Ei]
 |(k,x)::r=>by
  have b:=IU f v r;rw[show Ei f v _=(if k=f then(k,v)::r else(k,x)::Ei f v r)from rfl]
  grind
def RelO.some_of{v:V}{o:t_ Ev}(r:RelO (P3 v) o):∃u,o=P3 u/\RelV v u:=by
 cases o with
 |none=>exact(r).elim
 |some u=>exact#[u,rfl,r]
def TX{v:V}{u:Ev}(r:RelV v u):PySem.W.handedIn u=q_:=by
 cases v with
 |non=>cases(r);rfl
 |bl b=>cases(r);rfl
 |int i=>let#[t,e]:=(r);cases e;rfl
 |str x=>let#[t,e]:=(r);cases e;rfl
 |byt b=>let#[t,e]:=(r);cases e;rfl
 |flt b=>let#[t,e]:=(r);cases e;rfl
 |ref a=>cases(r);rfl
 |ty n=>cases(r);rfl
section
variable {P:Program}{w:World}{H:Hp}{h:Heap}{a C dx:Addr}{fs:s_ (Str×V)}
def Xs(c:HOk P w H h)(e:H a=P3^.ins C dx fs):∃b,ObjM h a dx C b/\(∀f,RelO (fs.lookup f)^b f)/\PySem.Within b (fs.map (·.1))/\fs.length<=1000/\H dx=P3^.own a:=by
 let#[d,z,g,i,b,n,r,q]:=(c a _ e);exact#[b,#[i,n,g],r,q,z,d]
end
structure Cls (K:Frag) (C:Db):Prop where
 pg:PySem.W.plainGet K C Str.empty=q_
 hd:PySem.W.hasDictIn K C=q_
 po:PySem.W.plainOver K C=q_
 sa:PySem.W.findIn K (.ref C) "__setattr__"=P3^P3^.builtin "object.__setattr__"
def Cls.get{K:Frag}{C:Db}(c:Cls K C)(f:Str):PySem.W.plainGet K C f=q_:=c.pg
def GW(K:Frag)(C:Db)(f:Str):Prop:=PySem.W.findIn K (.ref C) f=P3 p_
structure f9 (K:Frag) (C:Db) (f:Str) (v:V) (u:Ev):Prop where
 at_:PySem.W.findIn K (.ref C) f=P3 (P3 u)
 rel:RelV v u
 get:PySem.W.specialIn K u "__get__"=P3 p_
 cp:PySem.W.copiedNames.contains f=r_
structure fz (K:Frag) (C:Db) (m:Str) (f:Db):Prop where
 at_:PySem.W.findIn K (.ref C) m=P3 (P3^.ref f)
 fn:PySem.W.isFn K^.ref f=q_
 kp:keepIn K^.ref f=q_
section
variable {s:Shared}{f:Str}{A:Around}{E:Value->Shared->Prop}
def YG{a:gN}{w:gY}{b:Env}{e:gZ}{f:Str}{pos:Pos}{s:Go}{Q:Ev->Go->Prop}(d:attributeBase e f b^eval e b=eval e b)
  (h:wpAny (model a w) A (eval e b) (λo c=>wpAny (model a w) A (getAttr o f q_) Q E c) E s):wpAny (model a w) A (eval (.Attribute e f pos) b) Q E s:=
 Attribute_any_ h (by rw[arm_eval_Attribute,d])
end
section
variable {X:Cx}{zH:s_ (Addr×Obj)}{Z:St}{H:Hp}{s:Shared}{A:Around}{E:Value->Shared->Prop}{Q:Value->Shared->Prop}{c:Value}{b:Bool}
inductive GV (K:Frag) (H:Hp):V->Ev->Prop where
 |non:GV K H .non^.type "NoneType"
 |bl (x:Bool):GV K H (.bl x)^.type "bool"
 |int (i:Int):GV K H (.int i)^.type "int"
 |str (x:Str):GV K H (.str x)^.type "str"
 |flt (x:UInt64):GV K H (.flt x)^.type "float"
 |lst {a:Db}{xs:List V} (e:H a=P3^.lst xs):GV K H (.ref a)^.type "list"
 |frz {a:Db}{o:Obj}{xs:List V} (e:H a=P3^.frz o^.lst xs):GV K H (.ref a)^.type "list"
 |tup {a:Db}{xs:List V} (e:H a=P3^.tup xs):GV K H (.ref a)^.type "tuple"
 |dF {a:Db}{o:Obj}{kvs:List (Key×V)} (e:H a=P3^.frz o^.dK kvs):GV K H (.ref a)^.type "dict"
 |dK {a:Db}{kvs:List (Key×V)} (e:H a=P3^.dK kvs):GV K H (.ref a)^.type "dict"
 |dT {a:Db}{kvs:List (List Key×V)} (e:H a=P3^.dT kvs):GV K H (.ref a)^.type "dict"
 | ins {a C dx:Db}{fs:List (Str×V)} (e:H a=P3^.ins C dx fs) (cl:Cls K C) (ha:PySem.W.findIn K (.ref C) "__class__"=P3^P3^.builtin "object.__class__")
   (hn:PySem.W.specialIn K (.builtin "object.__class__") "__get__"=P3^P3^.builtin "getset_descriptor.__get__") (htk:PySem.W.takesIn K^.builtin "object.__class__"=P3 q_)
   (hm:PySem.W.mroIn K C^.type "object"=P3 q_):GV K H (.ref a)^.ref C
def TR{x:V}{u t:Ev}(I:Inv X zH Z H s)(f:RelV x u)(ty:GV X.K H x t)(e:PySem.W.kitOne X.K t c=P3 b)(h:∀F,Q (.bool b) {s with toks:=F}):
  wpAny (model X.prog X.w) A (call (.builtin "isinstance") [u,c]) Q E s:=by
 cases ty with
 |non=>cases(show u=gh from f);exact PySem.W.kia_one PySem.W.kitx_none I.kIn jD e (λz=>nomatch z) h
 |bl y=>cases(show u=lF y from f);exact PySem.W.kia_one PySem.W.kitx_bool I.kIn jD e (λz=>nomatch z) h
 |int i=>let#[t,q]:=(show ∃t,u=Value.int i t from f);cases q;exact PySem.W.kia_one PySem.W.kitx_int I.kIn jD e (λz=>nomatch z) h
 |str y=>let#[t,q]:=(show ∃t,u=Value.str y t from f);cases q;exact PySem.W.kia_one PySem.W.kitx_str I.kIn jD e (λz=>nomatch z) h
 |flt y=>let#[t,q]:=(show ∃t,u=Value.float y t from f);cases q;exact PySem.W.kia_one PySem.W.kitx_float I.kIn jD e (λz=>nomatch z) h
 |@lst a l d=>
  cases(show u=gE a from f);let#[_,_,n,_,g]:=(show ObjOk X.prog X.w H s.heap a^.lst l from I.hok a _ d);exact PySem.W.kia_one PySem.W.kitx_list I.kIn #[_,g,rfl] e (λz=>nomatch z) h
 |@frz a m l d=>
  cases(show u=gE a from f);let#[_,_,_,n,_,g]:=(show ObjOk X.prog X.w H s.heap a^.frz m^.lst l from I.hok a _ d);exact PySem.W.kia_one PySem.W.kitx_list I.kIn #[_,g,rfl] e (λz=>nomatch z) h
 |@tup a l d=>
  cases(show u=gE a from f);let#[_,_,_,p]:=(show ObjOk X.prog X.w H s.heap a^.tup l from I.hok a _ d);let#[o,g,k,_]:=p;exact PySem.W.kia_one PySem.W.kitx_tuple I.kIn #[o,g,k] e (λz=>nomatch z) h
 |@dF a m j d=>
  cases(show u=gE a from f);let#[_,_,_,G,_,p]:=(show ObjOk X.prog X.w H s.heap a^.frz m^.dK j from I.hok a _ d);let#[o,v,B,g,k,_]:=p;exact PySem.W.kia_one PySem.W.kitx_dict I.kIn #[o,g,k.1] e (λz=>nomatch z) h
 |@dK a j d=>
  cases(show u=gE a from f);let#[_,_,G,_,p]:=(show ObjOk X.prog X.w H s.heap a^.dK j from I.hok a _ d);let#[o,v,B,g,k,_]:=p;exact PySem.W.kia_one PySem.W.kitx_dict I.kIn #[o,g,k.1] e (λz=>nomatch z) h
 |@dT a j d=>
  cases(show u=gE a from f);let#[_,_,l,_,o,v,B,g,k,_]:=(show ObjOk X.prog X.w H s.heap a^.dT j from I.hok a _ d);exact PySem.W.kia_one PySem.W.kitx_dict I.kIn #[o,g,k.1] e (λz=>nomatch z) h
 |@ins a C P R d D L M r N=>
  cases(show u=gE a from f);let#[S,O,_]:=Xs I.hok d;let#[T,J,_]:=O.look;exact PySem.W.kia_one (PySem.W.kitx_own (D.get _) D.hd L M r N) I.kIn J e (λz=>nomatch z) h
end
structure Room (k:Nat) (A:gc):Prop where
 hd:A.handled=p_
 dp:A.depth+3*k+5<recursionLimit
 un:A.units+16*k+200<cLine
 gd:A.guards=P3 []
def Room.mono{j k:Nat}{A:gc}(r:Room k A)(h:j<=k):Room j A:=#[r.hd,by have:=r.dp;lk,by have:=r.un;lk,by first|exact r.gd|grind|grind]
def Room.deeper{k:Nat}{A:gc}(r:Room (k+1) A)(a:Env):Room k^A.deeper a:=
 #[r.hd,by have:=r.dp;show A.depth+1+3*k+5<_;lk,by have:=r.un;show A.units+3+16*k+200<_;lk,by first|exact r.gd|omega|grind]
def Room.in1{k:Nat}{A:gc}(r:Room (k+1) A):Room k A.in1:=
 #[r.hd,by have:=r.dp;grind,by have:=r.un;grind,by first|exact r.gd|omega|grind]
def QS{A:gc}{C:Db}{a:s_ Ev}{b:s_ (Str×Ev)}:(A.under^.builtin "type.__call__" #[.ref C::a,b]).depth=A.depth+1:=by
 first|rfl|omega
def QR{A:gc}{C:Db}{a:s_ Ev}{b:s_ (Str×Ev)}:(A.under^.builtin "type.__call__" #[.ref C::a,b]).units=A.units+1:=by
 first|rfl|omega
def Room.make{k:Nat}{A:gc}(r:Room (k+1) A)(C:Db)(a:s_ Ev)(b:s_ (Str×Ev)):Room k^A.under^.builtin "type.__call__" #[.ref C::a,b]:=
 #[r.hd,by have:=r.dp;rw[QS];lk,by have:=r.un;rw[QR];lk,by first|exact r.gd|omega|grind]
def Room.depth{k:Nat}{A:gc}(r:Room k A):A.depth<recursionLimit:=by have:=r.dp;lk
def Room.units{k:Nat}{A:gc}(r:Room k A):A.units+64<cLine:=by have:=r.un;lk
def Room.units0{k:Nat}{A:gc}(r:Room k A):A.units<cLine:=by have:=r.un;lk
def W4:TA:=λ_ H Q=>Q [] H
def RC(a:TE)(b:TA):TA:=λZ H Q=>a Z H λx c=>b Z c λd H2=>Q (x::d) H2
section
variable {X:Cx}{e:Expr}{es:s_ Expr}{te:TE}{t:TA}{pos:Pos}
def Cb:PA X [] W4:=λ_ _ _ _ H Q I h=>jI #[[],H,I,.nil,h]
def Bl(a:PE X e te)(b:PA X es t)(c:starEach (e::es) X.env=(r_,eval e X.env)::starEach es X.env:=by rfl):PA X (e::es)^RC te t:=by
 intro d o s Z H Q I h;rw[c];exact ij^thn (a _ s Z H _ I h) λu f #[x,g,i,j,k]=>thn (b _ _ f Z g _ i k) λp q #[r,H2,l,m,n]=>#[_,H2,l,.cons j m,n]
def di(t:TA):TE:=λZ H Q=>t Z H λa b=>a.length<=sizeLine/\∀p,b p=p_->Q (.ref p)^A5 b p^.tup a
def d8(t:TA):TE:=λZ H Q=>t Z H λa b=>a.length<=sizeLine/\∀p,b p=p_->Q (.ref p)^A5 b p^.lst a
def Zg{x1}(h:PA X es t):PE X (.Tuple es x1 pos)^di t:=by
 intro f s Z H Q I g;refine wpAny_Tuple_spliced^thn (h pos f s Z H _ I g) λi a #[j,c,d,r,z,q]=>#[by rw[←r.length];exact z,?_];have k:c a.heap.objs.size=p_:=d.hok.fresh^Re _;refine#[.ref a.heap.objs.size,A5 c a.heap.objs.size^.tup j,d.laid (t':=a.toks) (λb u e=>FM _ e) (Re _) ?_,rfl,q _ k];exact#[z,i,r,IsTupN.new _ _]
def QI(h:PA X es t):PE X (.List es pos)^d8 t:=by
 intro f s Z H Q I g;refine wpAny_List_spliced^thn (h pos f s Z H _ I g) λi a #[j,c,d,r,z,q]=>#[by rw[←r.length];exact z,?_];have k:c a.heap.objs.size=p_:=d.hok.fresh^Re _;refine#[.ref a.heap.objs.size,A5 c a.heap.objs.size^.lst j,d.laid (t':=a.toks) (λb u e=>FM _ e) (Re _) ?_,rfl,q _ k];exact#[z,i,0,r,UF _ rfl]
end
abbrev Sp:=s_ V->Hp->VK->XK->Prop
abbrev T3:=s_ Env->Hp->Go->XK->Ev->Go->Prop
structure Env0 (P:gN) (w:gY) (K:Frag) (mg:Str->Option Ev) (base:gI) (A:gc) (outer:List Env) (s:Go) (H:Hp):Prop where
 frames:A.frames=P3 outer
 mod:Mod K mg base
 bs:∀b o,base.get? b=P3 o->s.heap.get? b=P3 o/\H b=p_
 bsz:base.objs.size<=s.heap.objs.size
 funs:s.heap.FunFrames base outer
 frf:∀b∈L8 outer,H b=p_
 hok:HOk P w H s.heap
 bare:j6 s.gens
def CE(a:s_ Env)(P:gN)(w:gY)(H:Hp)(s:Go)(Q:VK)(u:Ev)(b:Go):Prop:=
 ∃v c,b.os=s.os/\j6 b.gens/\Un (L8 a) [] H c s.heap b.heap/\HOk P w c b.heap/\RelV v u/\Q v c
def CR(c:T3)(a:s_ Env)(P:gN)(w:gY)(H:Hp)(s:Go)(Q:VK)(E:XK)(r:Result)(b:Go):Prop:=
 match r with
 |.ok (.ret u)=>CE a P w H s Q u b
 |.ok _=>False
 |.error e=>c a H s E e b
structure CW (P:gN) (w:gY) (K:Frag) (mg:Str->Option Ev) (base:gI) (CX:T3) (k:Nat) (f:Db) (fd:gy) (ps:List Str) (sp:Sp):Prop where
 len:∀vs H Q E,sp vs H Q E->vs.length=ps.length
 run:∀(A:gc) (outer:List Env) (s:Go) (H:Hp) (args:Args) (us:List Ev) (vs:List V) (Q:VK) (E:XK),Room k A->Env0 P w K mg base A outer s H->lg s fd args^ps.zip us->Vals vs us->sp vs H Q E->
  codeAny (model P w) A (.call (.ref f) args) (CR CX outer P w H s Q E) s
def Env0.make{P:gN}{w:gY}{K:Frag}{c:Str->t_ Ev}{b:gI}{A:gc}{a:s_ Env}{s:Go}{H:Hp}(e:Env0 P w K c b A a s H)(C:Db)(d:s_ Ev)(f:s_ (Str×Ev)):
  Env0 P w K c b (A.under^.builtin "type.__call__" #[.ref C::d,f]) a s H:=#[by first|exact e.frames|grind,e.mod,e.bs,e.bsz,e.funs,e.frf,e.hok,e.bare]
def Env0.in1{P:gN}{w:gY}{K:Frag}{c:Str->t_ Ev}{b:gI}{A:gc}{a:s_ Env}{s:Go}{H:Hp}(e:Env0 P w K c b A a s H):
  Env0 P w K c b A.in1 a s H:=#[e.frames,e.mod,e.bs,e.bsz,e.funs,e.frf,e.hok,e.bare]
section
variable {X:Cx}{zH:s_ (Addr×Obj)}{Z:St}{H:Hp}{s s':Shared}
def Inv.env0(I:Inv X zH Z H s):Env0 X.prog X.w X.K X.mg X.base X.A X.stack s H:=
 #[I.ok.frames,I.ok.mod,I.bs,gG I.ok.bsz I.sz,I.stack,I.stkFree,I.hok,I.bare]
def Inv.after{Q:VK}{u:Ev}(I:Inv X zH Z H s)(h:CE X.stack X.prog X.w H s Q u s'):EP X zH Z Q u s':=by
 let#[v,f,i,a,j,c,r,q]:=h;let#[k,g,d,t,e]:=s';obtain rfl:e=s.os:=i;exact#[v,f,I.call j c a λb z=>absurd z^by simp,r,q]
end
def UR(b:Sp)(a:s_ V)(E:XK)(t:TA):TE:=λZ H Q=>t Z H λc d=>b (c++a) d Q E
def Binds(K:Frag)(fd:gy)(b:s_ Str)(c:s_ Ev):Prop:=
 ∀(s:Go) (a:s_ Ev),K.In s.heap->(a++c).length=b.length->lg s fd #[a,[]]^b.zip (a++c)
def Binds.all{K:Frag}{fd:gy}{b:s_ Str}(h:∀a:s_ Ev,a.length=b.length->bindArgs fd #[a,[]]=pure^b.zip a):Binds K fd b []:=λs a _ c=>by
 rw[gK]at c ⊢;exact .of_eq^h a c
def Hz(b:T3)(X:Cx)(E:XK):Prop:=∀(c:s_ (Db×Obj)) (Z:St) (H:Hp) (s:Go) (e:Ev) (a:Go),Inv X c Z H s->b X.stack H s E e a->X.xe e a
section
variable {X:Cx}{CX:T3}{k:Nat}{f C:Addr}{fd:FuncData}{ps:s_ Str}{sp:Sp}{dvs:s_ V}{ds:s_ Value}{E:XK}{x:Str}{p pos:Pos}{e:Expr}{es:s_ Expr}{t:TA}
def ZT{d:s_ (Db×Obj)}{Z:St}{H:Hp}{s:Go}{Q:VK}{a:s_ Ev}{c:s_ V}(F:CW X.prog X.w X.K X.mg X.base CX k f fd ps sp)(i:Room k X.A)(j:Binds X.K fd ps ds)(hd:Vals dvs ds)(hx:Hz CX X E)
  (I:Inv X d Z H s) (r:Vals c a) (h:sp (c++dvs) H Q E):wpAny (model X.prog X.w) X.A (call (.ref f) a) (EP X d Z Q) X.xe s:=by
 have g:Vals (c++dvs) (a++ds):=r.append hd;have l:(a++ds).length=ps.length:=by rw[←g.length];exact F.len _ _ _ _ h
 refine jP^jg (F.run X.A X.stack s H #[a,[]] (a++ds) (c++dvs) Q E i I.env0 (j s a I.kIn l) g h) λr m b=>?_;cases r with
 |error e=>exact hx d Z H s e m I b
 |ok n=>
  cases n with
  |ret u=>exact I.after b
  |next=>exact g8 b
  |brk=>exact g8 b
  |cont=>exact g8 b
def RS(F:CW X.prog X.w X.K X.mg X.base CX k f fd ps sp)(d:Room k X.A)(g:Gl X x)(i:X.mg x=P3^.ref f)(j:keepIn X.K^.ref f=q_)(l:Binds X.K fd ps ds)(hd:Vals dvs ds)(hx:Hz CX X E)
  (m:PA X (e::es) t) (a:(x==("__debug__":Str))=r_:=by cbv) (n:starEach (e::es) X.env=(r_,eval e X.env)::starEach es X.env:=by rfl) (b:(backTo pos^starEach es X.env).any (·.1)=r_:=by rfl):
  PE X (.Call (.Name x p) (e::es) [] pos) (UR sp dvs E t):=λo s Z H Q I h=>hU^Dq I g i (PySem.W.callWith_K I.ok.mod.kin j (thn (m _ _ s Z H _ I h) λu v #[y,z,c,r,q]=>#[c.kIn,ZT F d l hd hx c r q]) n b) a
structure Mk (K:Frag) (C f:Db):Prop where
 makes:PySem.W.makesIn K C=q_
 init:PySem.W.findIn K (.ref C) "__init__"=P3 (P3^.ref f)
 fn:PySem.W.isFn K^.ref f=q_
 kp:keepIn K^.ref C=q_
end
section
variable {fd:FuncData}{ps ks:s_ Str}
structure fB (K:Frag) (fd:gy) (ps ks:List Str) (g:List Ev->List Ev->List Ev) (gV:List V->List V->List V):Prop where
 to:∀(s:Go) (us ws:List Ev),K.In s.heap->(g us ws).length=ps.length->lg s fd #[us,ks.zip ws] (ps.zip^g us ws)
 rel:∀{vs:List V}{us:List Ev}{zs:List V}{ws:List Ev},Vals vs us->Vals zs ws->Vals (gV vs zs)^g us ws
end
structure Ag (N P:List Str) (sc:jB):Prop where
 kind:sc.kind=.function
 co:sc.isCoroutine=r_
 gen:sc.isGenerator=r_
 nd:N.Nodup
 pre:N.take P.length=P
 par:∀x∈P,sc.names.lookup x=P3 .local\/sc.names.lookup x=P3 .cell
 nofree:∀y∈sc.names,y.2≠.free
theorem MG{a:Str->t_ jL}{x:Str}:∀{binds:s_ (Str×Ev)}{m:Str->t_ Ev},(∀v,(x,v)∉binds)->bindL a binds m x=m x
 |[],_,_=>rfl
 |(n,v)::r,m,h=>by
  unfold bindL;rw[MG λw b=>h w^TM _ b]
  split
  .grind
  .rfl
theorem MI{a:Str->t_ jL}{x:Str}:∀{binds:s_ (Str×Ev)}{m:Str->t_ Ev},(∀v,(x,v)∉binds)->bindC a binds m x=m x
 |[],_,_=>rfl
 |(n,v)::r,m,h=>by
  unfold bindC;rw[MI λw b=>h w^TM _ b]
  split
  .rfl
  grind
theorem MH{a:Str->t_ jL}{x:Str}{v:Ev}:∀{P:s_ Str}{b:s_ Ev}{i:Nat}{m:Str->t_ Ev},P.Nodup->P[i]?=P3 x->b[i]?=P3 v->a x=P3 .local->
  bindL a (P.zip b) m x=P3 v
 |[],_,_,_,_,h,_,_=>by simp at h
 |_::_,[],_,_,_,_,h,_=>by simp at h
 |p::P,w::b,0,m,c,d,e,f=>by
  simp at d e;subst d;subst e
  show bindL a ((p,w)::P.zip b) m p=_;unfold bindL;rw[MG λv g=>(gX.mp c).1 (jr g).1,if_pos f];simp
 |p::P,w::b,i+1,m,c,d,e,f=>by
  unfold bindL;exact MH (i:=i) (gX.mp c).2 (by simp_all) (by simp_all) f
theorem MJ{a:Str->t_ jL}{x:Str}{v:Ev}:∀{P:s_ Str}{b:s_ Ev}{i:Nat}{m:Str->t_ Ev},P.Nodup->P[i]?=P3 x->b[i]?=P3 v->a x≠P3 .local->
  bindC a (P.zip b) m x=P3 v
 |[],_,_,_,_,h,_,_=>by simp at h
 |_::_,[],_,_,_,_,h,_=>by simp at h
 |p::P,w::b,0,m,c,d,e,f=>by
  simp at d e;subst d;subst e
  show bindC a ((p,w)::P.zip b) m p=_;unfold bindC;rw[MI λv g=>(gX.mp c).1 (jr g).1,if_neg f];simp
 |p::P,w::b,i+1,m,c,d,e,f=>by
  unfold bindC;exact MJ (i:=i) (gX.mp c).2 (by simp_all) (by simp_all) f
def start(N:s_ Str)(a:s_ V):St:=a.map P3++ZB (N.length - a.length) p_
def D1(i:T3)(P:gN)(w:gY)(K:Frag)(mg:Str->t_ Ev)(base:gI)(N:s_ Str)(c:Str)(a:jB)(f:Db)(h:Ev)(A:gc)(outer:s_ Env)(s:Go)(H:Hp)(E:XK):Cx where
 prog:=P
 w:=w
 K:=K
 mg:=mg
 base:=base
 A:=A.deeper (envOfC c a s.heap.objs.size f h)
 N:=N
 s₀:=s
 H₀:=H
 env:=envOfC c a s.heap.objs.size f h
 outer:=outer
 stack:=envOfC c a s.heap.objs.size f h::outer
 ex:=[]
 calm:=q_
 fn:=λ_=>q_
 pn:=[]
 xe:=λe k=>wpAny (model P w) (A.deeper^envOfC c a s.heap.objs.size f h) (leaving (envOfC c a s.heap.objs.size f h) e) (λ_ g=>i outer H s E e g) (λl g=>i outer H s E l g) k
def O4{a:jB}{n:Nat}{x:Str}(h:a.names.lookup x=P3 .cell):∃c,(cellsFrom n a.names []).lookup x=P3 c:=by
 have q:=PySem.W.cellsFrom_some a.names n []^.inl h;exact Option.isSome_iff_exists.mp q
def L5{Q:T3}{P:gN}{w:gY}{K:Frag}{M:Str->t_ Ev}{m:gI}{N t:s_ Str}{j:Str}{d:jB}{f:Db}{I:Ev}{A:gc}{g:s_ Env}{s R:Go}{H:Hp}{E:XK}{O:s_ Ev}{B:s_ V}
  (S:Ag N t d) (hd:A.handled=p_) (o:Env0 P w K M m A g s H) (Z:B.length=t.length) (r:Vals B O)
  (x:InCallC s s.heap.objs.size (bindL (envOfC j d s.heap.objs.size f I).kindOf (t.zip O) λ_=>p_) (cellsFrom (s.heap.objs.size+1) d.names []) (bindC (envOfC j d s.heap.objs.size f I).kindOf (t.zip O) λ_=>p_) R):
  Inv (D1 Q P w K M m N j d f I A g s H E) [] (start N B) H R:=by
 have W:t.length<=N.length:=by have:=congrArg jy S.pre;rw[k7]at this;lk
 let#[J,tk,rfl,T]:=x.done;have C:∀b:Db,b∉(D1 Q P w K M m N j d f I A g s H E).ex:=λb z=>absurd (show b∈([]:s_ Db)from z)^by simp
 exists#[o.mod,S.kind,rfl,rfl,Re _,λy z c J l=>?_,λy D=>?_,λy c _ h=>?_,λ_=>hd,m_ o.frames,.inr #[rfl,rfl],λb z=>absurd z^C b,o.bs,o.bsz,λb _ _=>C b,λb z=>absurd z^C b,o.funs,o.frf],
  rfl,o.bare,Un.kept T,#[_,x.toInCall.ns,λi y v J l h3=>?_],λy c h=>#[_,x.cell y c h],o.hok.fresh^Re _,λy c h=>?_,λp F=>absurd (show p∈([]:s_ (Db×Obj))from F)^by simp,o.hok.kept T
 .exact name_of_addr x.apart (PySem.mem_of_lookup J)^PySem.mem_of_lookup l
 .have D:d.names.lookup y=P3 .cell\/d.names.lookup y=P3 .free:=D
  rcases D with D|D
  .exact O4 D
  .exact absurd rfl (S.nofree _^PySem.mem_of_lookup D)
 .exact mU^x.above y c^PySem.mem_of_lookup h
 .have L:i<B.length:=by
   unfold start at l
   by_cases L:i<B.length
   .exact L
   .rw[iW^by simpa using L]at l
    rw[kg]at l
    split at l <;>cases l
  have X:B[i]?=P3 v:=by
   unfold start at l;rw[jZ (by simpa using L),gM]at l;cases e:B[i]? with
   |none=>rw[e]at l;cases l
   |some a=>rw[e]at l;cases l;rfl
  let#[u,U,Y]:=r.get X
  have F:t[i]?=P3 y:=by
   rw[←S.pre,List.getElem?_take_of_lt^by lk];exact J
  have G:t.Nodup:=by rw[←S.pre];exact S.nd.sublist^mI _ _
  exists u,Y
  rcases S.par y^iV F with k|k
  .exact .inl #[k,MH G F U k]
  .let#[c,e]:=O4 (n:=s.heap.objs.size+1) k
   refine .inr #[.inl k,c,e,?_];have q:=x.cell y c e;rw[MJ G F U^by show d.names.lookup y≠_;rw[k];decide]at q;exact q
 .exact o.hok.fresh^mU^x.above y c^PySem.mem_of_lookup h
 .unfold start
  show _=N.length;rw[XV,No,mz];lk
def Ym{L:T3}{P:gN}{w:gY}{K:Frag}{M:Str->t_ Ev}{h:gI}{k:Nat}{f:Db}{name d:Str}{i:Arguments}{j:s_ gf}{a:jB}{dV kV C pm g ct oc:Ev}{an od:t_ Db}
  {T:Array^t_ Ev}{N O:s_ Str}{U:Sp} (lk:K.lookup f=P3 #[oc,od,.func^fnOf name d i j a dV kV C pm an g ct,T]) (X:codeIn K g d=q_) (S:Ag N O a)
  (len:∀l H Q E,U l H Q E->l.length=O.length)
  (p:∀(A:gc) (c:s_ Env) (s:Go) (H:Hp) (l:s_ V) (Q:VK) (E:XK),Room k^A.deeper^envOfC d a s.heap.objs.size f g->U l H Q E->
   ∃t,PSs (D1 L P w K M h N d a f g A c s H E) j t/\t {nx:=λ_ m=>Q .non m,rt:=Q} (start N l) H):
  CW P w K M h L (k+1) f (fnOf name d i j a dV kV C pm an g ct) O U:=by
 refine#[len,λA c s H a0 us l Q E Y D hb r F=>?_];have hl:=len _ _ _ _ F;have KX:K.In s.heap:=D.mod.kin.keeps λb o e=>(D.bs b o e).1;have Z:s.heap.NoLimit:=D.mod.nolimit.keeps λb o e=>(D.bs b o e).1
 have z:∀y∈O.zip us,a.names.lookup y.1=P3 .local\/(a.names.lookup y.1=P3 .cell/\((cellsFrom (s.heap.objs.size+1) a.names []).lookup y.1).isSome=q_):=fun#[n,v] hy=>by
  rcases S.par n (jr hy).1 with q|q
  .exact .inl q
  .exact .inr #[q,PySem.W.cellsFrom_some _ _ _^.inl q]
 refine codeAny_call_function Y.depth (KX _ _ lk) rfl S.co S.gen rfl (PySem.W.codeRec_of KX X) (hb _ _ _ _ ?_);refine mC S.kind z λa1 he s1 x=>?_;subst he;refine#[Z.keeps x.toInCall.keep,codeAny_func ?_];let#[t,ht,hq]:=p A c s H l Q E (Y.deeper _) F;have I:Inv (D1 L P w K M h N d a f g A c s H E) [] (start N l) H s1:=L5 S Y.hd D hl r x;refine gq (ht [] s1 (start N l) H _ I hq) (λfl s' B=>?_) λe s' B=>B
 have G:∀{R:St}{m:Hp}{v:V}{u:Ev},Inv (D1 L P w K M h N d a f g A c s H E) [] R m s'->RelV v u->Q v m->CE c P w H s Q u s':=
  λ{R m v u} J rv q=>#[v,m,J.os,J.bare,J.base,J.hok,rv,q]
 cases fl with
 |ret u=>
  let#[v,R,m,J,rv,q]:=B;exact G J rv q
 |next=>
  let#[R,m,J,q]:=B;exact G (v:=V.non) (u:=gh) J rfl q
 |brk=>
  let#[_,_,_,q]:=B;exact g8 q
 |cont=>
  let#[_,_,_,q]:=B;exact g8 q
section
variable {X:Cx}{x:Str}{p pos:Pos}{e:Expr}{es:s_ Expr}{t:TA}{id T:String}{r:s_ V->Hp->VK->Prop}
def dI(r:s_ V->Hp->VK->Prop)(t:TA):TE:=λZ H Q=>t Z H λa b=>r a b Q
def EB(c:De X (.builtin id) r)(d:Gl X x)(f:X.mg x=p_)(g:bootBuiltins x=P3^.builtin id)(i:PA X (e::es) t)(j:x ≠ "__name__":=by cbv)(a:(x==("__debug__":Str))=r_:=by cbv)
  (k:starEach (e::es) X.env=(r_,eval e X.env)::starEach es X.env:=by rfl) (b:(backTo pos^starEach es X.env).any (·.1)=r_:=by rfl):PE X (.Call (.Name x p) (e::es) [] pos)^dI r t:=λw s Z H Q I h=>hU^DX I d f g (PyProof.Rows.callWith_builtin1 (thn (i _ _ s Z H _ I h) λl m #[n,o,q,u,v]=>c _ m Z o n l Q q u v) k b) j a
def Lq(c:De X (.type T) r)(d:Gl X x)(f:X.mg x=p_)(g:bootBuiltins x=P3^.type T)(i:PA X (e::es) t)(j:x ≠ "__name__":=by cbv)(a:(x==("__debug__":Str))=r_:=by cbv)
  (k:starEach (e::es) X.env=(r_,eval e X.env)::starEach es X.env:=by rfl) (b:(backTo pos^starEach es X.env).any (·.1)=r_:=by rfl):PE X (.Call (.Name x p) (e::es) [] pos)^dI r t:=λw s Z H Q I h=>hU^DX I d f g (h_ (thn (i _ _ s Z H _ I h) λl m #[n,o,q,u,v]=>c _ m Z o n l Q q u v) k b) j a
end
end L2
namespace HT
section
variable {prog:Program}{w:World}{A:Around}{E:Value->Shared->Prop}{s:Shared}
def cat_tup{t b:Db}{d c:s_ Ev}{Q:Ev->Go->Prop}(u:kc s.heap t d.toArray)(v:kc s.heap b c.toArray)(z:d≠[])
  (x:c=[]->Q (.ref t) s) (B:c≠[]->Q (.ref s.heap.objs.size) {s with heap:=s.heap.push {cls:=.type "tuple",data:=.seq (d++c).toArray}})
  (y:d.length+c.length<=sizeLine):wpAny (model prog w) A (binaryOp .Add (.ref t)^.ref b) Q E s:=by
 let#[#[cls,k,data,l],i,m,n,o]:=id u;let#[#[p,e,j,f],a,g,q,h]:=id v;simp only at m o g h;subst m o g h
 by_cases r:c=[]
 .exact concat_meets #[_,i,rfl] #[_,a,rfl] mW seq_tuple_add PySem.F.slot_tuple_add PySem.F.entry_tuple_add (PySem.F.args_tuple_add_2 _ _)
   (tuple_addW1 t b d.toArray c.toArray n q k e l f (by simp_all)^by simp[r]) #[i,a,x r]
 .refine concat_meets #[_,i,rfl] #[_,a,rfl] mW seq_tuple_add PySem.F.slot_tuple_add PySem.F.entry_tuple_add (PySem.F.args_tuple_add_2 _ _)
   (tuple_addW2 t b d.toArray c.toArray n q k e l f (by grind) (by grind)^by lk) #[i,a,?_]
  simp_all
def sIx(n d:Nat):t_ Int->Nat
 |none=>d
 |some v=>if v<0 then(v+(n:Int)).toNat else min v.toNat n
def sIx_none(n d:Nat):sIx n d p_=d:=rfl
def sIx_nat(n d k:Nat):sIx n d^P3 (k:Int)=min k n:=by
 show(if k<0 then((k:Int)+n).toNat else min _ n)=min k n;rw[if_neg^by lk,jX]
def ZS(n d:Nat)(hd:d<=n)(o:t_ Int):sIx n d o<=n:=by
 cases o with
 |none=>exact hd
 |some v=>
  show(if v<0 then(v+n).toNat else min _ n)<=n
  grind
def SA(v:Int)(n d:Nat):(if v<0 then max (v+(n:Int)) 0 else min v (n:Int))=((sIx n d^P3 v:Nat):Int):=by
 show(if v<0 then max _ 0 else min v _)=(if v<0 then(v+n).toNat else min _ n)
 grind
def Qo(a b:t_ Int)(n:Nat):ja a b 1 (n:Int)=(((sIx n 0 a:Nat):Int),((sIx n n b:Nat):Int)):=by
 refine Prod.ext ?_ ?_
 .cases a with
  |none=>rfl
  |some v=>exact SA v n 0
 .cases b with
  |none=>rfl
  |some v=>exact SA v n n
def QF(i j:Nat):ic (i:Int) (j:Int) 1=j - i:=by
 unfold ic
 grind
def slicePart_{v:Ev}{o:t_ Int}{Q:t_ Int->Go->Prop}(p:lH v o)(h:Q o s):wpAny (model prog w) A (Builtin.Slice.slicePartIndex v) Q E s:=by
 cases p with
 |none=>exact slicePart_none h
 |int i t=>exact slicePart_int h
def sliceApplied_gen{g:Db}{e f:Ev}{a d:t_ Int}{n:Nat}{Q:Int×Int×Nat->Go->Prop}(i:s.heap.IsSliceOf g e f .none)(j:lH e a)(k:lH f d)
  (h:Q (((sIx n 0 a:Nat):Int),1,sIx n n d - sIx n 0 a) s):wpAny (model prog w) A (mE (.ref g)^pure (n:Int)) Q E s:=by
 let#[m,b,l,c]:=id i;refine Ch^Ch (gj b c (x:=e) rfl (Ch (gj b c (x:=f) rfl (Ch (gj b c (x:=.none) rfl (Rs ?_))))));refine Ch^slicePart_none ?_;refine Ch^slicePart_ j^Ch^slicePart_ k^Ch^Rs ?_;show wpAny _ _ (match ja a d 1 (n:Int)with|(a,d)=>pure (a,(1:Int),ic a d 1)) _ _ s;rw[Qo a d n];show wpAny _ _ (pure _) _ _ s;rw[QF];exact Rs h
def VC(a:Array Ev)(i k:Nat):((gi k).filterMap fun(m:Nat)=>a[((i:Int)+(m:Int)*1).toNat]?).toArray=((a.toList.drop i).take k).toArray:=by
 have e:(fun(m:Nat)=>a[((i:Int)+(m:Int)*1).toNat]?)=λm=>a[i+m]?:=by
  grind
 rw[e]
 have:=pick_run a i k
 rw[lr]at this;have b:((λx=>a[x]?)∘λx=>i+x)=λm=>a[i+m]?:=rfl
 grind
def getItem_tuple_cut{t g:Db}{a:Array Ev}{n o:Ev}{c d:t_ Int}{Q:Ev->Go->Prop}(f:kc s.heap t a)(p:s.heap.IsSliceOf g n o .none)(q:lH n c)(r:lH o d)
  (y:¬(sIx a.size 0 c=0/\sIx a.size a.size d=a.size))
  (h:Q (.ref s.heap.objs.size) {s with heap:=s.heap.push {cls:=.type "tuple",data:=.seq ((a.toList.drop^sIx a.size 0 c).take (sIx a.size a.size d - sIx a.size 0 c)).toArray}})
  (u:a.size<=sizeLine):wpAny (model prog w) A (getItem (.ref t)^.ref g) Q E s:=by
 have e:sizeOk^.seq ((a.toList.drop^sIx a.size 0 c).take (sIx a.size a.size d - sIx a.size 0 c)).toArray:=by
  show((a.toList.drop^sIx a.size 0 c).take (sIx a.size a.size d - sIx a.size 0 c)).toArray.size<=sizeLine;rw[f_,k7,List.length_drop,i5];lk
 have z:sIx a.size a.size d<=a.size:=ZS _ _ (Re _) d;let#[v,i,j,x]:=id p;have k:s.TypeIs (.ref g) "slice":=#[v,i,j];unfold getItem
 try with_reducible refine gw ?_
 first|refine Ch^Rs ?_|skip
 refine Ch^mJ f.typeIs (by cbv) ?_
 refine Ch (iC (name:=ik "__getitem__") f.typeIs gk
  (iN gk f.typeIs lW ?_^lu _ _))
 show wpAny _ _ (kJ^.ref t >>=_) _ _ s;refine Ch^tupleItemsOf_ f ?_;refine Ch^jQ k ?_;rw[if_pos^by cbv];refine Ch^sliceApplied_gen p q r ?_
 have l:¬((((sIx a.size 0 c:Nat):Int)==0&&(1:Int)==1&&(sIx a.size a.size d - sIx a.size 0 c)==a.size)=q_):=by
  grind
 show wpAny _ _ (if(((sIx a.size 0 c:Nat):Int)==0&&(1:Int)==1&&(sIx a.size a.size d - sIx a.size 0 c)==a.size)=q_ then _ else _) _ _ s;rw[if_neg l,VC]
 first
  |exact Ch (m:=im _)^hZ (Rs #[_,rfl,Rs h]) e
  |grind
  |grind
  |grind
end
end HT
namespace L2
abbrev TO:=St->Hp->(t_ Int->Hp->Prop)->Prop
def PO(X:Cx)(e:t_ gZ)(t:TO):Prop:=
 ∀(a:s_ (Db×Obj)) (s:Go) (Z:St) (H:Hp) (Q:t_ Int->Hp->Prop),Inv X a Z H s->t Z H Q->
  wpAny (model X.prog X.w) X.A (evalPart e X.env) (λu c=>∃o b,Inv X a Z b c/\lH u o/\Q o b) X.xe s
def W3:TO:=λ_ H Q=>Q p_ H
def bH(t:TE):TO:=λZ H Q=>t Z H λx a=>∃i,x=.int i/\Q (P3 i) a
section
variable {X:Cx}{e:Expr}{te:TE}{lo hi:t_ Expr}{tl th:TO}{pos p2:Pos}
def RQ:PO X p_ W3:=λa s Z H Q I h=>Rs #[_,H,I,.none,h]
def RP(h:PE X e te):PO X (P3 e)^bH te:=by
 intro g s Z H Q I a;refine thn (h _ s Z H _ I a) λu j #[x,b,c,d,f]=>?_;let#[i,rfl,q]:=f;let#[t,rfl]:=d;exact#[_,b,c,.int i t,q]
def SlR(X:Cx)(r:V->t_ Int->t_ Int->Hp->VK->Prop):Prop:=
 ∀(a:s_ (Db×Obj)) (s:Go) (Z:St) (H:Hp) (x:V) (v b c:Ev) (lo hi:t_ Int) (d:Db) (Q:VK),Inv X a Z H s->RelV x v->s.heap.IsSliceOf d b c .none->lH b lo->lH c hi->r x lo hi H Q->
  ∃T e,typeLookup (.type T) "__getitem__"=pure^P3^.builtin e/\s.TypeIs v T/\wpAny (model X.prog X.w) X.A (getItem v^.ref d) (EP X a Z Q) X.xe s
def SlR.or{r a:V->t_ Int->t_ Int->Hp->VK->Prop}(h:SlR X r)(j:SlR X a):SlR X (λx lo hi H Q=>r x lo hi H Q\/a x lo hi H Q):=by
 intro k s Z H x v b c lo hi d Q I e f g i q
 rcases q with q|q
 .exact h _ s Z H x v b c lo hi d Q I e f g i q
 .exact j _ s Z H x v b c lo hi d Q I e f g i q
def fe(r:V->t_ Int->t_ Int->Hp->VK->Prop)(te:TE)(tl th:TO):TE:=λZ H Q=>te Z H λx a=>tl Z a λl H2=>th Z H2 λu b=>r x l u b Q
def OQ{r:V->t_ Int->t_ Int->Hp->VK->Prop}(i:SlR X r)(j:PE X e te)(k:PO X lo tl)(m:PO X hi th):PE X (.Subscript e (.Slice lo hi p_ p2) pos)^fe r te tl th:=by
 intro c s Z H Q I h;refine Subscript_^thn (j c s Z H _ I h) λv n #[x,o,p,t,y]=>?_;refine wpAny_Slice^thn (k c n Z o _ p y) λd z #[l,H2,B,C,D]=>thn (m c z Z H2 _ B D) λf a #[u,g,E,F,G]=>?_;rw[evalPart_none];refine Rs ?_;have J:Inv X c Z g {a with heap:=a.heap.push {cls:=.type "slice",data:=.fields #[ d,f,.none]}}:=E.kept (t':=a.toks) λb N q=>FM _ q;let#[T,O,K,L,M]:=i c {a with heap:=a.heap.push {cls:=.type "slice",data:=.fields #[ d,f,.none]}} Z g x v d f l u a.heap.objs.size Q J t (nL ..) C F G;show wpAny (model X.prog X.w) X.A (subscriptTail e (.Slice lo hi p_ p2) v^.ref a.heap.objs.size) (EP X c Z Q) X.xe {a with heap:=a.heap.push {cls:=.type "slice",data:=.fields #[ d,f,.none]}};exact tail_any (ops:=[.ref a.heap.objs.size,v]) L K M^by with_unfolding_all rfl
def Oy(a:s_ V)(lo hi:t_ Int):s_ V:=(a.drop^HT.sIx a.length 0 lo).take (HT.sIx a.length a.length hi - HT.sIx a.length 0 lo)
def Ie(a:s_ V)(lo hi:t_ Int):(Oy a lo hi).length<=a.length:=by
 unfold Oy
 grind
def bW(K:Frag):V->t_ Int->t_ Int->Hp->VK->Prop:=λx lo hi H Q=>∃a b,x=.ref a/\SqT K H a b /\
 ¬(HT.sIx b.length 0 lo=0/\HT.sIx b.length b.length hi=b.length)/\∀p,H p=p_->Q (.ref p)^A5 H p^.tup^Oy b lo hi
def sl_tup:SlR X^bW X.K:=by
 intro n s Z H x v o p lo hi t Q I g i j k h;let#[a,e,rfl,l,u,q]:=h;cases g;let#[d,r,f,m]:=I.tuple l;have c:d.toArray.size=e.length:=by exact r.length.symm
 exists _,_,gk.lookup,f.typeIs;refine HT.getItem_tuple_cut f i j k (by grind) ?_ (by simp_all);rw[c];refine#[.ref _,_,I.laid (λb w q=>FM _ q) (Re _) ?_,rfl,q _^I.hok.fresh^Re _];exact#[gG (Ie e lo hi) m,_,(r.drop _).take _,IsTupN.new _ _]
def U4(K:Frag):R2:=λx y H Q=>∃a b d c,x=.ref a/\y=.ref b/\SqT K H a d/\SqT K H b c/\d≠[]/\d.length+c.length<=sizeLine /\
 (c=[]->Q (.ref a) H)/\(c≠[]->∀p,H p=p_->Q (.ref p)^A5 H p^.tup (d++c))
def Vals.nil_iff{a:s_ V}{b:s_ Ev}(r:Vals a b):b=[]↔a=[]:=by
 cases r with
 |nil=>simp
 |cons _ _=>simp
def op_catT:OpR X (binaryOp .Add)^U4 X.K:=by
 intro r s Z H x y v u Q I f g h;let#[a,b,t,A,rfl,rfl,i,j,k,l,m,n]:=h;cases f;cases g;let#[o,d,p,_]:=I.tuple i;let#[e,c,p2,_]:=I.tuple j;refine HT.cat_tup p p2 (λz=>k^d.nil_iff.mp z) (λz=>#[.ref a,H,I,rfl,m^c.nil_iff.mp z]) (λz=>?_) (by rw[←d.length,←c.length];exact l);refine#[.ref _,_,I.laid (λb B q=>FM _ q) (Re _) ?_,rfl,n (λw=>z^c.nil_iff.mpr w) _^I.hok.fresh^Re _];exact#[by simp_all,_,d.append c,IsTupN.new _ _]
end
def Vg(n:Nat)(i:Int):t_ Nat:=if 0<=i then(if i<n then P3 i.toNat else p_)else if -(n:Int)<=i then P3 (i+n).toNat else p_
def atI{a:Type}(b:s_ a)(i:Int):t_ a:=(Vg b.length i).bind λj=>b[j]?
def ND{n:Nat}{i:Int}{j:Nat}(h:Vg n i=P3 j):seqIndex? i n=P3 j/\j<n/\-(n:Int)<=i/\i<n:=by
 unfold Vg at h
 by_cases b:0<=i
 .rw[if_pos b]at h
  by_cases a:i<n
  .rw[if_pos a]at h
   have e:i.toNat=j:=gH h;exact#[by rw[seqIndex_of b a,e],by lk,by lk,a]
  grind
 .rw[if_neg b]at h
  by_cases a:-(n:Int)<=i
  .rw[if_pos a]at h
   have e:(i+n).toNat=j:=gH h;exact#[by rw[seqIndex_neg (by lk) a,e],by lk,a,by lk]
  grind
def NZ{b:Type}{a:s_ b}{i:Int}{v:b}(h:atI a i=P3 v):∃j,seqIndex? i a.length=P3 j/\a[j]?=P3 v/\j<a.length/\-(a.length:Int)<=i/\i<a.length:=by
 unfold atI at h;cases e:Vg a.length i with
 |none=>simp_all
 |some j=>
  let#[c,d,f,g]:=ND e
  simp_all
def AJ{b:Type}{a:s_ b}{j:Nat}{v:b}(h:a[j]?=P3 v):atI a (j:Int)=P3 v:=by
 have c:=(gC.mp h).1
 have e:Vg a.length j=P3 j:=by
  unfold Vg
  simp_all
 unfold atI;grind
def WS{b:Type}(a:s_ b)(v:b):atI (a++[v]) (-1)=P3 v:=by
 have e:Vg (a++[v]).length (-1)=P3 a.length:=by
  unfold Vg
  grind
 unfold atI
 grind
def SN(b:gZ):Prop:=∀o i,subscripted b r_ o i=operate [o,i]^getItem o i
def IxR(X:Cx)(r:R2):Prop:=
 ∀(value a:gZ) (b:s_ (Db×Obj)) (s:Go) (Z:St) (H:Hp) (x y:V) (v u:Ev) (Q:VK),Inv X b Z H s->RelV x v->RelV y u->r x y H Q->
  subscripted a r_ v u=operate [v,u]^getItem v u->wpAny (model X.prog X.w) X.A (subscriptTail value a v u) (EP X b Z Q) X.xe s
def dU(X:Cx)(d:String)(r:V->s_ V->Hp->VK->Prop):Prop:=
 ∀(a:s_ (Db×Obj)) (s:Go) (Z:St) (H:Hp) (x:V) (b:s_ V) (v:Ev) (c:s_ Ev) (Q:VK),Inv X a Z H s->RelV x v->Vals b c->r x b H Q->
  wpAny (model X.prog X.w) X.A (call (.builtin d) (v::c)) (EP X a Z Q) X.xe s
section
variable {X:Cx}{a b:Expr}{ta tb:TE}{pos:Pos}
def IxR.or{r d:R2}(h:IxR X r)(i:IxR X d):IxR X (λx y H Q=>r x y H Q\/d x y H Q):=by
 intro value c j s Z H x y v u Q I e f q g
 rcases q with q|q
 .exact h _ _ _ s Z H x y v u Q I e f q g
 .exact i _ _ _ s Z H x y v u Q I e f q g
def EY{r:R2}(c:IxR X r)(d:PE X a ta)(e:PE X b tb)(f:SN b):PE X (.Subscript a b pos)^D5 r ta tb:=λl s Z H Q I h=>Subscript_^aM d e I h λv u g x y H2 i j k q=>c a b _ g Z H2 x y v u Q i j k q^f _ _
def ZY(K:Frag):R2:=λx y H Q=>∃p c i v,x=.ref p/\y=.int i/\SqL K H p c/\atI c i=P3 v/\Q v H
def bc(K:Frag):R2:=λx y H Q=>∃p c i v,x=.ref p/\y=.int i/\SqT K H p c/\atI c i=P3 v/\Q v H
def be:R2:=λx y H Q=>∃z i c,x=.str z/\y=.int i/\z.length<=sizeLine/\atI z.cps.toList i=P3 c/\Q (.str #[#[ c]]) H
def ix_list:IxR X^ZY X.K:=by
 intro value d k s Z H x y v u Q I A B h l;let#[p,M,i,z,rfl,rfl,C,D,q]:=h;cases A;let#[t,rfl]:=B;let#[e,r,f,N]:=I.list C;let#[j,m,E,O,F,G]:=NZ D;let#[w,J,g]:=r.get E;have P:=r.length;have R:=Hf;have c:EP X k Z Q w s:=#[z,H,I,g,q]
 by_cases n:0<=i
 .have o:i.toNat=j:=by
   rw[seqIndex_of n G]at m
   grind
  exact item_listR f.isList n (by lk) (by rw[o];simpa using J) c l
 .have o:(i+(e.toArray.size:Int)).toNat=j:=by
   rw[seqIndex_neg (by lk) F]at m
   grind
  exact subscriptTail_builtinR (x:=w) f.isList.typeIs mL.lookup
   (wpAny_getItem_list_neg (Q:=λr L=>r=w/\EP X k Z Q r L) f.isList (by lk) (by grind) (by lk) (by grind) #[rfl,c]) l
def ix_tup:IxR X^bc X.K:=by
 intro value c A s Z H x y v u Q I f g h k;let#[p,B,i,z,rfl,rfl,l,m,q]:=h;cases f;let#[t,rfl]:=g;let#[n,r,e,C]:=I.tuple l;let#[j,D,o,E,F,G]:=NZ m;let#[w,J,d]:=r.get o;have L:=r.length;have M:=Hf
 exact subscriptTail_builtinR e.typeIs gk.lookup
  (getItem_tuple (j:=j) e (by lk) (by lk) (by grind) (by grind) #[rfl,#[z,H,I,d,q]]) k
def Z4:IxR X be:=by
 intro value d l s Z H x y v u Q I e f h g;let#[z,i,c,rfl,rfl,m,k,q]:=h;let#[t,rfl]:=e;let#[n,rfl]:=f;let#[j,o,p,r,w,A]:=NZ k;have B:z.cps.toList.length=z.length:=by simp[Str.length]
 have C:=Hf
 exact tail_any (typeIs_str s z t) slot_str_getitem.lookup (getItem_str (by
  grind) (by grind) #[.str _,H,I.tok _,#[_,rfl],q]) g
def fH(K:Frag):R2:=λx y H Q=>ZY K x y H Q\/bc K x y H Q\/be x y H Q
def AN:IxR X^fH X.K:=ix_list.or^ix_tup.or Z4
def QQ(c:s_ Ev)(n j:Nat)(u:Ev):hV (·.setIfInBounds j u) {cls:=.type "list",data:=.seq c.toArray n}={cls:=.type "list",data:=.seq (c.set j u).toArray n}:=by
 simp[hV]
def Inv.lst{f:s_ (Db×Obj)}{Z:St}{H:Hp}{s:Go}{p:Db}{d:s_ V}(I:Inv X f Z H s)(h:H p=P3^.lst d):
  ∃(c:s_ Ev) (n:Nat),Vals d c/\s.heap.get? p=P3 {cls:=.type "list",data:=.seq c.toArray n}/\d.length<=sizeLine:=by
 let#[z,c,n,r,e]:=I.hok p _ h;exact#[_,n,r,e,z]
def Inv.lstUpd{j:s_ (Db×Obj)}{Z:St}{H:Hp}{s:Go}{p:Db}{l g:s_ V}{d c:s_ Ev}{n i:Nat}{f:Obj->Obj}(I:Inv X j Z H s)(h:H p=P3^.lst l)
  (m:s.heap.get? p=P3 {cls:=.type "list",data:=.seq d.toArray n}) (k:f {cls:=.type "list",data:=.seq d.toArray n}={cls:=.type "list",data:=.seq c.toArray i}) (r:Vals g c) (o:g.length<=sizeLine) (t:Nat):
  Inv X j Z (A5 H p^.lst g) {s with heap:=s.heap.update p f,toks:=t}:=by
 have e:(s.heap.update p f).get? p=P3 {cls:=.type "list",data:=.seq c.toArray i}:=by
  rw[g7 f m (by rw[k] <;>rfl),k]
 exact I.write (by rw[h];trivial) (.inl rfl) (λb u v q=>(gF _ _^g0 v).trans q) #[_,e] #[o,_,i,r,e]
def Yd:V->V->V->Hp->(Hp->Prop)->Prop:=λo i v H Q=>∃p c k j,o=.ref p/\i=.int k/\H p=P3^.lst c/\Vg c.length k=P3 j/\Q^A5 H p^.lst^c.set j v
def set_list:cz X Yd:=by
 intro w s Z H o i v E F u Q I x y z h;let#[p,A,k,j,rfl,rfl,f,B,q]:=h;cases x;let#[t,rfl]:=y;let#[c,n,r,d,G]:=I.lst f;let#[g,J,C,D]:=ND B;have K:=r.length;have L:=Hf
 have l:Inv X w Z (A5 H p^.lst^A.set j v) {s with heap:=s.heap.update p (hV (·.setIfInBounds j u))}:=
  I.lstUpd f d (QQ c n j u) (r.set z j) (by simp_all) s.toks
 by_cases m:0<=k
 .have e:k.toNat=j:=by
   rw[seqIndex_of m D]at g
   grind
  exact PySem.W.ki_setAt d m (by lk) (by grind)^by rw[e];exact#[_,l,q]
 .have e:(k+(c.toArray.size:Int)).toNat=j:=by
   rw[seqIndex_neg (by lk) C]at g
   grind
  exact PySem.W.ki_setBack d (by lk) (by grind) (by lk)^by rw[e];exact#[_,l,q]
def Mc(c d:t_ Int)(n:Nat):(sliceBounds c d p_ n).1=((HT.sIx n 0 c:Nat):Int)/\(sliceBounds c d p_ n).2.1=((HT.sIx n n d:Nat):Int)/\(sliceBounds c d p_ n).2.2=1:=by
 refine#[?_,?_,rfl]
 .cases c with
  |none=>simp[sliceBounds,HT.sIx]
  |some i=>
   simp only[sliceBounds,HT.sIx,Option.getD_none,show(1:Int) > 0 by cbv,if_true]
   by_cases h:i<0
   .grind
   .simp only[h,if_false] <;>lk
 .cases d with
  |none=>simp[sliceBounds,HT.sIx]
  |some i=>
   simp only[sliceBounds,HT.sIx,Option.getD_none,show(1:Int) > 0 by cbv,if_true]
   by_cases h:i<0
   .grind
   .simp only[h,if_false] <;>lk
def LA(c:s_ Ev)(d e:t_ Int):slicePick c.toArray d e p_=((c.drop^HT.sIx c.length 0 d).take (HT.sIx c.length c.length e - HT.sIx c.length 0 d)).toArray:=by
 let#[f,g,h]:=Mc d e _;unfold slicePick;rw[f,g,h];simp only[sliceRange_one,pick_run] <;>rfl
def bX(K:Frag):V->t_ Int->t_ Int->Hp->VK->Prop:=λx d e H Q=>∃a c,x=.ref a/\SqL K H a c/\∀p,H p=p_->Q (.ref p)^A5 H p^.lst^Oy c d e
def sl_list:SlR X^bX X.K:=by
 intro p s Z H x v t u e f w Q I g i j k h;let#[a,l,rfl,m,q]:=h;cases g;let#[n,r,d,o]:=I.list m;have c:=r.length;exists _,_,mL.lookup,d.isList.typeIs;refine wpAny_getItem_list_slice d.isList i j k .none (by simp) ?_ (by grind);rw[LA,←c];refine#[.ref _,_,I.laid (λb y q=>FM _ q) (Re _) ?_,rfl,q _^I.hok.fresh^Re _];exact#[gG (Ie l e f) o,_,0,(r.drop _).take _,UF _ rfl]
def Yo:V->Bool
 |.non=>q_
 |.bl _=>q_
 |.int _=>q_
 |.str _=>q_
 |_=>r_
def cV:V->V->Bool
 |.non,.non=>q_
 |.bl a,.bl b=>a==b
 |.bl a,.int b=>(if a then 1 else 0)==b
 |.int a,.bl b=>a==(if b then 1 else 0)
 |.int a,.int b=>a==b
 |.str a,.str b=>a==b
 |_,_=>r_
def NM{A:gc}{s:Go}{y x:V}{u v:Ev}(e:RelV y u)(c:RelV x v)(g:Yo y=q_)(f:Yo x=q_):SeqAt.EqAt A s u v^cV y x:=by
 cases y with
 |non=>
  cases e;cases x with
  |non=>cases c;exact SeqAt.EqAt.same _
  |bl b=>cases c;exact SeqAt.EqAt.none_bool b
  |int b=>let#[t,rfl]:=c;exact SeqAt.EqAt.none_int b t
  |str b=>let#[t,rfl]:=c;exact SeqAt.EqAt.none_str b t
  |_=>exact absurd (show r_=q_ from f) gR
 |bl a=>
  cases e;cases x with
  |non=>cases c;exact SeqAt.EqAt.bool_none a
  |bl b=>cases c;exact SeqAt.EqAt.bool_bool a b
  |int b=>let#[t,rfl]:=c;exact SeqAt.EqAt.bool_int a b t
  |str b=>let#[t,rfl]:=c;exact SeqAt.EqAt.bool_str a b t
  |_=>exact absurd (show r_=q_ from f) gR
 |int a=>
  let#[d,rfl]:=e;cases x with
  |non=>cases c;exact SeqAt.EqAt.int_none a d
  |bl b=>cases c;exact SeqAt.EqAt.int_bool a d b
  |int b=>let#[t,rfl]:=c;exact SeqAt.EqAt.int_int a d b t
  |str b=>let#[t,rfl]:=c;exact nI a d b t
  |_=>exact absurd (show r_=q_ from f) gR
 |str a=>
  let#[d,rfl]:=e;cases x with
  |non=>cases c;exact SeqAt.EqAt.str_none a d
  |bl b=>cases c;exact SeqAt.EqAt.str_bool a d b
  |int b=>let#[t,rfl]:=c;exact nJ a d b t
  |str b=>let#[t,rfl]:=c;exact SeqAt.EqAt.str_str a d b t
  |_=>exact absurd (show r_=q_ from f) gR
 |_=>exact absurd (show r_=q_ from g) gR
def DF:De X (.type "list") (λB H Q=>∃p f,B=[.ref p]/\(SqL X.K H p f\/SqT X.K H p f)/\∀l,H l=p_->Q (.ref l)^A5 H l^.lst f):=by
 intro D s Z H B F Q I r h;let#[p,f,rfl,j,q]:=h;let#[u,rfl,E]:=vals1 r;cases E
 have k:∀(c:s_ Ev),Vals f c->f.length<=sizeLine->∀(d:gI) (i:Nat),(∀b C,s.heap.get? b=P3 C->d.get? b=P3 C)->
   d.get? s.heap.objs.size=P3 _->EP X D Z Q (.ref s.heap.objs.size) {s with heap:=d}:=λc g m d i t e=>
  #[.ref s.heap.objs.size,_,I.laid (t':=s.toks) t (Re _) (show ObjOk X.prog X.w _ d _^.lst f from#[m,c,i,g,e]),rfl,q _^I.hok.fresh^Re _]
 rcases j with j|j
 .let#[c,g,x,m]:=I.list j
  have v:=g.length;let#[o,y,z,n,A]:=x.isList;exact call_list_seq p (.inl rfl) y z A (λd i t e=>k c g m d i t e)^by grind
 .let#[c,g,x,m]:=I.tuple j
  have v:=g.length;let#[o,y,z,n,A]:=x;exact call_list_seq p (.inr rfl) y z A (λd i t e=>k c g m d i t e)^by grind
def BJ:De X (.type "tuple") (λj H Q=>∃p c,j=[.ref p]/\((SqL X.K H p c/\∀l,H l=p_->Q (.ref l)^A5 H l^.tup c)\/(SqT X.K H p c/\Q (.ref p) H))):=by
 intro w s Z H j x Q I r h;let#[p,c,rfl,h]:=h;let#[u,rfl,t]:=vals1 r;cases t
 rcases h with⟨d,q⟩|⟨d,q⟩
 .let#[f,g,i,k]:=I.list d
  have m:=g.length;refine call_tuple_list i.isList (λy v=>?_) (by grind);have n:=I.kept (t':=s.toks) v;exact#[.ref _,_,n.laid (t':=s.toks) (λb o e=>FM _ e) (Re _) (show ObjOk _ _ _ _ _^.tup c from#[k,_,g,IsTupN.new _ _]),rfl,q _^n.hok.fresh^Re _]
 .let#[f,g,i,k]:=I.tuple d
  exact call_tuple_same i #[.ref p,H,I,rfl,q]
def df(K:Frag)(T:String)(x:V)(H:Hp):Prop:=match x with
 |.str _=>T="str"
 |.int _=>T="int"
 | .ref p=>(T="list"/\∃d,SqL K H p d)\/(T="tuple"/\∃o,K.lookup p=P3 o/\o.cls=.type "tuple"/\o.dict=p_) \/
   (T="dict"/\((∃c,H p=P3^.dK c)\/∃c,H p=P3^.dT c))\/(T="set"/\∃S n,H p=P3^.set S n)
 |_=>False
def ZD{l:s_ (Db×Obj)}{Z:St}{H:Hp}{s:Go}{T:String}{x:V}{v:Ev}(I:Inv X l Z H s)(r:RelV x v)(ty:df X.K T x H):
  s.TypeIs v T/\∀a,v=.ref a->∃j,s.heap.get? a=P3 j/\j.dict=p_:=by
 cases x with
 |str z=>
  let#[t,rfl]:=r;cases(show T="str" from ty);exact#[typeIs_str s z t,λ_ e=>nomatch e]
 |int i=>
  let#[t,rfl]:=r;cases(show T="int" from ty);exact#[typeIs_int s i t,λ_ e=>nomatch e]
 | ref p=>
  cases r
  rcases ty with⟨rfl,w,m⟩|⟨rfl,o,d,q,f⟩|⟨rfl,d⟩|⟨rfl,S,n,d⟩
  .let#[u,_,k,_]:=I.list m
   refine#[k.isList.typeIs,λa e=>?_];cases e;let#[o,n,e,c,f,_]:=k;exact#[o,e,f]
  .refine#[#[o,I.kIn p o d,q],λa e=>?_]
   cases e;exact#[o,I.kIn _ o d,f]
  .have z:∃o,s.heap.get? p=P3 o/\o.ExactDict:=by
    rcases d with⟨g,d⟩|⟨g,d⟩
    .let#[_,_,_,_,o,_,_,e,ex,_]:=I.hok p _ d
     exact#[o,e,ex]
    .let#[_,_,_,_,o,_,_,e,ex,_]:=I.hok p _ d
     exact#[o,e,ex]
   let#[o,e,ex]:=z;refine#[#[o,e,ex.1],λa h=>?_];cases h;exact#[o,e,ex.2.1]
  .let#[o,_,_,_,e,ex,_]:=I.hok p _ d
   refine#[#[o,e,ex.1],λa h=>?_];cases h;exact#[o,e,ex.2.1]
 |_=>exact g8 ty
def fj(K:Frag)(T:String)(r:V->s_ V->Hp->VK->Prop)(d:TE)(t:TA):TE:=λZ H Q=>d Z H λx c=>df K T x c/\t Z c λe H2=>r x e H2 Q
variable {o e:Expr}{es:s_ Expr}{to:TE}{t:TA}{name:Str}{apos cpos:Pos}{T id:String}{r:V->s_ V->Hp->VK->Prop}
def Yi(n:PlainAttrs T)(f:Slot T name id)(j:typeOf^.builtin id=pure^.type "method_descriptor")(p:dU X id r)(q:PE X o to)(u:PA X (e::es) t)
  (c:attributeBase o name X.env^eval o X.env=eval o X.env:=by rfl)
  (g:((backTo cpos^starEach (e::es) X.env).all (λx=>!x.1)&&(backToKw cpos^keywordEach [] X.env).all (λx=>x.1.isSome)
   && decide ((e::es).length+([]:s_ kd).length+(if([]:s_ kd).isEmpty then 0 else 1)<30))=q_:=by rfl)
  (d:(apos.endLine==cpos.line)=q_:=by rfl) (w:starEach (e::es) X.env=(r_,eval e X.env)::starEach es X.env:=by rfl) (i:(backTo cpos^starEach es X.env).any (·.1)=r_:=by rfl):
  PE X (.Call (.Attribute o name apos) (e::es) [] cpos) (fj X.K T r to t):=by
 intro M s Z H Q I h;refine wpAny_Call_method_late c g d rfl (thn (q _ s Z H _ I h) λv y #[x,z,k,l,ty,A]=>?_);let#[B,C]:=ZD k l ty;exists T,id,n,f,j,B,C;have m:=u cpos _ y Z z _ k A;rw[w]at m ⊢;refine kn (by simp_all)^nA ?_;exact thn m λD E #[F,H2,G,J,L]=>p _ E Z H2 x F v D Q G l J L
end
def fA(X:Cx)(d:String)(r:V->s_ V->Hp->VK->Prop):Prop:=
 ∀(a:s_ (Db×Obj)) (s:Go) (Z:St) (H:Hp) (x:V) (b:s_ V) (v:Ev) (c:s_ Ev) (Q:VK),Inv X a Z H s->RelV x v->Vals b c->r x b H Q->
  wpAny (model X.prog X.w) X.A (call (.builtin d) (v::c)) (EP X a Z Q) X.xe s
theorem Vals.one:∀{x:V}{a:s_ Ev},Vals [x] a->∃u,a=[u]/\RelV x u
 |_,_,.cons r .nil=>#[_,rfl,r]
theorem Vals.eraseIdx:∀{a:s_ V}{b:s_ Ev} (i:Nat),Vals a b->Vals (a.eraseIdx i)^b.eraseIdx i
 |_,_,_,.nil=>.nil
 |_,_,0,.cons _ t=>t
 |_,_,i+1,.cons r t=>.cons r^Vals.eraseIdx i t
def Vals.reverse{a:s_ V}{b:s_ Ev}(h:Vals a b):Vals a.reverse b.reverse:=by
 induction h with
 |nil=>exact .nil
 |cons r t c=>rw[j3,j3];exact Vals.append c^.cons r .nil
theorem Hg{a:Type}:∀(l:s_ a) (i:Nat),(l.eraseIdx i).length<=l.length
 |[],_=>Re _
 |_::_,0=>g_ _
 |_::r,i+1=>mX^Hg r i
section
variable {X:Cx}{zH:s_ (Addr×Obj)}{Z:St}{H:Hp}{s:Shared}{l:Addr}{xs ys:s_ V}
def Inv.lset{a its':s_ Ev}{n:Nat}{f:Array Ev->Array Ev}{t':Nat}(I:Inv X zH Z H s)(b:H l=P3^.lst xs)
  (e:s.heap.get? l=P3 {cls:=.type "list",data:=.seq a.toArray n}) (c:f a.toArray=its'.toArray) (d:Vals ys its') (g:ys.length<=sizeLine):
  Inv X zH Z (A5 H l^.lst ys) {s with heap:=s.heap.update l^hV f,toks:=t'}:=by
 have q:=PySem.IsL.update e f;rw[c]at q;exact I.write (by rw[b];exact trivial) (.inl rfl) (λk u h i=>(gF _ _^g0 h).trans i) #[_,q] #[g,_,_,d,q]
def Inv.lnew{a:s_ Ev}{b:Nat}(I:Inv X zH Z H s)(c:Vals ys a)(d:ys.length<=sizeLine):
  Inv X zH Z (A5 H s.heap.objs.size^.lst ys) {s with heap:=s.heap.push {cls:=.type "list",data:=.seq a.toArray},toks:=b}:=
 I.laid (λ_ _ q=>FM _ q) (Re _) #[d,_,0,c,UF _ rfl]
def Inv.fresh(I:Inv X zH Z H s):H s.heap.objs.size=p_:=I.hok.fresh^Re _
def Inv.lstM(I:Inv X zH Z H s)(b:H l=P3^.lst xs):xs.length<=sizeLine/\∃(a:s_ Ev) (n:Nat),Vals xs a/\xs.length=a.length/\s.heap.get? l=P3 {cls:=.type "list",data:=.seq a.toArray n}:=by
 let#[z,a,n,r,e]:=I.hok l _ b;exact#[z,_,n,r,r.length,e]
def VT{n:Nat}(h:n<=sizeLine):jh n=r_:=by
 unfold jh
 grind
end
section
variable {X:Cx}
def RK:V->s_ V->Hp->VK->Prop:=λx b H Q=>∃l a y,x=.ref l/\b=[y]/\H l=P3^.lst a/\a.length<sizeLine/\Q .non^A5 H l^.lst (a++[y])
def BK:fA X "list.append" RK:=by
 intro g s Z H x i v j Q I b c h;let#[l,k,y,rfl,rfl,a,m,q]:=h;cases b;let#[u,rfl,d]:=c.one;let#[z,f,n,r,o,e]:=I.lstM a;refine call_meets F.slot_list_append #[_,e,rfl] F.entry_list_append (F.args_list_append_2 _ _) (PySem.list_append l _ n u^by grind) #[e,?_];refine#[.non,_,I.lset a e (by simp) (r.append^.cons d .nil) ?_,rfl,q]
 grind
def RJ:V->s_ V->Hp->VK->Prop:=λx d H Q=>∃l b a c,x=.ref l/\d=[.ref b]/\H l=P3^.lst a/\H b=P3^.lst c/\a.length+c.length<=sizeLine/\Q .non^A5 H l^.lst (a++c)
def S8:fA X "list.extend" RJ:=by
 intro y s Z H x A v B Q I i j h;let#[l,b,C,D,rfl,rfl,g,k,E,q]:=h;cases i;let#[u,rfl,m]:=j.one;cases m;let#[z,a,n,r,G,e]:=I.lstM g;let#[J,c,o,p,t,w]:=I.lstM k;have f:a.toArray.size+c.toArray.size<=sizeLine:=by grind
 have d:¬(!a.toArray.isEmpty&&jh (a.toArray.size+c.toArray.size))=q_:=by
  rw[VT f]
  grind
 refine call_meets F.slot_list_extend #[_,e,rfl] F.entry_list_extend (F.args_list_extend_2 _ _)
  (AutoSeq1.list_extend_list_list_0 l a.toArray n b _ o d (by grind)^by lk) #[e,w,?_]
 refine#[.non,_,I.lset g e (by simp) (r.append p) ?_,rfl,q]
 grind
def ZW:V->s_ V->Hp->VK->Prop:=λx b H Q=>∃l a i k y,x=.ref l/\b=[.int i]/\H l=P3^.lst a/\-(2 ^ 63)<=i/\i<2 ^ 63/\seqIndex? i a.length=P3 k/\a[k]?=P3 y/\Q y^A5 H l^.lst^a.eraseIdx k
def VW:fA X "list.pop" ZW:=by
 intro A s Z H x B v C Q I d f h;let#[l,g,i,k,y,rfl,rfl,c,j,m,D,o,q]:=h;cases d;let#[u,rfl,p]:=f.one;let#[t,rfl]:=p;let#[z,a,n,r,E,e]:=I.lstM c;let#[w,G,b]:=r.get o
 refine call_meets F.slot_list_pop #[_,e,rfl] F.entry_list_pop (F.args_list_pop_2 _ _)
  (MeetsSeq.list_pop_at l a.toArray n i t k w (fitsIndex_both j m) (by simp_all) (by simp_all)^by grind) #[e,?_]
 refine#[y,_,I.lset (its':=a.eraseIdx k) c e ?_ (r.eraseIdx k) ?_,b,q]
 .simp_all
 .have:=Hg g k
  omega
end
end L2
namespace Att
open PySem.W PySem.Calls
def Ir{P:Params}{h:gI}:∀(c:s_ Int) (d:s_ Ev),WellAll P h d^c.map WData.int->IntsAre d c:=by
 intro c
 induction c with
 |nil=>
  intro d w;cases w;exact .nil
 | cons n c e=>
  intro d w;cases w with
  |cons a b=>
   cases a;exact .cons _ _^e _ b
def Sd{l:OpenLaw}{n:Nat}(w:l.most=P3 n){P:Params}{h:gI}{args:s_ WData}{b:s_ Ev}
  (c:l.row.toRowW.claim.pre args=q_) (i:WellAll P h b args):
  ∃a k e,b=[gE a]/\args=[WData.list^e.map WData.int]/\h.get? a=P3 {cls:=.type "list",data:=.seq k.toArray}/\IntsAre k e/\e.length<=n:=by
 have j:WShape.hasAll [] args [.list .int]=q_:=(pre_splitW c).1;have m:l.pre.holds [] {args:=args}=q_:=(pre_splitW c).2;let#[d,r,rfl,p,q]:=hasAllW_cons j;obtain rfl:=hasAllW_nil q;let#[x,rfl,s]:=hasW_list p;let#[e,rfl]:=items_int s
 have f:e.length<=n:=by
  unfold OpenLaw.pre at m
  have o:(WTm.not^.lt (.lit^.int (n:Int))^.len^.arg 0).holds [] {args:=[.list^e.map .int]}=q_:=by
   have o:=(holds_andW m).1
   grind
  have y:=condW_of o^w_not^w_lt w_lit^w_len_list (w_arg rfl)
  grind
 cases i with
 |cons t u=>
  cases u;cases t with
  |list v g=>exact#[_,_,e,rfl,rfl,v,Ir e _ g,f]
def Sn(l:OpenLaw)(a:s_ WData):l.row.toRowW.claim.post a (.bool q_) a=q_:=
 postW_of
  (show WShape.has [] _ _=q_ by first|rfl|decide|omega)
  (w_eq_bool (w_res rfl) w_lit) rfl
def attach_call{l:OpenLaw}{n:Nat}{q:gN}{c:s_ Str}{D:(Str->t_ Ev)->gI->Prop}{E:gY->gI->Prop}{d:DefRec}
  (K:l.most=P3 n) (x:d.params.defaults=[])
  (call:∀(w:gY) (e b:Go) (s y:Str->t_ Ev) (j:Db) (o:Obj) (z t g:Ev) (a:Db) (i:s_ Ev) (u:s_ Int),
   Ground q c [] D w e s y b.heap->E w b.heap->
   b.heap.get? j=P3 o->o.data=.func^docDef d.name d.params d.body d.scope z t g->b.heap.CodeRec t d.name->s d.name=P3^.ref j->
   b.heap.get? a=P3 {cls:=.type "list",data:=.seq i.toArray}->IntsAre i u->u.length<=n->b.gens=#[]->
   codeAny (model l.prog w) callerA (.call (.ref j) #[[.ref a],[]]) (λr v=>r=.ok^.ret^.bool q_/\OldK b.heap v.heap/\v.os=b.os/\j6 v.gens) b):
  WalkO q c D E l.row.toRowW d [] (λf i=>PySem.call f i):=by
 intro w e b s y G Y j o z t g L M N O A F B P H I X k J Q C R;obtain rfl:L=.none:=Dflts.none F x;obtain rfl:M=.none:=Dflts.noKw F;let#[a,i,u,rfl,rfl,m,h,p]:=Sd K k C;refine enter_call^jg (call w e b s y j o z t g a i u G Y N (fd_plain O) A B m h p P) λr v S=>?_;let#[rfl,T,U,V]:=S;exact#[.inl #[.bool q_,.bool q_,[],rfl,λ_=>rfl,.bool q_,Sn l _,λ_=>#[List.Pairwise.nil,λ_ W=>(nomatch W)]],T,U,V]
end Att
namespace L2
theorem Le:∀{a:s_ Ev}{b:s_ Int},IntsAre a b->Vals (b.map V.int) a
 |_,_,.nil=>.nil
 |_,_,.cons n t h=>.cons #[t,rfl]^Le h
def ag(H:Hp):Prop:=∀b,H b=p_\/∃o a,H b=P3^.frz o^.lst a
def Ve{P:gN}{w:gY}{K:Frag}{A R:Str->t_ Ev}{CX:T3}{k:Nat}{S a:Db}{fd:gy}{x:Str}{sp:Sp}{c:Go}{t:s_ Ev}{B:s_ Int}
  (KX:K.In c.heap) (C:c.heap.Ns mainGlobals A) (g:c.heap.Ns builtinsNs R) (T:∀x:Str,x ≠ "__name__"->R x=bootBuiltins x) (D:c.heap.NoLimit) (hg:c.gens=#[])
  (Q:c.heap.get? a=P3 {cls:=.type "list",data:=.seq t.toArray}) (hi:IntsAre t B) (hl:B.length<=sizeLine) (hr:Room k callerA)
  (F:∀i:gI,K.In i->i.Ns mainGlobals A->CW P w K A i CX k S fd [x] sp) (y:∀(s:Go) (u:Ev),lg s fd #[[u],[]] [(x,u)])
  (U:∀H:Hp,ag H->SqL K H a^B.map V.int->sp [.ref a] H (λv _=>v=.bl q_) λ_ _ _=>False)
  (W:∀H e j,CX [] H c (λ_ _ _=>False) e j->False):
  codeAny (model P w) callerA (.call (.ref S) #[[.ref a],[]]) (λr j=>r=.ok^.ret^.bool q_/\OldK c.heap j.heap/\j.os=c.os/\j6 j.gens) c:=by
 have rv:=Le hi;have E:=hi.length
 have p:∀H:Hp,ag H->SqL K H a^B.map V.int->HOk P w H c.heap->(∀b,H b≠p_->b=a)->(H a≠p_->K.lookup a=p_)->
   codeAny (model P w) callerA (.call (.ref S) #[[.ref a],[]]) (λr j=>r=.ok^.ret^.bool q_/\OldK c.heap j.heap/\j.os=c.os/\j6 j.gens) c:=by
  intro H hO hS G hA hK;have f:∀{b:Db}{o:Obj},c.heap.get? b=P3 o->H b=p_->(NE c.heap H).get? b=P3 o:=λe n=>Vs e n
  have X:∀{b:Db}{o:Obj}{I:Array DictEntry}{J:Nat},c.heap.get? b=P3 o->o.data=.dict I J->H b=p_:=λ{b o I J} e d=>by
   cases q:H b with
   |none=>rfl
   |some u=>
    have Y:b=a:=hA b (by rw[q];simp);subst Y;rw[Q]at e;cases e
    have d':Data.seq t.toArray _=Data.dict I J:=d;cases d'
  have l:∀{b:Db}{m:Str->t_ Ev},c.heap.Ns b m->(NE c.heap H).Ns b m:=λ{b m} #[o,I,J,e,d,r]=>#[o,I,J,f e^X e d,d,r]
  have L:K.In^NE c.heap H:=λb o e=>f (KX b o e) (by
   cases q:H b with
   |none=>rfl
   |some u=>
    have Y:b=a:=hA b (by rw[q];simp);subst Y;rw[hK^by rw[q];simp]at e;cases e)
  have hM:Mod K A^NE c.heap H:=#[L,l C,#[R,l g,T],let #[mc,h1,h2]:=D;#[mc,l h1,h2]];have e0:Env0 P w K A (NE c.heap H) callerA [] c H:=#[rfl,hM,λb o e=>Xe e,mY^TV _ _,trivial,λb g=>absurd (show b∈([]:s_ Db)from g)^by simp,G,.of_eq hg];refine jg ((F _ L^l C).run callerA [] c H #[[.ref a],[]] [.ref a] [.ref a] _ _ hr e0 (y c^.ref a) (.cons rfl .nil)^U H hO hS) λr j h=>?_;cases r with
  |error e=>exact(W H e j h).elim
  | ok fl=>
   cases fl with
   |next=>exact g8 h
   |brk=>exact g8 h
   |cont=>exact g8 h
   | ret u=>
    let#[v,H',os,M,un,N,r',q]:=h;have q':v=.bl q_:=q;subst q';obtain rfl:u=lF q_:=r';refine#[rfl,OldK.of_keep λb o e=>?_,os,M];cases q:H b with
    |none=>exact un.keep b o e q (by intro z;exact absurd (show b∈([]:s_ Db)from z)^by simp)^by simp
    | some u=>
     rcases hO b with z|⟨ob,xs,z⟩
     .rw[q]at z;cases z
     .have z2:=un.frzs b ob _ z
      let#[e1,_]:=G b _ z;let#[e2,_]:=N b _ z2;rw[e]at e1;cases e1
      exact e2
 cases Z:K.lookup a with
 |some o=>
  have e:=KX a o Z;rw[Q]at e;cases e;refine p (λ_=>p_) (λ_=>.inl rfl) (.inr #[_,t.toArray,_,Z,rfl,rfl,rfl,by rw[f_,E];exact hl,by simpa using rv]) (λb u z=>by have O:(p_:t_ HO)=P3 u:=z;cases O) (λb z=>absurd rfl z) λz=>absurd rfl z
 | none=>
  refine p (λb=>if b=a then P3^.frz {cls:=.type "list",data:=.seq t.toArray}^.lst^B.map V.int else p_) (λb=>?_) (.inl^.inr #[{cls:=.type "list",data:=.seq t.toArray},if_pos rfl]) (λb u z=>?_) (λb z=>?_) λ_=>Z
  .by_cases g:b=a
   .exact .inr #[_,_,if_pos g]
   .exact .inl^if_neg g
  .by_cases g:b=a
   .have O:=(if_pos g).symm.trans z
    cases O;subst g;exact#[Q,by rw[No];exact hl,t,_,rv,Q]
   .have O:=(if_neg g).symm.trans z
    cases O
  .by_cases g:b=a
   .exact g
   .exact absurd (if_neg g) z
def Q7{l:PySem.W.OpenLaw}{n k:Nat}{q:gN}{j:s_ Str}{O:(Str->t_ Ev)->gI->Prop}{I:gY->gI->Prop}{d:DefRec}{K:Params->Frag}{CX:gY->T3}{sp:gY->Sp}{x:Str}
  (P:l.most=P3 n) (z:n<=sizeLine) (A:d.params.defaults=[]) (Q:Room k callerA)
  (R:∀(w:gY) (h:gI),I w h->(K w.params).In h)
  (F:∀(w:gY) (p:Str->t_ Ev) (t:Db) (h:gI),(K w.params).In h->h.Ns mainGlobals p->p d.name=P3^.ref t->
   ∃fd:gy,(∀(s:Go) (u:Ev),lg s fd #[[u],[]] [(x,u)]) /\
    ∀c:gI,(K w.params).In c->c.Ns mainGlobals p->CW l.prog w (K w.params) p c (CX w) k t fd [x]^sp w)
  (B:∀(w:gY) (H:Hp) (a:Db) (y:s_ Int),y.length<=n->ag H->SqL (K w.params) H a^y.map V.int->sp w [.ref a] H (λv _=>v=.bl q_) λ_ _ _=>False)
  (C:∀(w:gY) (H:Hp) (s:Go) (e:Ev) (D:Go),CX w [] H s (λ_ _ _=>False) e D->False):
  PySem.W.WalkO q j O I l.row.toRowW d [] (λf J=>PySem.call f J):=by
 refine Att.attach_call P A λw L M p mb t o pm cd S a J y G Y ho hd U E r m i X=>?_;have N:=R w _ Y;let#[fd,Z,hF]:=F w p t _ N G.T.g E;exact Ve N G.T.g G.T.b G.T.builtins G.T.nolimit X r m (gG i z) Q hF Z (λH hO hS=>B w H a y i hO hS) λH e D=>C w H _ e D
end L2
/- THE LAST THEOREM (shape;LID,My.* are yours):
   My.Adr:a structure of the addresses that your layer names (classes,functions);My.Txt K t:a structure (Prop) of the equations over K;
   My.txt_mk:{K}{implicit addresses ..} (e1:nsIn K mainGlobals "law"=P3^P3^.ref f) (e2:K.lookup f=P3 #[oc,od,.func^fnOf "law" "law" params body scope dV kV doc pm an cdv ct,sl]) (e3:codeIn K cdv "law"=q_) ..:∃ t,My.Txt K t
set_option maxRecDepth 100000 in
set_option maxHeartbeats 0 in
def PySem.Challenge.cw_LID_holds:PySem.Challenge.rw_LID.Holds:=by
 w_on;o_law;k_head;(case hw=>w_witness2)
 k_fill
 refine L2.Q7 (l:=PySem.Challenge.rw_LID) (n:=63) (k:=40) (x:="script") (CX:=λw=>..) (sp:=λ_=>My.sp_law) rfl (by cbv) rfl #[rfl,by cbv,by cbv] (λw h Y=>PySem.W.kIn_of Y) ?F ?S ?C
 case F=>
  intro w mg fa h KX G hmg
  have T:∃t,My.Txt (L2.KOf KX) t:=by
   dsimp only[L2.KOf] -- K must stand as «<heap const> w.params» for k_is
   refine' My.txt_mk ?e1 ?e2 ?e3 ..
   (case e1=>PySem.W.k_is) -- in the order:a name->its address->its object->its parts
   (case e2=>PySem.W.k_is)
   ..
  let#[t,T]:=T;have e0:=hmg.symm.trans^mg_of KX G T.law;cases e0 -- fa is the law's own address;exact#[_,λs u=>.of_eq rfl,λbase kb nb=>My.law_fn T kb nb] -- if «.of_eq rfl» comes too early:refine' #[_,?b,λbase kb nb=>My.law_fn T kb nb];exact λs u=>.of_eq rfl
 case S=>exact λw H a ns hl hO hS=>..
 case C=>exact ..
(the tactic k_is has no namespace:write k_is) -/
namespace L2
def CL(s:gf):Arguments:=match s with
 |.FunctionDef _ a _ _ _ _ _ _ _ _=>a
 |_=>{posonlyargs:=[],args:=[],vararg:=p_,kwonlyargs:=[],kw_defaults:=[],kwarg:=p_,defaults:=[]}
def BV(s:gf):s_ gf:=match s with
 |.FunctionDef _ _ b _ _ _ _ _ _ _=>b
 |_=>[]
def AI(s:gf):jB:=match s with
 |.FunctionDef _ _ _ _ _ _ a _ _ _=>a
 |_=>{kind:=.function,names:=[],isGenerator:=r_,isCoroutine:=r_}
abbrev FV:T3:=λ_ _ _ _ _ _=>False
abbrev E0:XK:=λ_ _ _=>False
def Yj{X:Cx}:Hz FV X E0:=λ_ _ _ _ _ _ _ h=>h.elim
structure Fun (K:Frag) (x qual:Str) (st:gf) (f:Db) (fd:gy):Prop where
 ex:∃(oc:Ev) (od:Option Db) (kV doc pm:Ev) (an:Option Db) (cdv ct:Ev) (osl:Array^Option Ev),
  fd=fnOf x qual (CL st) (BV st) (AI st) .none kV doc pm an cdv ct/\K.lookup f=P3 #[oc,od,.func fd,osl]/\codeIn K cdv qual=q_
 kp:keepIn K^.ref f=q_
section
variable {P:Program}{w:World}{K:Frag}{mg:Str->t_ Value}{base:Heap}
def Fun.ok{x a:Str}{st:gf}{f:Db}{fd:gy}{N g:s_ Str}{k:Nat}{i:Sp}(F:Fun K x a st f fd)(S:Ag N g^AI st)(len:∀c H Q E,i c H Q E->c.length=g.length)
  (d:∀(e:Ev) (A:gc) (b:s_ Env) (s:Go) (H:Hp) (c:s_ V) (Q:VK) (E:XK),Room k^A.deeper^envOfC a (AI st) s.heap.objs.size f e->i c H Q E->
   ∃t,PSs (D1 FV P w K mg base N a (AI st) f e A b s H E).nox (BV st) t/\t {nx:=λ_ m=>Q .non m,rt:=Q} (start N c) H):CW P w K mg base FV (k+1) f fd g i:=by
 let#[u,v,y,n,z,B,e,C,o,rfl,p,j]:=F.ex;refine Ym p j S len λA b s H c Q E r l=>?_;let#[t,h,q]:=d _ A _ s H c Q E r l;exact#[t,h.nox,q]
def Fun.binds{x a:Str}{st:gf}{f:Db}{fd:gy}{ps:s_ Str}(F:Fun K x a st f fd)
  (h:∀(d b e:Ev) (g:t_ Db) (c i:Ev) (j:s_ Ev),j.length=ps.length->bindArgs (fnOf x a (CL st) (BV st) (AI st) .none d b e g c i) #[j,[]]=pure^ps.zip j):Binds K fd ps []:=by
 let#[m,n,d,b,e,g,c,i,k,rfl,o,l]:=F.ex;exact .all^h d _ e g _ i
def Qa{x a:Str}{st:gf}{f:Db}{j:Ev}{m e:t_ Db}{g:Array^t_ Ev}{kV d h b i:Ev}(l:K.lookup f=P3 #[j,m,.func^fnOf x a (CL st) (BV st) (AI st) .none kV d h e b i,g])
  (c:codeIn K b a=q_) (k:keepIn K^.ref f=q_):Fun K x a st f^fnOf x a (CL st) (BV st) (AI st) .none kV d h e b i:=#[#[j,m,kV,_,h,e,_,i,_,rfl,l,c],k]
end
def IY{A:gc}{k:Nat}(a:Room k A):A.units+1<cLine:=jR (Nat.add_le_add_left (by cbv) _) a.units
section
variable {X:Cx}
def pv(i:Nat){x:Str}{pos:Pos}(b:X.N[i]?=P3 x:=by rfl)(c:Tz X.env.scope x:=by first|exact TW rfl|exact iI (TW rfl)|exact iI (iI rfl))(hd:(x==("__debug__":Str))=r_:=by cbv)
  (a:(x==("__classdict__":Str))=r_:=by cbv):PE X (.Name x pos)^B6 i:=Ex b c hd a
end
def Br{A B:Prop}(h:B):if r_=q_ then A else B:=by
 grind
def Bw{A B:Prop}(h:A):if q_=q_ then A else B:=by
 grind
def CI{c A B:Prop}[Decidable c](a:c->A)(b:¬c->B):if c then A else B:=by
 grind
section
variable {κ:Type}[DecidableEq κ]
def C2(a:s_ (κ×V))(k:κ):t_ V:=(a.find? λb=>decide (b.1=k)).map (·.2)
def putK(a:s_ (κ×V))(k:κ)(v:V):s_ (κ×V):=
 if(a.any λb=>decide (b.1=k))=q_ then a.map (λb=>if b.1=k then(b.1,v)else b)else a++[(k,v)]
def D6{p:κ×V}{r:s_ (κ×V)}{k:κ}(e:p.1=k):C2 (p::r) k=P3 p.2:=by simp[C2,e]
def D7{p:κ×V}{r:s_ (κ×V)}{k:κ}(e:¬p.1=k):C2 (p::r) k=C2 r k:=by simp[C2,e]
theorem N6(k:κ):∀a:s_ (κ×V),(a.any λb=>decide (b.1=k))=(C2 a k).isSome
 |[]=>rfl
 |p::r=>by
  rw[List.any_cons]
  by_cases e:p.1=k
  .simp[D6 e,decide_eq_true e,Bool.true_or]
  .rw[D7 e,decide_eq_false e];exact N6 k r
def E5(a:s_ (κ×V))(k:κ)(v:V):(putK a k v).length<=a.length+1:=by
 unfold putK
 grind
def RelO.isSome_eq{o:t_ V}{u:t_ Ev}(r:RelO o u):o.isSome=u.isSome:=by
 cases o with
 |none=>cases u with
  |none=>rfl
  |some _=>exact(r).elim
 |some _=>cases u with
  |none=>exact(r).elim
  |some _=>rfl
def RelO.getD{o:t_ V}{u:t_ Ev}{d:V}{a:Ev}(r:RelO o u)(b:RelV d a):RelV (o.getD d)^u.getD a:=by
 cases o with
 |none=>cases u with
  |none=>exact b
  |some _=>exact(r).elim
 |some _=>cases u with
  |none=>exact(r).elim
  |some _=>exact r
def KV.val{a:s_ (κ×V)}{f:s_ (κ×Ev)}(r:KV a f)(k:κ):RelO (C2 a k)^valueAt f k:=by
 induction r with
 |nil=>exact jD
 | @cons p q l c h t i=>
  let#[g,j]:=h
  by_cases e:p.1=k
  .have d:=g.symm.trans e
   have b:valueAt (q::c) k=P3 q.2:=by simp[valueAt,d]
   rw[D6 e,b];exact j
  .have d:¬q.1=k:=λz=>e^g.trans z
   have b:valueAt (q::c) k=valueAt c k:=by simp[valueAt,d]
   rw[D7 e,b];exact i
def KV.any{a:s_ (κ×V)}{c:s_ (κ×Ev)}(r:KV a c)(k:κ):(a.any λb=>decide (b.1=k))=c.any λb=>decide (b.1=k):=by
 induction r with
 |nil=>rfl
 |cons h t d=>simp_all
def KV.repl{b:s_ (κ×V)}{c:s_ (κ×Ev)}(r:KV b c)(k:κ){y:V}{u:Ev}(f:RelV y u):
  KV (b.map λa=>if a.1=k then(a.1,y)else a) (c.map λa=>if a.1=k then(a.1,u)else a):=by
 induction r with
 |nil=>exact .nil
 |@cons p q g i h t d=>
  refine .cons ?_ d
  by_cases e:p.1=k
  .simp_all
  simp_all
def KV.put{kvs:s_ (κ×V)}{a:s_ (κ×Ev)}(r:KV kvs a)(k:κ){y:V}{u:Ev}(b:RelV y u):KV (putK kvs k y)^stored a k u:=by
 unfold putK stored;rw[r.any k]
 by_cases e:(a.any λc=>decide (c.1=k))=q_
 .rw[if_pos e,if_pos e];exact r.repl k b
 .rw[if_neg e,if_neg e];exact Paired.snoc r #[rfl,b]
def KV.length{a:s_ (κ×V)}{b:s_ (κ×Ev)}(r:KV a b):a.length=b.length:=Paired.length r
end
def KR{P:gN}{w:gY}{k:Key}{u:Ev}(r:RelV (kV k) u):(BU P w).is k u=q_:=by
 cases k with
 |inl i=>let#[t,e]:=(r);subst e;exact Oe P w i t
 |inr x=>let#[t,e]:=(r);subst e;exact Od P w x t
theorem L4{P:gN}{w:gY}:∀{a:s_ Key}{b:s_ Ev},Vals (a.map kV) b->ItemsAre (BU P w) a b
 |[],_,r=>by cases r;exact .nil
 |k::a,_,r=>by
  cases r with
  |cons h t=>exact .cons (KR h)^L4 t
abbrev KT(H:Hp):s_ (s_ Key×V)->s_ (s_ Key×Db×Ev)->Prop:=Paired λp q=>p.1=q.1/\H q.2.1=P3^.tup^p.1.map kV/\RelV p.2 q.2.2
def KT.val{H:Hp}{a:s_ (s_ Key×V)}{f:s_ (s_ Key×Db×Ev)}(r:KT H a f)(k:s_ Key):RelO (C2 a k) ((atKey f k).map (·.2)):=by
 induction r with
 |nil=>exact jD
 | @cons p q l c h t i=>
  let#[g,_,j]:=h
  by_cases e:p.1=k
  .have d:=g.symm.trans e
   have b:atKey (q::c) k=P3 q.2:=by simp[atKey,d]
   rw[D6 e,b];exact j
  .have d:¬q.1=k:=λz=>e^g.trans z
   have b:atKey (q::c) k=atKey c k:=by simp[atKey,d]
   rw[D7 e,b];exact i
def KT.repl{H:Hp}{a:s_ (s_ Key×V)}{c:s_ (s_ Key×Db×Ev)}(r:KT H a c)(k:s_ Key){y:V}{u:Ev}(f:RelV y u):
  KT H (a.map λb=>if b.1=k then(b.1,y)else b) (c.map^putAt k u):=by
 induction r with
 |nil=>exact .nil
 |@cons p q g i h t d=>
  refine .cons ?_ d;unfold putAt
  by_cases e:p.1=k
  .simp_all
  simp_all
def KT.put{H:Hp}{kvs:s_ (s_ Key×V)}{a:s_ (s_ Key×Db×Ev)}(r:KT H kvs a)(k:s_ Key){b:Db}{y:V}{u:Ev}(d:H b=P3^.tup^k.map kV)(c:RelV y u):
  KT H (putK kvs k y) (storedH a k b u):=by
 have e:(kvs.any λf=>decide (f.1=k))=(atKey a k).isSome:=by
  rw[N6,(r.val k).isSome_eq,mM]
 unfold putK storedH;rw[e]
 by_cases q:(atKey a k).isSome=q_
 .rw[if_pos q,if_pos q];exact r.repl k c
 .rw[if_neg q,if_neg q];exact Paired.snoc r #[rfl,d,c]
def KT.keeps{H c:Hp}{a:s_ (s_ Key×V)}{d:s_ (s_ Key×Db×Ev)}(r:KT H a d)(f:∀b e,H b=P3^.tup e->c b=P3^.tup e):KT c a d:=
 Paired.mapP r λ_ _ z=>#[z.1,f _ _ z.2.1,z.2.2]
section
variable {P:Program}{w:World}{H:Hp}{h:Heap}{a:Addr}
def Ya{u:HO}(ok:HOk P w H h)(e:Rd H a u):ObjOk P w H h a u:=e.ok ok
def Ib{b:s_ (Key×V)}(ok:HOk P w H h)(e:Rd H a^.dK b):b.length<=sizeLine/\(a==sysModules)=r_/\∃c,KV b c/\h.DictOf (BU P w) a c:=
 Ya ok e
def Yt{b:s_ (Key×V)}(ok:HOk P w H h)(e:H a=P3^.dK b):b.length<=sizeLine/\(a==sysModules)=r_/\∃c,KV b c/\h.DictOf (BU P w) a c:=Ib ok^.inl e
def Hl{b:s_ Key}(ok:HOk P w H h)(e:H a=P3^.tup^b.map kV):(tupleKind^BU P w).is h b a:=by
 let#[_,c,r,o,d,f,n,g,_]:=(ok a _ e);exact#[o,_,n,d,f,g,by simpa using L4 r]
def Ki{b:s_ (s_ Key×V)}(ok:HOk P w H h)(e:Rd H a^.dT b):b.length<=sizeLine/\(a==sysModules)=r_ /\
  ∃d,KT H b d/\h.DictOfH (tupleKind^BU P w) a d:=by
 let#[z,y,d,r,o,f,g,i,j,k,n,s]:=(Ya ok e);refine#[z,y,d,r,o,f,g,i,j,k,n,λx c=>?_,s]
 have all:∀{l:s_ _}{m:s_ _},KT H l m->∀x∈m,(tupleKind^BU P w).is h x.1 x.2.1:=by
  intro l m q
  induction q with
  |nil=>grind
  |@cons p q v A B t u=>
   intro x c
   rcases T0.mp c with e|c
   .exact Hl ok^by grind
   .exact u x c
 exact all r x c
def cY{b:s_ (s_ Key×V)}(ok:HOk P w H h)(e:H a=P3^.dT b):b.length<=sizeLine/\(a==sysModules)=r_ /\
  ∃c,KT H b c/\h.DictOfH (tupleKind^BU P w) a c:=Ki ok^.inl e
end
def DGet(H:Hp)(a:Db)(y:V)(r:t_ V):Prop:=
 (∃c k,Rd H a^.dK c/\y=kV k/\r=C2 c k)\/∃c k b,Rd H a^.dT c/\y=.ref b/\H b=P3^.tup^k.map kV/\r=C2 c k
def DPut(H:Hp)(a:Db)(y v:V)(d:Hp):Prop:=
 (∃c k,H a=P3^.dK c/\y=kV k/\c.length<sizeLine/\d=A5 H a^.dK^putK c k v) \/
 ∃c k b,H a=P3^.dT c/\y=.ref b/\H b=P3^.tup^k.map kV/\c.length<sizeLine/\d=A5 H a^.dT^putK c k v
theorem DGet.k{H:Hp}{a:Db}{b:s_ (Key×V)}{k:Key}(e:H a=P3^.dK b):DGet H a (kV k)^C2 b k:=.inl #[_,k,.inl e,rfl,rfl]
theorem DPut.k{H:Hp}{a:Db}{b:s_ (Key×V)}{k:Key}{v:V}(e:H a=P3^.dK b)(c:b.length<sizeLine):DPut H a (kV k) v^A5 H a^.dK^putK b k v:=.inl #[_,k,e,rfl,c,rfl]
def DPut.t{H:Hp}{a b:Db}{c:s_ (s_ Key×V)}{k:s_ Key}{v:V}(e:H a=P3^.dT c)(eb:H b=P3^.tup^k.map kV)(d:c.length<sizeLine):
  DPut H a (.ref b) v (A5 H a^.dT^putK c k v):=.inr #[_,k,b,e,rfl,eb,d,rfl]
section
variable {X:Cx}{zH:s_ (Addr×Obj)}{Z:St}{H:Hp}{s:Shared}{a:Addr}{y v:V}{u r:Value}{o:t_ V}{A:Around}{E:Value->Shared->Prop}
def Inv.big(I:Inv X zH Z H s):sysModules<s.heap.objs.size:=Nat.lt_trans (by cbv) (I.mod.glob.keeps I.bk).lt
def Tf{Q:Ev->Go->Prop}(B:A.units+1<cLine)(I:Inv X zH Z H s)(g:DGet H a y^P3 v)(t:RelV y u)(h:∀f x,Inv X zH Z H x->RelV v f->Q f x):
  wpAny (model X.prog X.w) A (getItem (.ref a) u) Q E s:=by
 rcases g with⟨i,k,e,j,l⟩|⟨i,k,b,e,j,C,l⟩
 .subst j
  let#[z,D,F,c,m]:=Ib I.hok e;let#[f,n,d]:=RelO.some_of (v:=v) (o:=valueAt F k) (by rw[l];exact c.val k);exact wpAny_getItem_of (KR t) m.mapOf n^h f _ (I.tok _) d
 .subst j
  cases(show u=gE b from t);let#[z,D,G,c,m]:=Ki I.hok e;let#[f,n,d]:=RelO.some_of (v:=v) (o:=(atKey G k).map (·.2)) (by rw[l];exact c.val k);let#[p,J,q]:=iE.mp n;refine wpAny_getItem_heap (jt B) (Hl I.hok C) m J ?_;rw[q];exact h f _ (I.tok _) d
def em{Q:Ev->Go->Prop}(p:A.units+1<cLine)(I:Inv X zH Z H s)(g:DGet H a y o)(m:RelV y u)(h:∀n,Inv X zH Z H n->Q (.bool o.isSome) n):
  wpAny (model X.prog X.w) A (compareOp .In u^.ref a) Q E s:=by
 rcases g with⟨d,k,e,f,l⟩|⟨d,k,b,e,f,t,l⟩
 .subst f
  let#[z,i,x,c,j]:=Ib I.hok e;refine wpAny_in_of (KR m) i j.mapOf ?_;rw[←(c.val k).isSome_eq,←l];exact h _^I.tok _
 .subst f
  cases(show u=gE b from m);let#[z,i,B,c,j]:=Ki I.hok e;refine wpAny_in_heap (jt p) (Hl I.hok t) i j ?_;have q:=(c.val k).isSome_eq;rw[mM]at q;rw[←q,←l];exact h _^I.tok _
def YF{Q:Ev->Go->Prop}(p:A.units+1<cLine)(I:Inv X zH Z H s)(g:DGet H a y o)(m:RelV y u)(h:∀n,Inv X zH Z H n->Q (.bool (!o.isSome)) n):
  wpAny (model X.prog X.w) A (compareOp .NotIn u^.ref a) Q E s:=by
 rcases g with⟨d,k,e,f,l⟩|⟨d,k,b,e,f,t,l⟩
 .subst f
  let#[z,i,x,c,j]:=Ib I.hok e;refine wpAny_notIn_of (KR m) i j.mapOf ?_;rw[←(c.val k).isSome_eq,←l];exact h _^I.tok _
 .subst f
  cases(show u=gE b from m);let#[z,i,B,c,j]:=Ki I.hok e;refine wpAny_notIn_heap (jt p) (Hl I.hok t) i j ?_;have q:=(c.val k).isSome_eq;rw[mM]at q;rw[←q,←l];exact h _^I.tok _
def NR{c:gI}{e:Nat}{d:HO}(I:Inv X zH Z H s)(f:c9^H a)(g:jf a s.heap c)(h:∃q,c.get? a=P3 q)(new:ObjOk X.prog X.w (A5 H a d) c a d):
  Inv X zH Z (A5 H a d) {s with heap:=c,toks:=e}:=
 I.write f (.inl rfl) (λb q i z=>(g.2 b i).trans z) h new
def V_{P:gN}{w:gY}{f:Hp}{e:gI}{b:s_ (Key×V)}{c:s_ (Key×Ev)}(z:b.length<=sizeLine)(hd:(a==sysModules)=r_)(d:KV b c)(g:e.DictOf (BU P w) a c):
  ObjOk P w f e a (.dK b):=#[z,hd,c,d,g]
def Te{D:Hp}{Q:Unit->Go->Prop}(M:A.units+1<cLine)(I:Inv X zH Z H s)(g:DPut H a y v D)(F:RelV y u)(rv:RelV v r)(h:∀G,Inv X zH Z D G->Q () G):
  wpAny (model X.prog X.w) A (setItem (.ref a) u r) Q E s:=by
 rcases g with⟨d,k,e,m,l,n⟩|⟨d,k,b,e,m,J,l,n⟩
 .subst m n
  let#[z,p,N,f,t]:=Yt I.hok e;have x:N.length<=sizeLine:=by rw[←f.length];exact z
  have B:(putK d k v).length<=sizeLine:=by have:=E5 d k v;lk
  refine wpAny_setItem_pairs (hsz:=x) (KR F) t λK i C=>h _ ?_;have O:∃q,K.get? a=P3 q:=let #[q,_,_,j,_]:=i;#[q,j]
  exact NR I (by rw[e];exact jD) C O^V_ B p (f.put k rv) i
 .subst m n
  cases(show u=gE b from F);let#[z,p,P,f,t]:=cY I.hok e;have x:P.length<=sizeLine:=by rw[←Paired.length f];exact z
  have B:(putK d k v).length<=sizeLine:=by have:=E5 d k v;lk
  refine wpAny_setItem_heap (hsz:=x) (jt M) (Hl I.hok J) t λK i C=>h _ ?_;let#[q,R,S,j,T,U,V,_,W]:=i;refine NR I (by rw[e];exact jD) C #[q,j] #[B,p,_,(f.put k J rv).keeps λc Y L=>?_,q,R,S,j,T,U,V,W];rw[AS^b9 L e λz=>nomatch z];exact L
end
def YQ(i:gZ):Prop:=∀a b,subscripted i r_ a b=operate [a,b]^getItem a b
def W6{b:gN}{w:gY}{A:gc}{E:Ev->Go->Prop}{s:Go}{f:Env}{value a:gZ}{pos:Pos}{T l:String}{Q:Ev->Go->Prop}
  (m:typeLookup (.type T) "__getitem__"=pure^P3^.builtin l) (n:YQ a)
  (h:wpAny (model b w) A (eval value f) (λo e=>wpAny (model b w) A (eval a f) (λi c=>c.TypeIs o T/\wpAny (model b w) A (getItem o i) Q E c) E e) E s):
  wpAny (model b w) A (eval (.Subscript value a pos) f) Q E s:=by
 refine Subscript_^gq h (λo e g=>gq g (λi c d=>?_) λ_ _ x=>x) λ_ _ x=>x;let#[p,d]:=d;refine Ch ?_;refine Ch^jE p m ?_
 first
  |exact Rs (Ch (by
  rw[n o i];exact wpAny_operating^gq d (λr k j=>Ch^wpAny_letTemporaryGo^Rs j) λ_ _ x=>x))
  |grind
  |grind
def Ov{X:Cx}{f:s_ (Db×Obj)}{Z:St}{H:Hp}{s:Go}{a:Db}{y:V}{o:t_ V}(I:Inv X f Z H s)(g:DGet H a y o):s.TypeIs (.ref a) "dict":=by
 rcases g with⟨c,k,e,_,_⟩|⟨c,k,b,e,_,_,_⟩
 .let#[_,_,h,_,d]:=Ib I.hok e
  exact d.typeIs
 .let#[_,_,i,_,d]:=Ki I.hok e
  exact d.typeIs
def bO(b ty:TE):TE:=λZ H Q=>b Z H λx c=>ty Z c λy H2=>∃a v,x=.ref a/\DGet H2 a y^P3 v/\Q v H2
def bT(c ty d:TE):TS:=λD Z H=>d Z H λv e=>c Z e λx H2=>ty Z H2 λy f=>∃a b,x=.ref a/\DPut f a y v b/\D.nx Z b
section
variable {X:Cx}{o i value:Expr}{pos pos':Pos}{td ty tv:TE}
def I_(d:X.A.units+1<cLine)(e:PE X o td)(f:PE X i ty)(j:YQ i):PE X (.Subscript o i pos)^bO td ty:=by
 intro w s Z H Q I h;refine W6 PySem.F.slot_dict_getitem.lookup j^thn (e _ s Z H _ I h) λu k #[x,l,m,n,p]=>thn (f _ k Z l _ m p) λz B #[y,H2,c,q,a,v,ex,g,r]=>?_;subst ex;obtain rfl:u=gE a:=n;exact#[Ov c g,Tf d c g q λC D t b=>#[v,H2,t,b,r]]
def Gs(b:X.A.units+1<cLine)(c:PE X o td)(d:PE X i ty)(e:PE X value tv)(f:swapsWith value (P3^.Subscript o i pos') pos.line X.env=pure r_):
  PS X (.Assign [.Subscript o i pos'] value pos) (bT td ty tv):=by
 intro G s Z H D I h;refine wpAny_Assign_Subscript (thn (e _ s Z H _ I h) λr j #[v,k,l,m,n]=>thn (c _ j Z k _ l n) λu p #[x,H2,q,t,w]=>thn (d _ p Z H2 _ q w) λJ K #[y,L,z,B,a,C,ex,g,E]=>?_) f;subst ex;obtain rfl:u=gE a:=t;exact Te b z g B m λM F=>#[Z,C,F,E]
end
def Ou{P:gN}{w:gY}{H:Hp}(h:gI)(a:sysModules<h.objs.size):ObjOk P w H (h.push {cls:=.type "dict",data:=.dict #[]}) h.objs.size^.dK []:=
 #[f8 _,beq_eq_false_iff_ne.mpr^g0^gO a,[],.nil,Heap.DictOf.new h]
def V7{P:gN}{w:gY}{H:Hp}(h:gI)(a:sysModules<h.objs.size):ObjOk P w H (h.push {cls:=.type "dict",data:=.dict #[]}) h.objs.size^.dT []:=
 #[f8 _,beq_eq_false_iff_ne.mpr^g0^gO a,[],.nil,_,_,0,UF _ rfl,#[rfl,rfl,rfl],rfl,rfl,gl]
def ZM:TE:=λ_ H Q=>∀p,H p=p_->Q (.ref p)^A5 H p^.dK []
def ZL:TE:=λ_ H Q=>∀p,H p=p_->Q (.ref p)^A5 H p^.dT []
section
variable {X:Cx}{pos:Pos}
def Jx:PE X (.Dict [] [] pos) ZM:=λa s Z H Q I h=>
 wpAny_Dict_empty #[.ref _,_,I.laid (λ_ _ q=>FM _ q) (Re _)^Ou _ I.big,rfl,h _^I.hok.fresh^Re _]
def VJ:PE X (.Dict [] [] pos) ZL:=λa s Z H Q I h=>
 wpAny_Dict_empty #[.ref _,_,I.laid (λ_ _ q=>FM _ q) (Re _)^V7 _ I.big,rfl,h _^I.hok.fresh^Re _]
end
def Pu:s_ (TE×TE)->St->Hp->(s_ (V×V)->Hp->Prop)->Prop
 |[],_,H,Q=>Q [] H
 |(a,b)::r,Z,H,Q=>a Z H λx c=>b Z c λy H2=>Pu r Z H2 λd e=>Q ((x,y)::d) e
abbrev VV:s_ (V×V)->s_ (Ev×Ev)->Prop:=Paired λp q=>RelV p.1 q.1/\RelV p.2 q.2
def dS(X:Cx)(pos:Pos)(b:s_^t_ gZ)(a:s_ gZ)(c:s_ (TE×TE)):Prop:=
 ∀(d:s_ (Db×Obj)) (s:Go) (Z:St) (H:Hp) (Q:s_ (V×V)->Hp->Prop),Inv X d Z H s->Pu c Z H Q->
  wpAny (model X.prog X.w) X.A (evalPairs^pairTrees b a X.env pos) (λg h=>∃e f,Inv X d Z f h/\VV e g/\Q e f) X.xe s
def XJ{X:Cx}{pos:Pos}:dS X pos [] [] []:=λa s Z H Q I h=>pairTrees_nil_walk #[[],H,I,.nil,h]
def VB{X:Cx}{pos:Pos}{k v:gZ}{c:s_^t_ gZ}{d:s_ gZ}{e f:TE}{a:s_ (TE×TE)}(g:PE X k e)(i:PE X v f)(j:dS X pos c d a):
  dS X pos (P3 k::c) (v::d) ((e,f)::a):=λC s Z H Q I h=>
 pairTrees_cons_walk (thn (g _ s Z H _ I h) λu l #[x,m,n,o,p]=>thn (i _ l Z m _ n p) λD q #[y,H2,r,t,w]=>
  thn (j _ q Z H2 _ r w) λE F #[G,z,A,b,B]=>#[_,z,A,.cons #[o,t] b,B])
def KD(a more:s_ (Key×V)):s_ (Key×V):=more.foldl (λb c=>putK b c.1 c.2) a
def KV.merge:∀{a:s_ (Key×V)}{d:s_ (Key×Ev)}{b:s_ (Key×V)}{c:s_ (Key×Ev)},KV a d->KV b c->KV (KD b a)^merged c d:=by
 intro a d b c r
 induction r generalizing b c with
 |nil=>intro q;exact q
 | @cons p q g i h t e=>
  intro f
  exact e (by
   have:=f.put p.1 h.2
   simp_all)
theorem F2:∀(more a:s_ (Key×V)),(KD a more).length<=a.length+more.length
 |[],a=>by show a.length<=a.length+0;lk
 |p::r,a=>by
  have b:=F2 r^putK a p.1 p.2;have c:=E5 a p.1 p.2;show(KD _ r).length<=_
  grind
theorem Km{P:gN}{w:gY}:∀{d:s_ (Key×V)}{f:s_ (Ev×Ev)},VV (d.map λg=>(kV g.1,g.2)) f->∃e,Carries (BU P w) f e/\KV d e
 |[],_,r=>by cases r;exact#[[],jD,.nil]
 | p::d,_,r=>by
  cases r with
  |@cons a b j k h t=>
   let#[e,c,q]:=Km t;let#[l,i]:=b;exact#[(p.1,i)::e,#[KR h.1,rfl,c],.cons #[rfl,h.2] q]
def bN(b:s_ (TE×TE)):TE:=λZ H Q=>∀p,H p=p_->Pu b Z (A5 H p^.dK []) λd H2=>H2 p=P3^.dK []/\∃a:s_ (Key×V),d=a.map (λc=>(kV c.1,c.2))/\a.length<=15/\Q (.ref p)^A5 H2 p^.dK^KD [] a
def XX{X:Cx}{pos:Pos}{b:s_^t_ gZ}{d:s_ gZ}{f:s_ (TE×TE)}(h:dS X pos b d f)(g:b.all (·.isSome)=q_)(n:b.length=d.length)(p:b≠[])
  (k:b.length<=15):PE X (.Dict b d pos)^bN f:=by
 intro r s Z H Q I q;have t:=I.hok.fresh^Re s.heap.objs.size;have u:=I.laid (a:=s.heap.objs.size) (o:=.dK []) (h':=s.heap.push {cls:=.type "dict",data:=.dict #[]}) (t':=s.toks) (λ_ _ q=>FM _ q) (Re _)^Ou s.heap I.big;refine wpAny_Dict_walk (knd:=BU X.prog X.w) g n p k^thn (h r _ Z _ _ u^q _ t) λM N #[O,H2,m,l,e,i,v,R,x]=>?_;subst v;let#[y,c,A]:=Km (P:=X.prog) (w:=X.w) l;let#[z,B,C,D,E]:=Yt m.hok e;cases D;refine#[y,c,E,λh' j F=>#[.ref s.heap.objs.size,_,?_,rfl,x]]
 have G:(KD [] i).length<=sizeLine:=by
  have J:=F2 i [];rw[hX]at J;rw[gz];lk
 have K:∃q,h'.get? s.heap.objs.size=P3 q:=let #[q,_,_,L,_]:=j;#[q,L]
 exact NR m (by rw[e];exact jD) F K^V_ G B (A.merge .nil) j
structure M1 (X:Cx) (o:gZ) (m:Str) (apos:Pos) (e:gZ) (cpos:Pos):Prop where
 base:attributeBase o m X.env^eval o X.env=eval o X.env
 few:((backTo cpos^starEach [e] X.env).all (λx=>!x.1)&&(backToKw cpos^keywordEach [] X.env).all (λx=>x.1.isSome)
  && decide (([e]:List gZ).length+([]:List kd).length+(if([]:List kd).isEmpty then 0 else 1)<30))=q_
 line:(apos.endLine==cpos.line)=q_
 trees:backTo cpos^starEach [e] X.env=[(r_,eval e X.env)]
structure M2 (X:Cx) (o:gZ) (m:Str) (apos:Pos) (e f:gZ) (cpos:Pos):Prop where
 base:attributeBase o m X.env^eval o X.env=eval o X.env
 few:((backTo cpos^starEach [e,f] X.env).all (λx=>!x.1)&&(backToKw cpos^keywordEach [] X.env).all (λx=>x.1.isSome)
  && decide (([e,f]:List gZ).length+([]:List kd).length+(if([]:List kd).isEmpty then 0 else 1)<30))=q_
 line:(apos.endLine==cpos.line)=q_
 trees:backTo cpos^starEach [e,f] X.env=[(r_,eval e X.env),(r_,eval f X.env)]
def fF(H:Hp)(a:Db):Prop:=(∃b,Rd H a^.dK b)\/∃b,Rd H a^.dT b
def Vo{X:Cx}{k:s_ (Db×Obj)}{Z:St}{H:Hp}{s:Go}{a:Db}(I:Inv X k Z H s)(d:fF H a):
  s.TypeIs (.ref a) "dict"/\(∀b,gE a=.ref b->∃c,s.heap.get? b=P3 c/\c.dict=p_)/\(a==sysModules)=r_:=by
 rcases d with⟨g,e⟩|⟨g,e⟩
 .let#[_,h,l,_,f]:=Ib I.hok e
  refine#[f.typeIs,λb q=>?_,h];cases q;let#[c,_,_,i,j,_]:=f;exact#[c,i,j.2.1]
 .let#[_,h,m,_,f]:=Ki I.hok e
  refine#[f.typeIs,λb q=>?_,h];cases q;let#[c,_,_,i,j,_]:=f;exact#[c,i,j.2.1]
section
variable {X:Cx}{zH:s_ (Addr×Obj)}{Z:St}{H:Hp}{s:Shared}{a:Addr}{y d:V}{u r:Value}{o:t_ V}{A:Around}{E:Value->Shared->Prop}
def aI{Q:Ev->Go->Prop}(v:A.units+1<cLine)(I:Inv X zH Z H s)(g:DGet H a y o)(n:RelV y u)(p:RelV d r)(h:∀q t,Inv X zH Z H t->RelV (o.getD d) q->Q q t):
  wpAny (model X.prog X.w) A (call (.builtin "dict.get") [.ref a,u,r]) Q E s:=by
 rcases g with⟨i,k,e,j,l⟩|⟨i,k,b,e,j,x,l⟩
 .subst j
  let#[z,m,C,c,f]:=Ib I.hok e;refine call_meetsIn PySem.F.slot_dict_get f.typeIs PySem.F.entry_dict_get (PySem.F.args_dict_get_3 _ _ _) (meets_dict_get_default (BU X.prog X.w) a (KR n) m r) #[_,f.mapOf,h _ _ (I.tok _) ?_];rw[l];exact(c.val k).getD p
 .subst j
  cases(n);let#[z,m,B,c,f]:=Ki I.hok e;refine call_meetsIn PySem.F.slot_dict_get f.typeIs PySem.F.entry_dict_get (PySem.F.args_dict_get_3 _ _ _) (meetsH_dict_get_default _ a b m r) #[jt v,k,B,Hl I.hok x,f,h _ _ (I.tok _) ?_];rw[l];exact(c.val k).getD p
end
def ZN(d ty e:TE):TE:=λZ H Q=>d Z H λx b=>∃a,x=.ref a/\fF b a/\ty Z b λy H2=>e Z H2 λz c=>∃o,DGet c a y o/\Q (o.getD z) c
section
variable {X:Cx}{o e f:Expr}{apos cpos:Pos}{td ty tx:TE}
def VL(i:X.A.units+1<cLine)(j:PE X o td)(k:PE X e ty)(l:PE X f tx)(m:M2 X o "get" apos e f cpos):PE X (.Call (.Attribute o "get" apos) [e,f] [] cpos)^ZN td ty tx:=by
 intro M s Z H Q I h;refine wpAny_Call_method m.base m.few m.line PySem.F.plainAttrs_dict PySem.F.slot_dict_get PySem.F.type_dict_get^thn (j _ s Z H _ I h) λu n #[x,p,c,q,a,ex,d,r]=>?_;subst ex;obtain rfl:u=gE a:=q;let#[t,v,_]:=Vo c d;exists t,v;rw[m.trees]
 exact kn rfl (nA (ij (thn (k _ n Z p _ c r) λN w #[y,H2,B,C,D]=>
  ij (thn (l _ w Z H2 _ B D) λO P #[z,E,G,J,R,g,K]=>jI^aI i G g C J λS T L b=>#[_,E,L,b,K]))))
end
end L2
set_option maxHeartbeats 4000000
namespace L2
section
def Qi{g:Env}:∀(f:s_ (Str×jL)) (h:s_ (Str×Db)),(∀x,(x,h7)∈f->∃c,g.cells.lookup x=P3 c)->(∀x c,h.lookup x=P3 c->g.cells.lookup x=P3 c)->
  ∃i,(forIn f h fun(x:Str×jL) (r:s_ (Str×Db))=>(if(x.2==h7)=q_ then do let a ←cellOf g x.1;pure^ju ((x.1,a)::r) else pure^ju r:Sem^ForInStep^s_ (Str×Db)))=(pure i:Sem _) /\
   (∀x c,i.lookup x=P3 c->g.cells.lookup x=P3 c)/\(∀x,((x,h7)∈f\/∃c,h.lookup x=P3 c)->∃c,i.lookup x=P3 c):=by
 intro f
 induction f with
 |nil=>
  intro h _ m;exact#[h,rfl,m,λx d=>d.elim (λz=>absurd z^by simp) λz=>z]
 | cons p r w=>
  intro h q m;let#[n,k]:=p
  by_cases s:k=h7
  .subst s
   let#[c,y]:=q n Op;have j:cellOf g n=pure c:=by simp only[cellOf,y]
   let#[i,e,a,b]:=w ((n,c)::h) (λx d=>q x^TM _ d) (λx o d=>by
    rw[jM]at d;cases t:x==n with
    |true=>
     rw[t]at d;have u:P3 c=P3 o:=d;cases u
     have:x=n:=by simpa using t
     rw[this];exact y
    |false=>rw[t]at d;exact m x o d)
   refine#[i,?_,a,λx d=>b x ?_]
   .rw[lI]
    simp only[beq_self_eq_true,if_true,j,pure_bind];exact e
   .by_cases l:x=n
    .subst l
     exact .inr #[c,by simp[jM]]
    .rcases d with d|⟨o,d⟩
     .rcases T0.mp d with d|d
      .cases d;exact absurd rfl l
      .exact .inl d
     .refine .inr #[o,?_]
      have:(x==n)=r_:=by simpa using l
      rw[jM,this];exact d
  .have v:(k==h7)=r_:=by simpa using s
   let#[i,e,a,b]:=w h (λx d=>q x^TM _ d) m;refine#[i,?_,a,λx d=>b x ?_]
   .rw[lI]
    simp only[v,iA,if_false,pure_bind];exact e
   .rcases d with d|d
    .rcases T0.mp d with d|d
     .cases d;exact absurd rfl s
     .exact .inl d
    .exact .inr d
def Qh{scope:jB}{env:Env}(h:∀x,(x,h7)∈scope.names->∃c,env.cells.lookup x=P3 c):
  ∃d,closureFor scope env=pure d/\(∀x c,d.lookup x=P3 c->env.cells.lookup x=P3 c)/\(∀x,(x,h7)∈scope.names->∃c,d.lookup x=P3 c):=by
 let#[d,e,a,b]:=Qi _ [] h (λx c f=>by simp at f);refine#[d,?_,a,λx f=>b x^.inl f];simp[closureFor]
 simp_all
variable {prog:Program}{w:World}{A:Around}{R:Result->Shared->Prop}{s:Shared}
def NT{t a u:gZ}{y:s_ gZ}{p:jB}{pos:Pos}{it z:Ev}{b:Env}(I:Nat->Go->Prop)
  (B:∀n s,I n s->wpAny (model prog w) A (pyNext it) (λr d=>match r with
   |none=>R (.ok .next) d
   | some v=>wpAny (model prog w) A (letOwnedTupleGo a it v) (λ_ e=>wpAny (model prog w) A (assign a b v) (λ_ i=>
     wpAny (model prog w) A (forIn y q_ λc r=>if r=q_ then do let ok ←isTrue c b^eval c b;pure^ju ok else pure^ju r) (λok f=>
      if ok=q_ then wpAny (model prog w) A (eval t b) (λx j=>
       wpAny (model prog w) A (call (.builtin "list.append") [z,x]) (λ_ k=>∃m,m<n/\I m k) (λ_ _=>False) j) (λ_ _=>False) f
      else ∃m,m<n/\I m f) (λ_ _=>False) i) (λ_ _=>False) e) (λ_ _=>False) d) (λ_ _=>False) s)
  (n:Nat) (h:I n s):
  codeAny (model prog w) A (.compLoop (.ListComp t [#[a,u,y,0]] p pos) 0 it z b) R s:=by
 refine codeAny_loop rfl I (λn s F=>?_) n h;refine wpAny_noted ?_;refine Ch^mB^Ch^gq (B n s F) (λr d l=>?_) λ_ _ g=>g.elim;cases r with
 |none=>exact Rs l
 | some v=>
  refine Ch^gq l (λ_ e q=>?_) λ_ _ g=>g.elim;refine Ch^gq q (λ_ i C=>Ch^gq C (λok f o=>?_) λ_ _ g=>g.elim) λ_ _ g=>g.elim;cases ok with
  |false=>exact Rs #[rfl,o]
  |true=>
   exact Ch^Ch^gq o (λx j D=>Ch^gq D (λ_ k E=>Rs^Rs #[rfl,E]) λ_ _ g=>g.elim) λ_ _ g=>g.elim
end
def BY(X:Cx)(a:jB)(b:s_ Str)(c:s_ (Str×Db))(C:Db)(s:Go)(H:Hp)(ex:s_ Db):Cx where
 prog:=X.prog
 w:=X.w
 K:=X.K
 mg:=X.mg
 base:=X.base
 A:=X.A
 N:=b
 s₀:=s
 H₀:=H
 env:=compEnvC a c C X.env
 outer:=X.stack
 stack:=X.stack
 ex:=ex
 fn:=λ_=>r_
 calm:=q_
 pn:=[]
 xe:=λ_ _=>False
def DU(a:s_^t_ Nat)(Z:St):St:=a.map λo=>match o with
 |some i=>(Z[i]?).getD p_
 |none=>p_
def Xq(o:t_ jL):Bool:=match o with
 |some .cell=>q_
 |some .free=>q_
 |_=>r_
def Rk{o:t_ jL}(h:Xq o=q_):o=P3 .cell\/o=P3 .free:=by
 unfold Xq at h
 split at h
 .grind
 .grind
 .cases h
def isFree(o:t_ jL):Bool:=match o with
 |some .free=>q_
 |_=>r_
def TU{o:t_ jL}(h:isFree o=q_):o=P3 .free:=by
 unfold isFree at h
 split at h
 .rfl
 .cases h
def Vl(o:t_ jL):Bool:=match o with
 |some .local=>q_
 |_=>r_
def Vk{o:t_ jL}(h:Vl o=q_):o=P3 .local:=by
 unfold Vl at h
 split at h
 .rfl
 .cases h
def Vn(k:ScopeKind):Bool:=match k with
 |.function=>q_
 |_=>r_
def Vm{k:ScopeKind}(h:Vn k=q_):k=.function:=by
 unfold Vn at h
 split at h
 .rfl
 .cases h
def eJ(b a:jB)(p:Str×jL):Bool:=match p.2 with
 |.cell=>r_
 |.free=>Xq^a.names.lookup p.1
 |.local=>Vl^b.names.lookup p.1
 |_=>q_
def ej(x:t_ Str)(y:Str):Bool:=match x with
 |some z=>z==y
 |none=>r_
def aC{x:t_ Str}{y:Str}(h:ej x y=q_):x=P3 y:=by
 unfold ej at h
 split at h
 .grind
 .cases h
def Ko(b a:jB)(N:s_ Str):s_ Str->s_^t_ Nat->Bool
 |[],[]=>q_
 |x::c,P3 j::d=>isFree^b.names.lookup x&&ej (N[j]?) x&&Xq^a.names.lookup x&&Ko b a N c d
 |_::c,p_::d=>Ko b a N c d
 |_,_=>r_
def Oz(b a:jB)(N c:s_ Str)(d:s_^t_ Nat):Bool:=Vn b.kind&&b.names.all^eJ b a&&Ko b a N c d
theorem G6{d b:jB}{N:s_ Str}:∀{c:s_ Str}{a:s_^t_ Nat},Ko d b N c a=q_->a.length=c.length
 |[],[],_=>rfl
 |x::e,P3 j::a,h=>by
  unfold Ko at h;rw[gP]at h;rw[gB,gB,G6 h.2]
 |x::e,p_::a,h=>by
  unfold Ko at h;rw[gB,gB,G6 h]
 |[],P3 _::_,h=>by cases h
 |[],p_::_,h=>by cases h
 |_::_,[],h=>by cases h
theorem NV{e a:jB}{N:s_ Str}:∀{f:s_ Str}{d:s_^t_ Nat},Ko e a N f d=q_->∀{k:Nat}{x:Str}{j:Nat},f[k]?=P3 x->d[k]?=P3^P3 j->
  e.names.lookup x=P3 .free/\N[j]?=P3 x/\(a.names.lookup x=P3 .cell\/a.names.lookup x=P3 .free)
 |[],_,_,k,x,j,b,_=>by simp at b
 |_::_,[],h,_,_,_,_,_=>by unfold Ko at h;cases h
 | y::g,P3 i::d,h,k,x,j,b,c=>by
  unfold Ko at h;rw[gP,gP,gP]at h;cases k with
  |zero=>
   simp at b c;subst b c;exact#[TU h.1.1.1,aC h.1.1.2,Rk h.1.2]
  |succ k=>exact NV h.2 (k:=k) (by simpa using b)^by simpa using c
 |y::g,p_::d,h,k,x,j,b,c=>by
  unfold Ko at h;cases k with
  |zero=>simp at c
  |succ k=>exact NV h (k:=k) (by simpa using b)^by simpa using c
def TK{a:s_^t_ Nat}{Z:St}{k:Nat}{v:V}(h:(DU a Z)[k]?=P3^P3 v):∃j,a[k]?=P3^P3 j/\Z[j]?=P3^P3 v:=by
 unfold DU at h;rw[gM]at h;cases e:a[k]? with
 |none=>simp_all
 | some o=>
  rw[e]at h;cases o with
  |none=>cases h
  |some j=>
   cases q:Z[j]? with
   |none=>simp_all
   |some w=>simp_all
theorem DA{a:Env}:∀{b:s_ (Str×jL)}{x:Str},b.lookup x=P3 .free->
  (b.map fun(n,k)=>if(k==h7&&a.scope.kind==.function&&a.kindOf n==P3 .cell)then(n,kz)else(n,k)).lookup x=P3 .cell \/
  (b.map fun(n,k)=>if(k==h7&&a.scope.kind==.function&&a.kindOf n==P3 .cell)then(n,kz)else(n,k)).lookup x=P3 .free
 |[],_,h=>by simp at h
 | (n,k)::r,x,h=>by
  have d:=@DA a r x;show jO x ((if(k==h7&&a.scope.kind==.function&&a.kindOf n==P3 .cell)=q_ then(n,kz)else(n,k))::_)=_\/jO x ((if(k==h7&&a.scope.kind==.function&&a.kindOf n==P3 .cell)=q_ then(n,kz)else(n,k))::_)=_
  by_cases e:(k==h7&&a.scope.kind==.function&&a.kindOf n==P3 .cell)=q_
  .rw[if_pos e]
   cases c:x==n with
   |true=>exact .inl^by simp only[jM,c]
   |false=>
    simp only[jM,c]at h ⊢;exact d h
  .rw[if_neg e]
   cases c:x==n with
   |true=>
    simp_all
   |false=>
    simp only[jM,c]at h ⊢;exact d h
def P5{env:Env}{a:jB}(c:∀y∈a.names,y.2≠.cell){x:Str}(h:(relabel a env).names.lookup x=P3 .cell\/(relabel a env).names.lookup x=P3 .free):(x,h7)∈a.names:=by
 have e:(x,kz)∈(relabel a _).names\/(x,h7)∈(relabel a _).names:=h.elim (λz=>.inl^PySem.mem_of_lookup z) λz=>.inr^PySem.mem_of_lookup z
 have d:∀k,(k=.cell\/k=.free)->(x,k)∈(relabel a env).names->(x,h7)∈a.names:=by
  intro k f b;unfold relabel at b
  grind
 exact e.elim (d _ (.inl rfl))^d _ (.inr rfl)
section
variable {X:Cx}{zH:s_ (Addr×Obj)}{Z:St}{H:Hp}{s:Shared}
structure CompOk (X:Cx) (sc:jB) (N':List Str) (js:List^Option Nat):Prop where
 kind:sc.kind=.function
 cell:∀y∈sc.names,y.2≠.cell
 free:∀x,(x,h7)∈sc.names->X.env.scope.names.lookup x=P3 .cell\/X.env.scope.names.lookup x=P3 .free
 names:∀y∈sc.names,y.2=.local->sc.names.lookup y.1=P3 .local
 cap:Ko sc X.env.scope X.N N' js=q_
def CompOk.of{c:jB}{d:s_ Str}{f:s_^t_ Nat}(h:Oz c X.env.scope X.N d f=q_):CompOk X c d f:=by
 unfold Oz at h;rw[gP,gP,i7]at h;let#[#[g,a],i]:=h;refine#[Vm g,λy b e=>?_,λx j=>?_,λy b e=>?_,i]
 .have q:=a y b
  unfold eJ at q
  simp_all
 .have q:=a _ j
  exact Rk q
 .have q:=a y b
  unfold eJ at q;rw[e]at q;exact Vk q
def Vp{D:jB}{E:s_ Str}{K:s_^t_ Nat}{B:s_ (Str×Db)}{F:s_ Db}{f:gI}{V:Nat}(I:Inv X zH Z H s)(W:X.calm=q_)(O:CompOk X D E K)
  (d:∀x c,B.lookup x=P3 c->X.env.cells.lookup x=P3 c) (k:∀x,(x,h7)∈D.names->∃c,B.lookup x=P3 c)
  (G:∀b∈F,FU X zH H b) (Y:∀b∈F,∃o,s.heap.get? b=P3 o)
  (L:f.Ns (s.heap.objs.size+1) λ_=>p_) (J:∀b o,s.heap.get? b=P3 o->f.get? b=P3 o) (hD:∃n,f.get? s.heap.objs.size=P3 {cls:=.type "list",data:=.seq #[] n}):
  Inv (BY X D E B (s.heap.objs.size+1) s H F) [] (DU K Z) (A5 H s.heap.objs.size^.lst []) {s with heap:=f,toks:=V}:=by
 have fr:∀a,s.heap.objs.size<=a->H a=p_:=λa ha=>I.hok.fresh ha
 have h:∀x c,B.lookup x=P3 c->c<s.heap.objs.size:=λx c e=>by
  let#[v,q]:=I.cell x c^d x c e;exact q.lt
 have ok:(BY X D E B (s.heap.objs.size+1) s H F).Ok:=by
  refine#[I.ok.mod,O.kind,I.ok.glob,I.ok.blt,g_ _,λx y c C M=>I.ok.inj x y c (d x c C)^d y c M,λx N=>?_,λx c N=>?_,λ_=>I.ok.hd W,I.ok.frames,.inl rfl,λb t=>#[?_,λx c e=>?_],I.bs,gG I.ok.bsz I.sz,λb o e t=>?_,λb t P=>?_,I.stack,I.stkFree]
  .exact k x^P5 (env:=X.env) O.cell N
  .exact absurd (show r_=q_ from N) gR
  .let#[o,e]:=Y b t
   exact gO^iy^Uf e
  .exact(G b t).2.2.2.2.1 x c^d x c e
  .rcases(G b t).2.2.2.1 with z|z
   .exact I.ok.noex b o e z
   .have C:b<X.base.objs.size:=Uf e
    exact absurd (gW C^gG I.ok.bsz z)^gv _
  .rcases T0.mp^I.stkSub b P with z|z
   .exact(G b t).2.1 z
   .exact(G b t).2.2.1 z
 exists ok,rfl,I.bare,?_,#[_,L,λi x v C M h3=>?_],λx c e=>?_,?_,λx c e=>?_,λp hp=>absurd (show p∈([]:s_ (Db×Obj))from hp)^by simp,?_
 .exact Un.laid J (Re _)^fr _^Re _
 .let#[j,e1,e2]:=TK M
  let#[T,c2,A]:=NV O.cap C e1;let#[m,_,hl]:=I.loc;let#[u,r,l]:=hl j x v c2 e2^.inr A;refine#[u,r,.inr #[DA T,?_]]
  rcases l with⟨l1,_⟩|⟨_,c,l2,l3⟩
  .have Q:X.env.scope.names.lookup x=P3 .local:=l1
   rcases A with A|A <;>(rw[Q]at A;cases A)
  .let#[R,U]:=k x^PySem.mem_of_lookup T
   have:R=c:=gH^(d x R U).symm.trans l2
   subst this;let#[S,w,g]:=id l3;exact#[R,U,S,J _ _ w,g]
 .let#[v,S,w,g]:=I.cell x c^d x c e
  exact#[v,S,J _ _ w,g]
 .show A5 H s.heap.objs.size (.lst []) (s.heap.objs.size+1)=p_
  rw[AS^Nat.succ_ne_self _];exact fr _^g_ _
 .show A5 H s.heap.objs.size (.lst []) c=p_
  rw[AS^gO^h x c e];exact I.freeC x c^d x c e
 .refine I.hok.laid J (Re _) ?_
  let#[n,e]:=hD;exact#[f8 _,[],n,.nil,e]
 .unfold DU
  show(K.map _).length=E.length;rw[No];exact G6 O.cap
def Un.but{fs ex:s_ Db}{H d:Hp}{h a f:gI}{C:Db}(u:Un fs ex H d h a)(k:h.get? C=p_)(g:∀b,b≠C->f.get? b=a.get? b):Un fs ex H d h f:=by
 have i:∀{b:Db}{o:Obj},h.get? b=P3 o->b≠C:=λ{b o} e z=>by grind
 refine#[λb o e n a c=>(g b^i e).trans^u.keep b o e n a c,λb o e n a c=>?_,u.free,λb o e a=>?_,u.tups,u.frzs,u.tbls]
 .let#[j,q]:=u.slot b o e n a c
  exact#[j,(g b^i e).trans q]
 .let#[l,q]:=u.there b o e a
  simp_all
def QY{k:jB}{l:s_ Str}{m:s_ (Str×Db)}{C:Db}{g:s_ Db}{c:s_ (Db×Obj)}{n:St}{d:Hp}{f:Go}{h:gI}(I:Inv X zH Z H s)(p:∀b∈g,FU X zH H b)(r:s.heap.objs.size<=C)
  (J:Inv (BY X k l m C s H g) c n d f) (i:∀b,b≠C->h.get? b=f.heap.get? b):Inv X zH Z d {f with heap:=h}:=by
 have t:d C=p_:=J.free
 refine I.call' J.os (Un.but J.base (by
  cases e:s.heap.get? C with
  |none=>rfl
  |some o=>exact absurd (Uf e)^ke.mpr r) i) (λa o e=>(J.hok a o e).stay (λb u j q=>(i b (λz=>by
   grind)).trans q) (λ_ q=>q) λ_ _ q=>q) J.bare λb j=>?_
 .let#[A,v,B,w,x,y]:=p b j
  exact#[w,v,x,y]
end
def c5(X:Cx)(a:s_ gZ)(t:TT):Prop:=
 ∀(b:s_ (Db×Obj)) (s:Go) (Z:St) (H:Hp) (Q:Bool->Hp->Prop),Inv X b Z H s->t Z H Q->
  wpAny (model X.prog X.w) X.A (forIn a q_ λc r=>if r=q_ then do let ok ←isTrue c X.env^eval c X.env;pure^ju ok else pure^ju r) (TP X b Z Q) X.xe s
def dh:TT:=λ_ H Q=>Q q_ H
def XN{X:Cx}:c5 X [] dh:=λa s Z H Q I h=>wpAny_tests_nil #[H,I,h]
def XM{X:Cx}{c:gZ}{t:TT}(h:PT X c t):c5 X [c] t:=λa s Z H Q I q=>wpAny_tests_one^h _ s Z H Q I q
def bP(X:Cx)(e:jB)(f:s_ Str)(z:s_^t_ Nat)(A h:gZ)(j:s_ gZ)(B:TI):TE:=λZ H Q=>B Z H λJ q=>∀l,q l=p_->X.K.lookup l=p_->∀k C s n o,∃(g:TG) (r:TT) (t:TE) (W:Nat->Nat->St->Hp->Prop),
 PG (BY X e f k C s n o) A g/\c5 (BY X e f k C s n o) j r/\PE (BY X e f k C s n o) h t/\(∃m,W 0 m (DU z Z)^A5 q l^.lst [])/\∀i m u a,W i m u a->
 (J.stop i a/\Q (.ref l) a)\/(J.go i a/\∀x H2,J.yld i a x H2->g x u H2 λd D=>r d D λb v=>if b=q_ then t d v λy w=>∃p,w l=P3^.lst p/\p.length<sizeLine/\∃c,c<m/\W (i+1) c d^A5 w l^.lst (p++[y]) else ∃c,c<m/\W (i+1) c d v)
section
variable {X:Cx}{tg elt iter:Expr}{ifs:s_ Expr}{sc:Scope}{pos:Pos}{N':s_ Str}{js:s_^t_ Nat}{wi:TI}{g:TG}{tt:TT}{te:TE}
def Th{zH:s_ (Db×Obj)}{Z:St}{H:Hp}{s:Go}{h:s_ (Str×Db)}{C l it:Db}{a:s_ Db}{U:Nat->gI->Prop}{J:It}{s3:Go}{Q:VK}{R:Result->Go->Prop}{W:Nat->Nat->St->Hp->Prop}{m0:Nat}{zI:St}{V:Hp}
  (I:Inv X zH Z H s) (hf:∀b∈a,FU X zH H b) (a3:∀b∈a,b<s.heap.objs.size) (hC:s.heap.objs.size<=C)
  (T:Turn X.prog X.w X.K tg J a it U)
  (hg:PG (BY X sc N' h C s H a) tg g) (ht:c5 (BY X sc N' h C s H a) ifs tt) (he:PE (BY X sc N' h C s H a) elt te)
  (hW:∀i m k c,W i m k c->
   (J.stop i c/\Q (.ref l) c)\/(J.go i c/\∀x H2,J.yld i c x H2->g x k H2 λY H3=>tt Y H3 λb z=>if b=q_ then te Y z λy H5=>∃E,H5 l=P3^.lst E/\E.length<sizeLine/\∃f,f<m/\W (i+1) f Y^A5 H5 l^.lst (E++[y]) else ∃f,f<m/\W (i+1) f Y z))
  (hR:∀k c G,Inv (BY X sc N' h C s H a) [] k c G->Q (.ref l) c->R (.ok .next) G)
  (I3:Inv (BY X sc N' h C s H a) [] zI V s3) (t3:U 0 s3.heap) (f3:∀b∈a,V b=p_) (w0:W 0 m0 zI V):
  codeAny (model X.prog X.w) X.A (.compLoop (.ListComp elt [#[tg,iter,ifs,0]] sc pos) 0 (.ref it) (.ref l)^compEnvC sc h C X.env) R s3:=by
 have j:∀{c:Hp},(∀b∈a,c b=p_)->∀b∈a,FU (BY X sc N' h C s H a) [] c b:=λhn b t=>by
  have q:=I3.ok.exf b t;refine#[hn b t,q.1,I3.ok.exfs b t,.inl t,q.2,λp hp=>absurd (show p∈([]:s_ (Db×Obj))from hp)^by simp]
 refine NT (λn G=>∃i k c,Inv (BY X sc N' h C s H a) [] k c G/\U i G.heap/\(∀b∈a,c b=p_)/\W i n k c) ?_ m0 #[0,zI,V,I3,t3,f3,w0];rintro n s4 ⟨i,L,z,I4,M,N,w4⟩
 rcases hW i n L z w4 with⟨O,qn⟩|⟨go,step⟩
 .refine thn (T.done (BY X sc N' h C s H a) rfl rfl rfl rfl i [] s4 L z (λ_ _=>False) I4 (j N) M O) λr s5 #[hr,I5]=>?_
  subst hr;exact hR L z s5 I5 qn
 .refine thn (T.item (BY X sc N' h C s H a) rfl rfl rfl rfl i [] s4 L z (λ_ _=>False) I4 (j N) M go) λr s5 #[u,hr,h5]=>?_
  subst hr;refine thn h5 λ_ s6 #[x,H6,I6,r6,y6,B,a0]=>?_;have a1:=I6.pinned (j a0)^T.obj _ _ B;refine thn (hg _ s6 L H6 x u _ a1 r6^step x H6 y6) λ_ s7 #[zL,H7,I7,q7]=>?_
  have again:∀{zJ:St}{D:Hp}{F:Go}{f:Nat},Inv (BY X sc N' h C s H a) ([]++Jv a s6.heap) zJ D F->f<n->W (i+1) f zJ D->∃m,m<n/\∃i k c,Inv (BY X sc N' h C s H a) [] k c F/\U i F.heap/\(∀b∈a,c b=p_)/\W i m k c:=λ{zJ D F f} P S w9=>by
   refine#[f,S,i+1,zJ,D,P.unpinned,T.keep _ _ _ B λb t o e=>(P.pin (b,o)^gA _^gA _^ER t e).1,λb t=>?_,w9];let#[o,e,d]:=T.obj _ _ B b t;exact(P.pin (b,o)^gA _^gA _^ER t e).2.1
  refine thn (ht _ s7 zL H7 _ I7 q7) λok s8 #[H8,I8,q8]=>?_;cases ok with
  |false=>
   have a2:∃f,f<n/\W (i+1) f zL H8:=q8;let#[f,S,w8]:=a2;show ∃m,m<n/\_;exact again I8 S w8
  |true=>
   refine thn (he _ s8 zL H8 _ I8 q8) λy F #[yv,D,P,ry,q9]=>?_;let#[E,hl,hz,f,S,w9]:=q9;refine thn (BK (X:=BY X sc N' h C s H a) _ F zL D (.ref l) [yv] (.ref l) [y] (λv c=>v=.non/\c=A5 D l^.lst (E++[yv])) P rfl (.cons ry .nil) #[l,E,yv,rfl,rfl,hl,hz,rfl,rfl]) λ_ sa #[v,Ha,Ia,_,_,eH]=>?_;subst eH;exact again Ia S w9
def XY(Y:X.calm=q_)(N':s_ Str)(js:s_^t_ Nat)(hi:PI X tg iter wi)
  (hB:Oz sc X.env.scope X.N N' js=q_)
  (hs:∀x,foldedSetIterable iter X.env x=pure x:=by intro _;rfl):
  PE X (.ListComp elt [#[tg,iter,ifs,0]] sc pos) (bP X sc N' js tg elt ifs wi):=by
 intro S s Z H Q I h;have O:CompOk X sc N' js:=CompOk.of hB;let#[z,l,M,B]:=Qh (scope:=sc) (env:=X.env) λx hx=>I.ok.has x^O.free x hx;rw[eval_ListComp];refine wpAny_comprehension_free (use:=p_) rfl hs l O.kind O.names (thn (hi S s Z H _ I h) λv s1 h1=>thn h1 λa0 c h2=>?_);let#[U,G,tn,J,H2,e,C,T,p,L,hq]:=h2;subst e
 have r:X.K.lookup c.heap.objs.size=p_:=by
  cases q:X.K.lookup c.heap.objs.size with
  |none=>rfl
  |some o=>exact absurd (Uf^C.kIn _ _ q)^gv _
 let#[g,tt,te,W,hg,ht,he,#[m0,w0],hW]:=hq c.heap.objs.size (C.hok.fresh^Re _) r z (c.heap.objs.size+1) c H2 G;refine hZ^wpAny_newFunctionEnv O.cell (by intro y hy;simp at hy) (λf d a=>?_) O.kind
 dsimp only at d a ⊢
 generalize t:c.heap.push {cls:=.type "list",dict:=p_,data:=.seq ([]:s_ Ev).toArray}=Hh at d a ⊢;have i:Hh.objs.size=c.heap.objs.size+1:=by rw[←t,iq]
 have D:∀b∈G,b<c.heap.objs.size:=λb j=>by
  let#[o,e,_]:=T.obj _ _ p b j;exact Uf e
 have E:∀b o,c.heap.get? b=P3 o->f.get? b=P3 o:=λb o e=>a.extBut b o (by rw[i];exact gO^iy^Uf e)^FM _ (t▸FM _ e);have hD:∃n,f.get? c.heap.objs.size=P3 {cls:=.type "list",data:=.seq #[] n}:=#[_,a.extBut _ _ (by rw[i];exact gO^Nat.lt_succ_self _)^FM _ (t▸UF _ rfl)]
 have I3:∀u,Inv (BY X sc N' z (c.heap.objs.size+1) c H2 G) [] (DU js Z) (A5 H2 c.heap.objs.size^.lst []) {c with heap:=f,toks:=u}:=λu=>
  Vp C Y O M B L (λb j=>let #[o,e,_]:=T.obj _ _ p b j;#[o,e]) (by rw[←i];exact d) E hD
 have F:tn 0 f:=T.keep _ _ _ p λb j o e=>E b o e
 have P:∀b∈G,A5 H2 c.heap.objs.size (.lst []) b=p_:=λb j=>by
  rw[AS^gO^D b j];exact(L b j).1
 have k:∀u,codeAny (model X.prog X.w) X.A (.compLoop (.ListComp elt [#[tg,iter,ifs,0]] sc pos) 0 (.ref U) (.ref c.heap.objs.size)^compEnvC sc z (c.heap.objs.size+1) X.env)
   (compPost (model X.prog X.w) X.A X.xe p_ (EP X S Z Q) (.ref c.heap.objs.size) (c.heap.objs.size+1)) {c with heap:=f,toks:=u}:=λu=>by
  refine Th (W:=W) (m0:=m0) (Q:=Q) C L D (g_ _) T hg ht he hW (λzZ H' s' V q'=>?_) (I3 u) F P w0;let#[m,hn,_]:=V.loc;exact#[m,hn,λh' R=>#[.ref _,H',QY C L (g_ _) V λb j=>R.2 b j,rfl,q']]
 rw[show(newEnv sc Hh.objs.size X.env.globals z X.env.qual p_ .none (P3 X.env) builtinsNs).locals=c.heap.objs.size+1 from i];show codeAny (model X.prog X.w) X.A (.compStart (.ListComp elt [#[tg,iter,ifs,0]] sc pos) 0 (.ref U) (.ref c.heap.objs.size)^compEnvC sc z (c.heap.objs.size+1) X.env) _ _;exact codeAny_compStart_list (k _)^T.self _ 0 _ _ _ F^k _
end
structure Fly (B:gI) (l:List Env) (a C:Db) (dx:Option Db) (h:gI):Prop where
 stays:B.StaysIn h
 new:B.get? a=p_
 frames:h.FunFrames B l
 obj:∃vs sl tb,h.get? a=P3 #[.ref C,dx,.fields vs,sl]/\vs[2]?=P3 .none/\vs[1]?=P3 tb/\(tb=.none\/∃T oT ts,tb=.ref T/\B.get? T=p_/\T≠a/\h.get? T=P3 oT/\oT.data=.fields ts/\3<ts.size)
section
variable {M:Model}{A:Around}{E:Value->Shared->Prop}{s:Shared}{B:Heap}{env:Env}{outer l:s_ Env}{L a C:Addr}{dx:t_ Addr}{Q:Unit->Shared->Prop}
def size_of{b:Array Ev}{i:Nat}{x:Ev}(h:b[i]?=P3 x):i<b.size:=(kL.mp h).1
def L_{d:Array Ev}{r:Array^t_ Ev}{g O:Ev}{P:Bool}(t:A.frames=P3 (env::outer))(R:env.frame=P3 L)(m:s.heap.FunFrames B (env::outer))(S:B.StaysIn s.heap)(y:B.get? a=p_)
  (u:s.heap.get? a=P3 #[.ref C,dx,.fields d,r]) (T:d[1]?=P3 O) (D:d[2]?=P3 .none)
  (h:∀v,Fly B (env::outer) a C dx v->s.heap.UpToSlots v->Q () {s with heap:=v}):
  wpAny M A (do let f ←frameOf env;let n ←entryPlaceOf L P;let b ←nF g f .none (rawInt L) .none n;setField (.ref a) 1 b) Q E s:=by
 have F:=size_of T;have Y:=size_of D
 have U:a∉(env::outer).filterMap (·.frame):=λq=>by
  let#[_,o,G,c]:=m.mem q;rw[u]at G;cases G;exact c d rfl
 refine Ch^wpAny_frameOf_fun t m R λk p=>?_;refine Ch^wpAny_entryPlaceOf λn w=>?_;unfold nF newFields;refine Ch^hZ ?_^w.sizeOk5 _ _ _ _ _;have H:k.get? a=P3 #[.ref C,dx,.fields d,r]:=(p.2.1 a U).trans u;have I:B.StaysIn k:=λb o q=>(p.2.1 b λz=>by rw[(m.mem z).1]at q;cases q).trans^S b o q;generalize i:({cls:=.type "traceback",dict:=p_,data:=.fields ([g,.ref L,.none,rawInt L,.none]++(if n.isEmpty then ZB 6 gh else n)).toArray}:Obj)=ob;have J:(k.push ob).get? a=P3 #[.ref C,dx,.fields d,r]:=FM _ H;refine jN J rfl F ?_;have K:k.objs.size≠a:=jC^Uf H;have V:=g7 (jJ (·.setIfInBounds 1^gE k.objs.size)) J rfl
 have W:((k.push ob).update a (jJ (·.setIfInBounds 1^gE k.objs.size))).get? k.objs.size=P3 ob:=by
  rw[gF _ _^g0 K];exact UF k^by subst i;rfl
 have x:∀b o,b≠a->k.get? b=P3 o->((k.push ob).update a (jJ (·.setIfInBounds 1^gE k.objs.size))).get? b=P3 o:=λb o X q=>by
  rw[gF _ _^g0 X];exact FM _ q
 have N:∀b o,s.heap.get? b=P3 o->(∀d,o.data≠.fields d)->b≠a:=λb o q c z=>by
  rw[z,u]at q;cases q;exact c d rfl
 refine h _ #[λb o q=>x b o (λz=>by rw[z,y]at q;cases q)^I b o q,y,m.of_keeps λb o q c=>?_,_,_,_,V,?_,?_,.inr #[k.objs.size,ob,_,rfl,I.fresh,K,W,by subst i;rfl,?_]] λb o q c=>?_
 .let#[j,e]:=p.2.2 b o q
  exact#[_,x b _ (N b o q c) e,rfl]
 .rw[Array.getElem?_setIfInBounds_ne^by cbv];exact D
 .simp[F]
 .simp only[f_,XV,gB,hX];lk
 .let#[j,e]:=p.2.2 b o q
  exact#[j,x b _ (N b o q c) e]
def Fly.mark{T:Db}{g:Obj}{h d:Array Ev}{x:Ev}{f:Array^t_ Ev}(F:Fly B l a C dx s.heap)(m:s.heap.get? a=P3 #[.ref C,dx,.fields d,f])(n:d[1]?=P3^.ref T)(p:d[2]?=P3 .none)(r:B.get? T=p_)(i:T≠a)(t:s.heap.get? T=P3 g)
  (hd:g.data=.fields h) (v:3<h.size):Fly B l a C dx (s.heap.update T (jJ (·.setIfInBounds 3 x)))/\s.heap.UpToSlots (s.heap.update T (jJ (·.setIfInBounds 3 x)))/\(s.heap.update T (jJ (·.setIfInBounds 3 x))).get? a=P3 #[.ref C,dx,.fields d,f]:=by
 have e:∀b,b≠T->(s.heap.update T (jJ (·.setIfInBounds 3 x))).get? b=s.heap.get? b:=λb u=>gF _ _^g0 u
 have j:∀b o,s.heap.get? b=P3 o->(∀d,o.data≠.fields d)->b≠T:=λb o q c z=>by
  simp_all
 have k:=(e a^g0 i).trans m;refine#[#[λb o q=>(e b λz=>by grind).trans^F.stays b o q,F.new,F.frames.of_keeps λb o q c=>#[o,(e b^j b o q c).trans q,rfl],d,f,_,k,p,n,.inr #[T,_,_,rfl,r,i,g7 _ t^j7^io hd _,io hd _,by simp_all]],λb o q c=>#[o.slots,(e b^j b o q c).trans q],k]
def GH(F:Fly B l a C dx s.heap)(h:∀c,Fly B l a C dx c->s.heap.UpToSlots c->Q () {s with heap:=c}):wpAny M A (setFlight (.ref a) p_) Q E s:=by
 let#[q,r,t,d,j,e,k]:=F.obj;refine Ch (gj d rfl e ?_)
 rcases k with rfl|⟨T,u,v,rfl,m,n,f,g,i⟩
 .exact Rs^h _ F^nG _
 .let#[o,p,_]:=F.mark d e j m n f g i
  exact jN f g i^h _ o p
def Oo(c:A.frames=P3 (env::outer))(g:env.frame=P3 L)(F:Fly B (env::outer) a C dx s.heap)
  (h:∀d,Fly B (env::outer) a C dx d->s.heap.UpToSlots d->Q () {s with heap:=d}):wpAny M A (noteFrame (.ref a) env) Q E s:=by
 let#[D,G,H,i,j,f,p]:=F.obj;unfold noteFrame;simp only[g];refine Ch (gj i rfl f ?_)
 rcases p with rfl|⟨T,I,q,rfl,r,t,k,m,n⟩
 .rw[if_neg^by cbv]
  exact L_ c g F.frames F.stays F.new i f j h
 .rw[if_pos (show(gE T !=gh)=q_ by simp)]
  obtain⟨x,u⟩:∃x,q[3]?=P3 x:=#[_,ie n];refine Ch^gj k m u ?_
  by_cases e:(x==rawInt L)=q_
  .rw[if_pos e]
   exact Rs^h _ F^nG _
  .rw[if_neg e]
   let#[o,v,w]:=F.mark (x:=gh) i f j r t k m n;refine Ch^jN k m n ?_;exact L_ c g o.frames o.stays o.new w f j λd y z=>h d y^v.trans z
def TY(d:A.frames=P3 (env::outer))(e:env.frame=P3 L)(F:Fly B (env::outer) a C dx s.heap)
  (h:∀c,Fly B (env::outer) a C dx c->s.heap.UpToSlots c->Q () {s with heap:=c}):wpAny M A (leaving env^.ref a) Q E s:=Ch^Oo d e F λc f g=>GH f λi j k=>h i j^g.trans k
def Fly.tail(F:Fly B (env::outer) a C dx s.heap):Fly B outer a C dx s.heap:=#[F.stays,F.new,F.frames.2.2,F.obj]
end
section
variable {A:Around}{E:Value->Shared->Prop}{R:Result->Shared->Prop}{h:Heap}{g:Array GenState}{d:Drawn}{t:Nat}{os:OsState}
variable {nm q:Str}{C N f:Addr}{bs bm:s_ Value}{hdct:Bool}{sn:s_ Str}{sub:s_ Value}{ab:Bool}{col:t_ Bool}{dd:t_ Addr}{k0 k1 k2 k3 k5:t_ Value}{newId:String}
def B3(C t:Db):Obj:={cls:=.ref C,data:=.fields #[ .ref t,.none,.none,.none,.bool r_,.none]}
def c_(x:Db)(R:Result->Go->Prop)(r:Result)(a:Go):Prop:=match r with
 |.ok (.ret v)=>v=.none/\R (.ok^.ret^.ref x) a
 |.ok _=>False
 |.error e=>R (.error e) a
def QB{s:Go}{env:Env}{x:Sem Ev}{Q:Flow->Go->Prop}{M:Model}(hbase:bm.contains^.type "BaseException"=q_)(hh:A.handled=p_)
  (hx:wpAny M A x (λv s₁=>∃e dx vs sl,v=.ref e/\s₁.heap.get? C=P3^excClassObj nm q C N bs bm hdct sn sub ab col dd k0 k1 k2 k3 k5 newId /\
   s₁.heap.get? e=P3 #[.ref C,dx,.fields vs,sl]/\vs[1]?=P3 .none/\E (.ref e) s₁) E s):
  wpAny M A (raiseStmt env (P3 x) p_) Q E s:=by
 have hcB:(gE C::bm).contains^.type "BaseException"=q_:=by grind
 unfold raiseStmt;refine Ch^gq hx (λv s₁ h₁=>?_) λ_ _ x=>x;let#[e,dx,vs,sl,rfl,hC,he,h1,hE]:=h₁
 repeat (first|omega|omega|(with_reducible refine iG hC ?_;rw[hcB])|wp_step)
 rw[h1];refine Rs ?_;exact Rs^wpAny_raiseNew_none hh hE
def Ta{M:Model}{e D N':Db}{oe:Obj}{nm' q':Str}{bs' bmD:s_ Ev}{hdct':Bool}{sn':s_ Str}{sub':s_ Ev}{ab':Bool}{col':t_ Bool}{dd':t_ Db}{l0 l1 l2 l3 l5:t_ Ev}{newId':String}{Q:Bool->Go->Prop}
  (hC:h.get? C=P3^excClassObj nm q C N bs bm hdct sn sub ab col dd k0 k1 k2 k3 k5 newId) (hD:h.get? D=P3^excClassObj nm' q' D N' bs' bmD hdct' sn' sub' ab' col' dd' l0 l1 l2 l3 l5 newId') (hbase:bmD.contains^.type "BaseException"=q_)
  (he:h.get? e=P3 oe) (hcls:oe.cls=.ref C) (hq:Q ((gE C::bm).contains^.ref D) #[h,g,d,t,os]):wpAny M A (excMatches (.ref e)^.ref D) Q E #[h,g,d,t,os]:=by
 have hcB:(gE D::bmD).contains^.type "BaseException"=q_:=by grind
 have f:=tc_notTuple;generalize hb:(gE C::bm).contains^.ref D=b at hq;unfold excMatches
 repeat (first|(with_reducible refine h8 he ?_;rw[hcls])|omega|(with_reducible refine iG hD ?_;rw[hcB])|wp_step)
 refine iG hC ?_;rw[hb];cases b <;>(wp_walk;exact hq)
end
def Cw:s_ Ev:=[.type "ValueError",.type "Exception",.type "BaseException",.type "object"]
structure XC (K:Frag) (nm:Str) (C U:Db):Prop where
 obj:∃q N bs sn sub ab col dd k0 k1 k2 k3 k5,K.lookup C=P3 (excClassObj nm q C N bs (.ref U::Cw) q_ sn sub ab col dd k0 k1 k2 k3 k5 "ValueError.__new__")
 up:∃q N bs sn sub ab col dd k0 k1 k2 k3 k5 hd,K.lookup U=P3 (excClassObj "ThinError" q U N bs Cw hd sn sub ab col dd k0 k1 k2 k3 k5 "ValueError.__new__")
 kp:keepIn K^.ref C=q_
 ga:PySem.W.findIn K (.ref C) "__getattribute__"=P3 (P3^.builtin "BaseException.__getattribute__")
 gt:PySem.W.findIn K (.ref C) "__getattr__"=P3 p_
 sa:PySem.W.findIn K (.ref C) "__setattr__"=P3 (P3^.builtin "object.__setattr__")
 at_:nsIn K mainGlobals nm=P3 (P3^.ref C)
 atU:nsIn K mainGlobals "ThinError"=P3 (P3^.ref U)
 ca:PySem.W.findIn K (.ref C) "__class__"=P3 (P3^.builtin "object.__class__")
 nw:PySem.W.findIn K (.ref C) "word"=P3 p_
 nn:PySem.W.findIn K (.ref C) "number"=P3 p_
 nr:PySem.W.findIn K (.ref C) "row"=P3 p_
section
variable {prog:Program}{w:World}{A:Around}{E:Value->Shared->Prop}{s:Shared}{K:Frag}{nm name:Str}{x C U:Addr}{v:Value}{R:Result->Shared->Prop}
def XC.cls(c:XC K nm C U):∃a,PySem.W.clsIn K C=P3 a/\a.mro=.ref C::.ref U::Cw/\a.hasDict=q_/\a.name=nm:=by
 let#[q,N,f,g,b,h,d,i,j,k,l,m,n,e]:=c.obj;refine#[_,by unfold PySem.W.clsIn;rw[e],rfl,rfl,rfl]
def RW{n:Obj}{o:t_ Obj}{d:Tok}(X:K.In s.heap)(c:XC K nm C U)(I:PySem.W.InstAt s.heap x n C o)(p:PySem.W.findIn K (.ref C) name=P3 p_)
  (h:∀b,wpAny (model prog w) A.in1 (Builtin.ObjectAttr.storeInOwnDict (.ref x) (.ref C) (.str name d) name v b)
   (λi g=>match i with|.done f=>R (.ok f) g|.again c'=>c'.quiet=q_/\codeAny (model prog w) A c' R g) (λe g=>R (.error e) g) s):
  codeAny (model prog w) A (.call (.builtin "object.__setattr__") #[[.ref x,.str name d,v],[]]) R s:=by
 have a:=PySem.F.store_ValueError;let#[q,l,m,_]:=c.cls;have j:PySem.W.Looks (model prog w) s.heap (isInstance (.ref x)^.type "object") q_:=I.type.andThen (PySem.W.looks_mroIn X^by unfold PySem.W.mroIn;rw[l,Option.bind_some,m];rfl);refine kE a.slot.plain a.entry^@PySem.W.check_slot (model prog w) _ _ s "object.__setattr__" "object" "__setattr__" (.ref x) [.str name d,v] [] _ a.kind a.split j (a.args (.ref x) (.str name d) v) ?_;have k:PySem.W.Looks (model prog w) s.heap (mroOf^.ref C) q.mro:=(PySem.W.looks_clsIn X l).andThen .now;rw[PySem.W.osa_eq,refuse_eq];refine Ch^Ch^I.type.here^Ch^k.here ?_;rw[m,refuseLoop_ref,refuseLoop_ref,show refuseLoop (.ref x) "__setattr__" Cw=pure ()from a.passes _];exact Rs^Ch^I.type.here^Ch^(PySem.W.looks_findIn X p).here^Ch^Rs^h _
def Ud{f:Array Ev}{g:Array^t_ Ev}{Q:Unit->Go->Prop}(X:K.In s.heap)(c:XC K nm C U)(hx:s.heap.get? x=P3 #[.ref C,p_,.fields f,g])(r:PySem.W.findIn K (.ref C) name=P3 p_)
  (h:∀d t,d.get? x=P3 #[.ref C,P3 s.heap.objs.size,.fields f,g]->d.Ns1 s.heap.objs.size (λy=>if y=name then P3 v else p_)->(∀b o,b≠x->s.heap.get? b=P3 o->d.get? b=P3 o)->Q () {s with heap:=d,toks:=t}):
  wpAny (model prog w) A (setAttr (.ref x) name v) Q E s:=by
 let#[M,u,N,z,_]:=c.cls;have J:PySem.W.InstAt s.heap x #[.ref C,p_,.fields f,g] C p_:=#[hx,rfl,rfl,trivial];refine PySem.W.set_plain X J c.sa^RW (s:={s with toks:=s.toks+1}) X c J r λb=>?_;refine Ch^Rs^Ch^Ch^wpAny_loadPart hx^Ch^PySem.W.Looks.here (s:={s with toks:=s.toks+1}) (PySem.W.looks_clsIn X u) ?_;rw[z];have i:(s.heap.push {cls:=.type "dict",data:=.dict #[]}).get? x=P3 #[.ref C,p_,.fields f,g]:=FM _ hx;have n:x≠s.heap.objs.size:=gO^Uf hx;show wpAny _ _ (alloc _ >>=_) _ _ _;refine Ch^wpAny_alloc^Ch^wpAny_update i^Rs ?_;generalize a:((s.heap.push {cls:=.type "dict",data:=.dict #[]}).update x λo=>{cls:=o.cls,dict:=P3 s.heap.objs.size,data:=o.data,slots:=o.slots})=hh
 have B:hh.get? s.heap.objs.size=P3 {cls:=.type "dict",data:=.dict #[]}:=by
  rw[←a,kP _ _ _ _ n.symm];exact UF _ rfl
 have D:hh.get? x=P3 #[.ref C,P3 s.heap.objs.size,.fields f,g]:=by
  rw[←a];exact g7 _ i rfl
 have F:∀b o,b≠x->s.heap.get? b=P3 o->hh.get? b=P3 o:=λb o j e=>by
  rw[←a,kP _ _ _ _ j];exact FM _ e
 have G:hh.Ns s.heap.objs.size (λ_=>p_):=#[_,#[],_,B,rfl,λe H=>absurd H^by simp,λ_=>rfl];show wpAny _ _ (lJ s.heap.objs.size _ name v) _ _ _;unfold lJ Builtin.ObjectAttr.newKeyGuard;refine Ch^Rs^Ch^wpAny_nsSet1 (Heap.Ns1.of_empty G) λd p q=>?_;let#[O,I,L,k,l,m]:=p.count^PySem.Within.cons name v PySem.Within.nil;refine Ch^wpAny_lookBehind k (by rw[l];exact pastItsLine_dict^gG m^by rw[gB,hX,gz];lk) ?_;refine Rs^h d _ ((q.2 x n).trans D) p λb o j e=>(q.2 b^gO^Uf e).trans^F b o j e
def Ub{k:Array Ev}{l:Array^t_ Ev}{d:Db}{f:Str->t_ Ev}{m:s_ Str}{Q:Unit->Go->Prop}(X:K.In s.heap)(c:XC K nm C U)(hx:s.heap.get? x=P3 #[.ref C,P3 d,.fields k,l])(n:s.heap.Ns1 d f)(q:PySem.Within f m)(r:m.length<=sizeLine)(t:PySem.W.findIn K (.ref C) name=P3 p_)
  (h:∀e u,e.Ns1 d (λy=>if y=name then P3 v else f y)->jf d s.heap e->Q () {s with heap:=e,toks:=u}):
  wpAny (model prog w) A (setAttr (.ref x) name v) Q E s:=by
 let#[I,z,L,B,_]:=c.cls;let#[o,_,_,D,_]:=id n;have J:PySem.W.InstAt s.heap x #[.ref C,P3 d,.fields k,l] C^P3 o:=#[hx,rfl,rfl,D];refine PySem.W.set_plain X J c.sa^RW (s:={s with toks:=s.toks+1}) X c J t λb=>?_;refine Ch^Rs^Ch^Ch^wpAny_loadPart hx^Ch^PySem.W.Looks.here (s:={s with toks:=s.toks+1}) (PySem.W.looks_clsIn X z) ?_;rw[B];refine Rs (a:=P3 d)^Ch^Rs^Ch ?_;refine wpAny_nsSet1 (s:={s with toks:=s.toks+1}) n λe p F=>?_;let#[M,G,H,g,i,j]:=p.count^PySem.Within.cons name v q;refine Ch^wpAny_lookBehind g (by rw[i];exact pastItsLine_dict^gG j^by rw[gB];lk) ?_;exact Rs^h _ _ p F
end
section
variable {M:Model}{prog:Program}{w:World}{A:Around}{E:Value->Shared->Prop}{R:Result->Shared->Prop}{h:Heap}{g:Array GenState}{d:Drawn}{t:Nat}{os:OsState}
variable {K:Frag}{nm q:Str}{C U N f:Addr}{bs:s_ Value}{sn:s_ Str}{sub:s_ Value}{ab:Bool}{col:t_ Bool}{dd:t_ Addr}{k0 k1 k2 k3 k5:t_ Value}{rest:s_ Value}
def SD{Q:Unit->Go->Prop}(hC:h.get? C=P3^excClassObj nm q C N bs (.ref U::Cw) q_ sn sub ab col dd k0 k1 k2 k3 k5 "ValueError.__new__")
  (hq:Q () #[h,g,d,t,os]):wpAny M A (checkBuiltinCall "ValueError.__new__" #[.ref C::rest,[]]) Q E #[h,g,d,t,os]:=by
 have F:=PySem.F.excBase_ValueError;have hcont:(gE C::.ref U::Cw).contains^.type "ValueError"=q_:=by simp[Cw]
 have hstar:=F.noStar;simp only[checkBuiltinCall,F.newKind,F.newSplit,F.newRow]
 repeat (first|refine h8 hC ?_|(refine iG hC ?_;rw[hcont])|refine wpAny_staticBase_exc hC ?_|refine mZ hC ?_|simp only[bne_self_eq_false,iA,if_false]|wp_step)
 exact hq
def Rx(hC:h.get? C=P3^excClassObj nm q C N bs (.ref U::Cw) q_ sn sub ab col dd k0 k1 k2 k3 k5 "ValueError.__new__")
  (hq:R (.ok^.ret^.ref (h.objs.size+1)) #[(h.push {cls:=.type "tuple",data:=.seq rest.toArray}).push^B3 C h.objs.size,g,d,t,os]) (hrest:rest.length<=sizeLine):
  codeAny (model prog w) A (.builtin "ValueError.__new__" #[.ref C::rest,[]]) R #[h,g,d,t,os]:=by
 have F:=PySem.F.excBase_ValueError;have hends:=F.ends;have hcB:(gE C::.ref U::Cw).contains^.type "ValueError"=q_:=by simp[Cw]
 have hcA:(gE C::.ref U::Cw).contains^.type "AttributeError"=r_:=by simp[Cw]
 have hcN:(gE C::.ref U::Cw).contains^.type "NameError"=r_:=by simp[Cw]
 refine codeAny_builtinAt F.entry ?_;unfold ir.«BaseException.__new__»;refine PySem.wpAt_bind ?_;show PySem.wpAt _ _ _ (stack >>=_) _ _ _;refine PySem.wpAt_bind^PySem.wpAt_stack λp below=>wpAt_of_wpAny ?_
 wp_walk
 refine wpAt_of_wpAny ?_;rw[F.owner]
 repeat (first|with_reducible refine wpAny_madeHere_exc F.canon hC ?_|with_reducible refine h8 hC ?_|(with_reducible refine iG hC ?_;first|rw[hcB]|rw[hcA]|rw[hcN])|wp_step)
 show R _ _;rw[iq];exact hq
def WN{e:Db}{oe:Obj}{Q:Unit->Go->Prop}(hC:h.get? C=P3^excClassObj nm q C N bs (.ref U::Cw) q_ sn sub ab col dd k0 k1 k2 k3 k5 "ValueError.__new__")(he:h.get? e=P3 oe)(hcls:oe.cls=.ref C)(hq:Q () #[h,g,d,t,os]):
  wpAny M A (checkBuiltinCall "ValueError.__init__" #[.ref e::rest,[]]) Q E #[h,g,d,t,os]:=by
 have F:=PySem.F.excBase_ValueError;have hcB:(gE C::.ref U::Cw).contains^.type "ValueError"=q_:=by simp[Cw]
 have hshort:=F.noStar;simp only[checkBuiltinCall,F.initKind,F.initSplit,F.initRow]
 repeat (first|(with_reducible refine h8 he ?_;rw[hcls])|with_reducible refine h8 hC ?_|(with_reducible refine iG hC ?_;rw[hcB])|wp_step)
 refine k6 ?_
 rw[show ∀(a b:String) (n:Nat),Bind.check #[.positional,"*","ValueError",.self,[#["args",.varPos,r_]]] a b n^List.map (λx=>x.fst) ({pos:=gE e::rest}:Args).kw=pure ()from
  λa b n=>check_star_args _ _ _ _ _ _]
 exact Rs hq
def Vz(X:K.In h)(c:XC K nm C U)(hi:PySem.W.findIn K (.ref C) "__init__"=P3^P3^.ref f)(hf:PySem.W.typeIn K^.ref f=P3^.type "function")(hrest:rest.length<=sizeLine)
  (hq:codeAny (model prog w) (A.under^.builtin "type.__call__" #[.ref C::rest,[]]) (.call (.ref f) #[.ref (h.objs.size+1)::rest,[]]) (c_ (h.objs.size+1) R) #[(h.push {cls:=.type "tuple",data:=.seq rest.toArray}).push^B3 C h.objs.size,g,d,t,os]):
  codeAny (model prog w) A (.call (.ref C) #[rest,[]]) R #[h,g,d,t,os]:=by
 have F:=PySem.F.excBase_ValueError;let#[q,N,bs,sn,sub,ab,col,dd,k0,k1,k2,k3,k5,eC]:=c.obj;have hC:=X _ _ eC;have f1:=tc_lookup;have f2:=tc_bind^.ref C;have hT:(#[h,g,d,t,os]:Go).TypeIs (.ref C) "type":=#[_,hC,rfl];refine kQ ?_;show wpAny _ _ (callAny (.ref C) _) _ _ _
 repeat (any_goals (first|assumption|with_reducible refine h8 hC ?_|wp_step))
 refine#[rfl,?_];refine codeAny_call_builtin_at (jv _^by decide +kernel) entry_typeCall^wpAny_check_type_call_sub hC ?_
 repeat (first|with_reducible refine h8 hC ?_|with_reducible refine mZ hC ?_|wp_step)
 refine codeAny_call_builtin_code (jv _ F.quiet)^SD hC ?_;refine Rx hC ?_ hrest;show wpAny _ _ _ _ _ _;have kk:∀b o,h.get? b=P3 o->((h.push {cls:=.type "tuple",data:=.seq rest.toArray}).push^B3 C h.objs.size).get? b=P3 o:=λb o e=>FM _^FM _ e;have hC₁:=kk _ _ hC;have hget:((h.push {cls:=.type "tuple",data:=.seq rest.toArray}).push^B3 C h.objs.size).get? (h.objs.size+1)=P3^B3 C h.objs.size:=by unfold B3;heap_get
 have hcC:(gE C::gE U::Cw).contains^.ref C=q_:=by simp
 unfold isInstance;unfold B3 at *
 repeat (first|with_reducible refine h8 hget ?_|(with_reducible refine iG hC₁ ?_;rw[hcC])|wp_step)
 show wpAny _ _ (isSubtype (.ref C)^.ref C) _ _ _;refine iG hC₁ ?_;rw[hcC,if_neg^by cbv];refine Ch^gw ?_;unfold callSpecial? specialOf
 repeat (first|with_reducible refine h8 hget ?_|wp_step)
 show wpAny _ _ (typeLookup (.ref C) _) _ _ _;refine(PySem.W.looks_findIn (X.keeps kk) hi).here ?_;refine gw^Ch^(PySem.W.bind_fn (X.keeps kk) _ hf).here ?_;refine Ch^jP^jg hq λr s' z=>?_
 rcases r with e|(v|_|_|_) <;>first|exact z|exact z.elim|skip
 let#[rfl,z]:=z;exact Rs^Rs z
def Tb(X:K.In h)(c:XC K nm C U)(hi:PySem.W.findIn K (.ref C) "__init__"=P3^P3^.builtin "ValueError.__init__")(hrest:rest.length<=sizeLine)
  (hq:∀h',(∀b o,h.get? b=P3 o->h'.get? b=P3 o)->h'.get? (h.objs.size+1)=P3^B3 C (h.objs.size+2)->R (.ok^.ret^.ref (h.objs.size+1)) #[h',g,d,t,os]):
  codeAny (model prog w) A (.call (.ref C) #[rest,[]]) R #[h,g,d,t,os]:=by
 have F:=PySem.F.excBase_ValueError;let#[q,N,bs,sn,sub,ab,col,dd,k0,k1,k2,k3,k5,eC]:=c.obj;have hC:=X _ _ eC;have f1:=tc_lookup;have f2:=tc_bind^.ref C;have hT:(#[h,g,d,t,os]:Go).TypeIs (.ref C) "type":=#[_,hC,rfl];refine kQ ?_;show wpAny _ _ (callAny (.ref C) _) _ _ _
 repeat (any_goals (first|assumption|with_reducible refine h8 hC ?_|wp_step))
 refine#[rfl,?_];refine codeAny_call_builtin_at (jv _^by decide +kernel) entry_typeCall^wpAny_check_type_call_sub hC ?_
 repeat (first|with_reducible refine h8 hC ?_|with_reducible refine mZ hC ?_|wp_step)
 refine codeAny_call_builtin_code (jv _ F.quiet)^SD hC ?_;refine Rx hC ?_ hrest;show wpAny _ _ _ _ _ _;have kk:∀b o,h.get? b=P3 o->((h.push {cls:=.type "tuple",data:=.seq rest.toArray}).push^B3 C h.objs.size).get? b=P3 o:=λb o e=>FM _^FM _ e;have hC₁:=kk _ _ hC;have hget:((h.push {cls:=.type "tuple",data:=.seq rest.toArray}).push^B3 C h.objs.size).get? (h.objs.size+1)=P3^B3 C h.objs.size:=by unfold B3;heap_get
 have hcC:(gE C::gE U::Cw).contains^.ref C=q_:=by simp
 unfold isInstance;unfold B3 at *
 repeat (first|with_reducible refine h8 hget ?_|(with_reducible refine iG hC₁ ?_;rw[hcC])|wp_step)
 show wpAny _ _ (isSubtype (.ref C)^.ref C) _ _ _;refine iG hC₁ ?_;rw[hcC,if_neg^by cbv];refine Ch^gw ?_;unfold callSpecial? specialOf
 repeat (first|with_reducible refine h8 hget ?_|wp_step)
 show wpAny _ _ (typeLookup (.ref C) _) _ _ _;refine(PySem.W.looks_findIn (X.keeps kk) hi).here ?_;refine gw^Ch^iX (F.init.bind _) ?_;refine Ch^jP^kE F.init.plain F.initEntry (WN hC₁ hget rfl ?_)
 wp_walk
 refine hq _ (λb o e=>?_) ?_
 .rw[gF _ _^jC^iy^Uf e]
  exact FM _^kk b o e
 .refine(g7 (jJ (·.setIfInBounds 0^gE _)) (FM _ hget) rfl).trans ?_
  simp only[iq];rfl
end
structure CXD (P:gN) (w:gY) (outer:List Env) (H:Hp) (s:Go) (a C:Db) (dx:Option Db) (B:gI) (H':Hp) (s':Go):Prop where
 os:s'.os=s.os
 bare:j6 s'.gens
 un:Un (L8 outer) [] H H' s.heap s'.heap
 hok:HOk P w H' B
 all:∀b o o',s.heap.get? b=P3 o->b∉L8 outer->s'.heap.get? b=P3 o'->B.get? b=P3 o'
 fly:Fly B outer a C dx s'.heap
 new:s.heap.objs.size<=a
 free:H' a=p_
def Tt(P:gN)(w:gY):T3:=λb H s E e f=>∃a C c B d,e=.ref a/\CXD P w b H s a C c B d f/\E (.ref C) c d
section
variable {P:Program}{w:World}{outer:s_ Env}{H H':Hp}{s s':Shared}{a C:Addr}{dx:t_ Addr}{B h':Heap}
def CXD.step(x:CXD P w outer H s a C dx B H' s')(F:Fly B outer a C dx h')(u:s'.heap.UpToSlots h'):CXD P w outer H s a C dx B H' {s' with heap:=h'}:=by
 have fr:∀b∈L8 outer,∃o,s'.heap.get? b=P3 o/\∀k,o.data≠.fields k:=λb c=>(x.fly.frames.mem c).2;refine#[x.os,x.bare,#[λb o e n c d=>F.stays _ _^x.all b o o e c^x.un.keep b o e n c d,λb o e n c d=>?_,x.un.free,λb o e d=>?_,x.un.tups,x.un.frzs,x.un.tbls],x.hok,λb o j e c q=>?_,F,x.new,x.free]
 .let#[p,q]:=x.un.slot b o e n c d
  let#[j,f,h]:=fr b c;rw[q]at f;cases f;let#[i,l]:=u b _ q h
  grind
 .let#[g,q]:=x.un.there b o e d
  by_cases c:b∈L8 outer
  .let#[j,f,h]:=fr b c
   let#[i,l]:=u b _ f h
   grind
  .exact#[g,F.stays _ _^x.all b o g e c q]
 .let#[g,m]:=x.un.there b o e^by simp
  have z:=x.all b o g e c m;rw[F.stays _ _ z]at q
  grind
end
section
variable {X:Cx}{zH:s_ (Addr×Obj)}{Z:St}{H H':Hp}{s s':Shared}{a C:Addr}{dx:t_ Addr}{B:Heap}
def CXD.inv(x:CXD X.prog X.w X.stack H s a C dx B H' s')(I:Inv X zH Z H s):Inv X zH Z H' s':=
 I.call' x.os x.un (x.hok.kept x.fly.stays) x.bare λb z=>absurd z^by simp
def CXD.leave(x:CXD X.prog X.w X.stack H s a C dx B H' s')(I:Inv X zH Z H s)(c:X.stack=X.env::X.outer)(f:X.ex=[]):CXD X.prog X.w X.outer X.H₀ X.s₀ a C dx B H' s':=by
 have J:=x.inv I;have d:=x.fly;rw[c]at d;refine#[J.os,J.bare,by have z:=J.base;grind,x.hok,λb o g e h q=>?_,d.tail,gG I.sz x.new,x.free];let#[i,j]:=I.base.there b o e (by grind);refine x.all b i g j (λz=>?_) q
 rcases T0.mp^I.stkSub b z with z|z
 .exact absurd (Uf e)^by rw[z];exact ke.mpr I.ok.above
 .exact h z
def Jy{P:gN}{w:gY}{K:Frag}{j:Str->t_ Ev}{d:gI}{N:s_ Str}{g:Str}{b:jB}{f:Db}{k:Ev}{A:gc}{c:s_ Env}{h:Go}{i:Hp}{E:XK}:
  Hz (Tt P w) (D1 (Tt P w) P w K j d N g b f k A c h i E) E:=by
 intro zH Z H s e s' I #[a,C,dx,B,H',l,x,q];subst l;exact TY I.ok.frames rfl x.fly λn m u=>#[a,C,dx,B,H',rfl,(x.step m u).leave I rfl rfl,q]
def Xa{P:gN}{w:gY}{K:Frag}{i:Str->t_ Ev}{d:gI}{N:s_ Str}{e:Str}{b:jB}{f:Db}{j:Ev}{A:gc}{c:s_ Env}{g:Go}{h:Hp}{E:XK}:
  kT (model P w) (D1 (Tt P w) P w K i d N e b f j A c g h E).A (D1 (Tt P w) P w K i d N e b f j A c g h E).env (D1 (Tt P w) P w K i d N e b f j A c g h E).xe:=by
 passes_own
end
def XO(a C:Db)(c:t_ Db)(h:gI):Prop:=∃b d,h.get? a=P3 #[.ref C,c,.fields b,d]/\b[2]?=P3 .none/\b[1]?=P3 .none
def XF(d:Db)(fs:s_ (Str×V))(h:gI):Prop:=∃a,h.Ns1 d a/\(∀f,RelO (fs.lookup f)^a f)/\PySem.Within a (fs.map (·.1))/\fs.length<=1000
def XO.ok{P:gN}{w:gY}{H:Hp}{a C:Db}{b:t_ Db}{h:gI}(x:XO a C b h):ObjOk P w H h a^.ext^XO a C b:=by
 refine#[x,?_,λf g #[c,d,e,r] k=>#[c,d,k _ e,r]];let#[c,d,e,_]:=x
 simp_all
def XF.ok{P:gN}{w:gY}{H:Hp}{d:Db}{a:s_ (Str×V)}{h:gI}(x:XF d a h):ObjOk P w H h d^.ext^XF d a:=by
 refine#[x,?_,λc f #[b,e,r] k=>#[b,e.at k,r]];let#[b,#[o,_,_,e,_],_]:=x
 grind
section
variable {X:Cx}{zH:s_ (Addr×Obj)}{Z:St}{H:Hp}{s:Shared}{a C U:Addr}{nm f:Str}{A:Around}{E:Value->Shared->Prop}
def Ua{y:V}{u:Ev}{Q:Unit->Go->Prop}(I:Inv X zH Z H s)(e:H a=P3^.ext^XO a C p_)(c:XC X.K nm C U)(n:GW X.K C f)(M:RelV y u)
  (h:∀d B,H d=p_->d≠a->Inv X zH Z (A5 (A5 H d^.ext^XF d [(f,y)]) a^.ext^XO a C^P3 d) B->Q () B):wpAny (model X.prog X.w) A (setAttr (.ref a) f u) Q E s:=by
 let#[#[N,O,D,P,R],_]:=(show ObjOk X.prog X.w H s.heap a _ from I.hok a _ e);refine Ud I.kIn c D n λh' t' F S l=>?_;have G:H s.heap.objs.size=p_:=I.hok.fresh^Re _;have T:s.heap.objs.size≠a:=jC^Uf D;have lt:∀{b:Db}{o:Obj},s.heap.get? b=P3 o->b≠s.heap.objs.size:=λ{b o} q=>gO^Uf q;have p:∀{b:Db},H b=p_->b≠a:=λ{b} q z=>by rw[z,e]at q;cases q
 have of:∀{b:Db}{u:HO},H b=P3 u->(∀j,u≠.ext j)->A5 (A5 H s.heap.objs.size^.ext^XF s.heap.objs.size [(f,y)]) a (.ext^XO a C^P3 s.heap.objs.size) b=P3 u:=λ{b u} q W=>by
  rw[AS (λz=>by rw[z,e]at q;exact W _ (gH q).symm),AS λz=>by rw[z,G]at q;cases q];exact q
 refine h s.heap.objs.size _ G T^I.un (h':=h') (t':=t') #[λb o q n _ _=>l b o (p n) q,λb o q n _ _=>#[o.slots,l b o (p n) q],λb o q n _=>?_,λb o q _=>?_,λb J q=>of q (by intro j z;cases z),λb o J q=>of q (by intro j z;cases z),λb ps q=>#[#[],by rw[of q^by intro j z;cases z];simp]] ?_
 .rw[AS^p n,AS^lt q];exact n
 .by_cases z:b=a
  .rw[z];exact#[_,F]
  .exact#[o,l b o z q]
 .intro b o q
  by_cases z:b=a
  .subst z
   rw[Af]at q;cases q;exact XO.ok #[N,O,F,P,R]
  .rw [AS z]at q
   by_cases L:b=s.heap.objs.size
   .subst L
    rw[Af]at q;cases q;refine XF.ok #[_,S,λg=>?_,λg Y=>?_,by simp]
    .by_cases i:g=f
     .rw[if_pos i]
      have t:(g==f)=q_:=beq_iff_eq.mpr i;simp only[jO,t];exact M
     .rw[if_neg i]
      have t:(g==f)=r_:=beq_eq_false_iff_ne.mpr i;simp only[jO,t];trivial
    .by_cases i:g=f
     .simp[i]
     .exact absurd (if_neg i) Y
   .rw[AS L]at q
    refine(I.hok b o q).stay (λx v m r=>l x v ?_ r) (λx r=>of r^by intro j z;cases z) λx J r=>of r^by intro j z;cases z
    rcases m with rfl|m
    .exact z
    .intro zz;rw[zz,e]at m;cases m
def UZ{d:Db}{i:s_ (Str×V)}{y:V}{u:Ev}{Q:Unit->Go->Prop}(I:Inv X zH Z H s)(e:H a=P3^.ext^XO a C^P3 d)(k:H d=P3^.ext^XF d i)(c:XC X.K nm C U)(n:GW X.K C f)(v:RelV y u)(O:i.length<1000)
  (h:∀l,Inv X zH Z (A5 H d^.ext^XF d^Ei f y i) l->Q () l):wpAny (model X.prog X.w) A (setAttr (.ref a) f u) Q E s:=by
 let#[#[P,R,B,S,T],_]:=(show ObjOk X.prog X.w H s.heap a _ from I.hok a _ e);let#[#[m,D,r,p,_],_]:=(show ObjOk X.prog X.w H s.heap d _ from I.hok d _ k);refine Ub I.kIn c B D p (by rw[No,gz];lk) n λF W t G=>h _ ?_;have J:∃o,F.get? d=P3 o:=let #[o,_,_,L,_]:=t;#[o,L]
 refine I.write (x:=d) (e:=d) (by rw[k];exact jD) (.inl rfl) (λb q M z=>(G.2 b M).trans z) J^XF.ok #[_,t,λg=>?_,λg N=>?_,?_]
 .show RelO ((Ei f y i).lookup g) (if g=f then P3 u else m g)
  rw[IT]
  by_cases q:g=f
  .rw[if_pos q,if_pos q];exact v
  .rw[if_neg q,if_neg q];exact r g
 .by_cases q:g=f
  .rw[q];exact(Hi f y i).1
  .refine(Hi f y i).2 g^p g λz=>N ?_
   show(if g=f then P3 u else m g)=p_;rw[if_neg q];exact z
 .have:=IU f y i;lk
end
def fm(C:Db)(b c:TE)(f:Str):TS:=λD Z H=>c Z H λy e=>b Z e λx H2=>∃a,x=.ref a/\H2 a=P3^.ext^XO a C p_/\∀d,H2 d=p_->d≠a->D.nx Z^A5 (A5 H2 d^.ext^XF d [(f,y)]) a^.ext^XO a C^P3 d
def fk(C:Db)(c e:TE)(f:Str):TS:=λD Z H=>e Z H λy g=>c Z g λx H2=>∃a d b,x=.ref a/\H2 a=P3^.ext^XO a C^P3 d/\H2 d=P3^.ext^XF d b/\b.length<1000/\D.nx Z^A5 H2 d^.ext^XF d^Ei f y b
section
variable {X:Cx}{o value:Expr}{nm f:Str}{C U:Addr}{pos pos':Pos}{ta tv:TE}
def bu(c:XC X.K nm C U)(n:GW X.K C f)(e:PE X o ta)(g:PE X value tv)(i:swapsWith value (P3^.Attribute o f pos') pos.line X.env=pure r_):PS X (.Assign [.Attribute o f pos'] value pos)^fm C ta tv f:=by
 intro B s Z H D I h;refine lE (thn (g _ s Z H _ I h) λu j #[y,k,l,m,q]=>thn (e _ j Z k _ l q) λp E #[x,H2,r,t,a,ex,v,w]=>?_) i;subst ex;obtain rfl:p=gE a:=t;exact Ua r v c n m λd F z b A=>#[Z,_,A,w d z b]
def bq(c:XC X.K nm C U)(n:GW X.K C f)(b:PE X o ta)(e:PE X value tv)(g:swapsWith value (P3^.Attribute o f pos') pos.line X.env=pure r_):PS X (.Assign [.Attribute o f pos'] value pos)^fk C ta tv f:=by
 intro B s Z H D I h;refine lE (thn (e _ s Z H _ I h) λu i #[y,j,k,m,q]=>thn (b _ i Z j _ k q) λp E #[x,H2,r,t,a,d,F,ex,v,w,l,z]=>?_) g;subst ex;obtain rfl:p=gE a:=t;exact UZ r v w c n m l λG A=>#[Z,_,A,z]
end
def del(H:Hp)(a:Db):Hp:=λb=>if b=a then p_ else H b
def Kk{H:Hp}{a b:Db}(h:b≠a):del H a b=H b:=if_neg h
def FE{H:Hp}{a:Db}:del H a a=p_:=if_pos rfl
section
variable {X:Cx}{zH:s_ (Addr×Obj)}{Z:St}{H H1:Hp}{s s1:Shared}{a C:Addr}{dx:t_ Addr}
def cP(I:Inv X zH Z H s)(A:s1.os=s.os)(f:j6 s1.gens)(u:Un (L8 X.stack) [] H H1 s.heap s1.heap)(h:HOk X.prog X.w H1 s1.heap)(k:H1 a=P3^.ext^XO a C dx)(i:s.heap.objs.size<=a):
  CXD X.prog X.w X.stack H s a C dx (PySem.W.hideAll s1.heap (a::L8 X.stack)) (del H1 a) s1:=by
 have J:Inv X zH Z H1 s1:=I.call' A u h f λb z=>absurd z (by simp);have E:∀{b:Db}{u:HO},H1 b=P3 u->(∀g,u≠.ext g)->b≠a:=λ{b u} q p z=>by rw[z,k]at q;exact p _ (gH q).symm
 have of:∀{b:Db}{u:HO},H1 b=P3 u->(∀g,u≠.ext g)->del H1 a b=P3 u:=λq p=>(Kk^E q p).trans q;have B:∀{b:Db}{u:HO},H1 b=P3 u->b∉L8 X.stack:=λ{b u} q z=>by rw[J.stkFree b z]at q;cases q
 let#[#[F,G,t,K,L],_]:=(show ObjOk X.prog X.w H1 s1.heap a _ from h a _ k);refine#[A,f,#[u.keep,u.slot,λb o q n t=>?_,u.there,λb j q=>of (u.tups b j q) (by intro g z;cases z),λb o j q=>of (u.frzs b o j q) (by intro g z;cases z),λb M q=>?_],λb o q=>?_,λb o P q x N=>?_,#[λb o q=>PySem.W.of_hideAll _ q,PySem.W.hideAll_none _^by simp,PySem.W.funFrames_hide J.stack λy O b x=>?_,F,G,.none,t,K,L,.inl rfl],i,FE]
 .by_cases z:b=a
  .rw[z];exact FE
  .rw[Kk z];exact u.free b o q n t
 .let#[m,e]:=u.tbls b M q
  exact#[m,of e^by intro g z;cases z]
 .have D:b≠a:=λz=>by rw[z,FE]at q;cases q
  rw[Kk D]at q;refine(h b o q).stay (λc v d r=>PySem.W.hideAll_get _ r λz=>?_) (λc r=>of r^by intro g z;cases z) λc j r=>of r^by intro g z;cases z
  rcases T0.mp z with z|z
  .rcases d with d|d
   .exact D^d.symm.trans z
   .rw[z,k]at d;cases d
  .rcases d with d|d
   .exact B q (d▸z)
   .exact B d z
 .refine PySem.W.hideAll_get _ N λz=>?_
  rcases T0.mp z with z|z
  .exact absurd (Uf q)^by rw[z];exact ke.mpr i
  .exact x z
 .exact TM _^lq.mpr #[y,O,x]
end
def XS(X:Cx)(a:s_ (Db×Obj))(Z:St)(R:XK)(e:Ev)(b:Go):Prop:=∃H s,Inv X a Z H s/\Tt X.prog X.w X.stack H s R e b
def Made(X:Cx)(e:s_ (Db×Obj))(Z:St)(C:Db)(R:XK)(v:Ev)(b:Go):Prop:=∃a d H s c,v=.ref a/\Inv X e Z H s/\b.os=s.os/\j6 b.gens/\Un (L8 X.stack) [] H c s.heap b.heap/\HOk X.prog X.w c b.heap/\c a=P3^.ext^XO a C d/\s.heap.objs.size<=a/\R (.ref C) d^del c a
section
variable {X:Cx}{zH:s_ (Addr×Obj)}{Z:St}{s:Shared}{C U:Addr}{nm:Str}{R:XK}
def Ln{e:gZ}{pos:Pos}{Q:Flow->Go->Prop}{i:Ev->Go->Prop}(c:XC X.K nm C U)(D:X.A.handled=p_)(h:wpAny (model X.prog X.w) X.A (eval e X.env) (Made X zH Z C R) i s)(E:∀e t,XS X zH Z R e t->i e t):
  wpAny (model X.prog X.w) X.A (exec (.Raise (P3 e) p_ pos) X.env) Q i s:=by
 let#[q,N,F,G,m,H,n,L,M,O,P,S,T,V]:=c.obj
 have W:wpAny (model X.prog X.w) X.A (eval e X.env) (λv d=>∃e k l o,v=.ref e/\d.heap.get? C=P3^excClassObj nm q C N F (.ref U::Cw) q_ G m H n L M O P S T "ValueError.__new__" /\
   d.heap.get? e=P3 #[.ref C,k,.fields l,o]/\l[1]?=P3 .none/\i (.ref e) d) i s:=by
  refine thn h λv s1 #[a,k,Y,s0,H1,ev,I,y,f,u,g,B,p,r]=>?_;let#[#[l,o,hx,h2,h1],_]:=(g a _ B);have J:=I.call' y u g f λb z=>absurd z (by simp);exact#[a,k,l,o,ev,J.kIn _ _ V,hx,h1,E _ _ #[Y,s0,I,a,C,k,_,_,rfl,cP I y f u g B p,r]]
 first
  |exact Ch^mB (QB rfl D (Ch^gq W (λv d j=>Ch^mB^Rs j) λ_ _ x=>x))
  |omega
end
def JV(C:Db)(c f:Str):Sp:=λg H Q _=>∃a b e,g=[.ref a,b,e]/\H a=P3^.ext^XO a C p_ /\
 ∀d,H d=p_->d≠a->Q .non^A5 (A5 (A5 H d^.ext^XF d [(c,b)]) a^.ext^XO a C^P3 d) d^.ext^XF d [(c,b),(f,e)]
section
variable {X:Cx}{zH:s_ (Addr×Obj)}{Z:St}{H:Hp}{s:Shared}{C U f:Addr}{nm k1 k2 p0 p1 p2:Str}{R:XK}{E:Value->Shared->Prop}{k:Nat}{fd:FuncData}{us:s_ Value}{v1 v2:V}
def Xi(c:XC X.K nm C U)(M:PySem.W.findIn X.K (.ref C) "__init__"=P3^P3^.ref f)(N:PySem.W.typeIn X.K^.ref f=P3^.type "function")(F:CW X.prog X.w X.K X.mg X.base FV k f fd [p0,p1,p2]^JV C k1 k2)(O:Binds X.K fd [p0,p1,p2] [])
  (P:Room (k+1) X.A) (I:Inv X zH Z H s) (r:Vals [j,v2] us) (h:∀d,H d=p_->R (.ref C) (P3 d)^A5 H d^.ext^XF d [(k1,j),(k2,v2)]):wpAny (model X.prog X.w) X.A (call (.ref C) us) (Made X zH Z C R) E s:=by
 let#[a,g,Q,t,S]:=s;have y:us.length=2:=r.length.symm;have T:((a.push {cls:=.type "tuple",data:=.seq us.toArray}).push^B3 C a.objs.size).get? (a.objs.size+1)=P3^B3 C a.objs.size:=by unfold B3;heap_get
 have B:∀b o,a.get? b=P3 o->((a.push {cls:=.type "tuple",data:=.seq us.toArray}).push^B3 C a.objs.size).get? b=P3 o:=λb o e=>FM _^FM _ e;have D:H (a.objs.size+1)=p_:=I.hok.fresh^g_ _;have G:Inv X zH Z (A5 H (a.objs.size+1)^.ext^XO (a.objs.size+1) C p_) #[(a.push {cls:=.type "tuple",data:=.seq us.toArray}).push^B3 C a.objs.size,g,Q,t,S]:=I.laid (t':=t) B (g_ _)^XO.ok #[_,_,T,rfl,rfl]
 have p:JV C k1 k2 [.ref (a.objs.size+1),j,v2] (A5 H (a.objs.size+1)^.ext^XO (a.objs.size+1) C p_) (λv J=>v=.non/\∃d,H d=p_/\d≠a.objs.size+1 /\
   J=A5 (A5 (A5 (A5 H (a.objs.size+1)^.ext^XO (a.objs.size+1) C p_) d^.ext^XF d [(k1,j)]) (a.objs.size+1)^.ext^XO (a.objs.size+1) C^P3 d) d^.ext^XF d [(k1,j),(k2,v2)]) E0:=
  #[_,j,v2,rfl,Af,λd m i=>#[rfl,d,by rw[AS i]at m;exact m,i,rfl]]
 have Y:Vals [V.ref (a.objs.size+1),j,v2] (gE (a.objs.size+1)::(us++[])):=by rw[gK];exact .cons rfl r
 refine jP^Vz (K:=X.K) (U:=U) (nm:=nm) I.kIn c M N (by rw[y];decide)^jg (F.run _ X.stack _ _ #[gE (a.objs.size+1)::us,[]] _ _ _ E0 (P.make C us []) (G.env0.make C us []) (O _ (gE (a.objs.size+1)::us) G.kIn^by simp[y]) Y p) λrr s' L=>?_
 rcases rr with e|(u|_|_|_) <;>first|exact g8 L|skip
 let#[v,J,q,l,un,x,rv,ev,d,m,i,eH]:=L;subst ev;subst eH;exists rv,a.objs.size+1,P3 d,H,_,_,rfl,I,q,l,(Un.laid B (g_ _) D).trans un,x,by rw[AS i.symm,Af],g_ _
 have e:del (A5 (A5 (A5 (A5 H (a.objs.size+1)^.ext^XO (a.objs.size+1) C p_) d^.ext^XF d [(k1,j)]) (a.objs.size+1)^.ext^XO (a.objs.size+1) C^P3 d) d^.ext^XF d [(k1,j),(k2,v2)]) (a.objs.size+1)=A5 H d^.ext^XF d [(k1,j),(k2,v2)]:=by
  funext b
  by_cases z:b=a.objs.size+1
  .rw[z,FE,AS i.symm,D]
  .rw[Kk z]
   by_cases n:b=d
   .rw[n,Af,Af]
   .rw[AS n,AS z,AS n,AS z,AS n]
 rw[e];exact h d m
def Xj(c:XC X.K nm C U)(j:PySem.W.findIn X.K (.ref C) "__init__"=P3^P3^.builtin "ValueError.__init__")(I:Inv X zH Z H s)(k:us.length<=sizeLine)(h:R (.ref C) p_ H):wpAny (model X.prog X.w) X.A (call (.ref C) us) (Made X zH Z C R) E s:=by
 let#[a,g,n,t,o]:=s;have d:=I.hok.fresh^g_ _;refine jP^Tb (K:=X.K) (U:=U) (nm:=nm) I.kIn c j k λp i l=>?_;have m:Inv X zH Z (A5 H (a.objs.size+1) _) _:=I.laid (t':=t) i (g_ _)^XO.ok #[_,_,l,rfl,rfl];exists a.objs.size+1,p_,H,_,_,rfl,I,rfl,I.bare,Un.laid i (g_ _) d,m.hok,Af,g_ _
 have e:del (A5 H (a.objs.size+1)^.ext^XO (a.objs.size+1) C p_) (a.objs.size+1)=H:=by
  funext b
  by_cases z:b=a.objs.size+1
  .rw[z,FE,d]
  .rw[Kk z,AS z]
 grind
end
abbrev YN:=Ends->XK->St->Hp->Prop
abbrev T1:=XK->St->Hp->VK->Prop
def XE(X:Cx)(b:s_ (Db×Obj))(Z:St)(R:XK)(e:Ev)(a:Go):Prop:=X.xe e a\/XS X b Z R e a
def ax(X:Cx)(st:gf)(t:YN):Prop:=
 ∀(a:s_ (Db×Obj)) (s:Go) (Z:St) (H:Hp) (D:Ends) (R:XK),Inv X a Z H s->t D R Z H->wpAny (model X.prog X.w) X.A (exec st X.env) (SP X a D) (XE X a Z R) s
def af(X:Cx)(st:s_ gf)(t:YN):Prop:=
 ∀(a:s_ (Db×Obj)) (s:Go) (Z:St) (H:Hp) (D:Ends) (R:XK),Inv X a Z H s->t D R Z H->wpAny (model X.prog X.w) X.A (execs st X.env) (SP X a D) (XE X a Z R) s
def c7(X:Cx)(e:gZ)(t:T1):Prop:=
 ∀(a:s_ (Db×Obj)) (s:Go) (Z:St) (H:Hp) (Q:VK) (R:XK),Inv X a Z H s->t R Z H Q->wpAny (model X.prog X.w) X.A (eval e X.env) (EP X a Z Q) (XE X a Z R) s
section
variable {X:Cx}{st:Stmt}{t u:YN}{te:T1}{e:Expr}{es:s_ Expr}{ta:TA}{x nm k1 k2 p0 p1 p2:Str}{p pos cpos:Pos}{C U f:Addr}{k:Nat}{fd:FuncData}{ps:s_ Str}{sp:Sp}
def ZH{a:Type}{t:Sem a}{Q:a->Go->Prop}{b:s_ (Db×Obj)}{Z:St}{R:XK}{s:Go}(h:wpAny (model X.prog X.w) X.A t Q X.xe s):wpAny (model X.prog X.w) X.A t Q (XE X b Z R) s:=gq h (λ_ _ z=>z) λ_ _ z=>.inl z
def Sm{R:XK}(hx:Hz (Tt X.prog X.w) X R)(h:ax X st t):PS X st (λD=>t D R):=λb s Z H D I q=>
 gq (h _ s Z H D R I q) (λ_ _ z=>z) λe a z=>z.elim id fun#[H,s,J,c]=>hx _ Z H s e a J c
def U9(a:ax X st t):af X [st] t:=by
 intro c s Z H D R I h;refine mV^gq (a _ s Z H D R I h) (λf d q=>?_) λ_ _ z=>z;cases f with
 |next=>
  let#[e,b,J,q]:=q;exact jq #[_,b,J,q]
 |brk=>exact q
 |cont=>exact q
 |ret v=>exact q
def W0(C:Db)(k1 k2:Str)(ta:TA):YN:=λ_ R Z H=>ta Z H λe a=>∃b c,e=[b,c]/\∀d,a d=p_->R (.ref C) (P3 d)^A5 a d^.ext^XF d [(k1,b),(k2,c)]
def W1(C:Db)(ta:TA):YN:=λ_ R Z H=>ta Z H λa b=>a.length<=sizeLine/\R (.ref C) p_ b
def QD(c:XC X.K nm C U)(i:PySem.W.findIn X.K (.ref C) "__init__"=P3^P3^.ref f)(j:PySem.W.typeIn X.K^.ref f=P3^.type "function")(F:CW X.prog X.w X.K X.mg X.base FV k f fd [p0,p1,p2]^JV C k1 k2)(l:Binds X.K fd [p0,p1,p2] [])
  (d:Room (k+1) X.A) (m:Gl X x) (n:X.mg x=P3^.ref C) (o:PA X (e::es) ta) (a:(x==("__debug__":Str))=r_:=by cbv) (t:starEach (e::es) X.env=(r_,eval e X.env)::starEach es X.env:=by rfl) (b:(backTo cpos^starEach es X.env).any (·.1)=r_:=by rfl):
  ax X (.Raise (P3^.Call (.Name x p) (e::es) [] cpos) p_ pos) (W0 C k1 k2 ta):=by
 intro v s Z H D R I h;refine Ln c d.hd ?_ λ_ _ z=>.inr z;refine hU^Dq I m n ?_ a;refine PySem.W.callWith_K I.ok.mod.kin c.kp (thn (ZH^o _ _ s Z H _ I h) λy B #[E,G,g,r,J,L,u,q]=>#[g.kIn,?_]) t b;subst u;exact Xi c i j F l d g r q
def QE(c:XC X.K nm C U)(g:PySem.W.findIn X.K (.ref C) "__init__"=P3^P3^.builtin "ValueError.__init__")(i:X.A.handled=p_)(j:Gl X x)(k:X.mg x=P3^.ref C)(l:PA X (e::es) ta)(a:(x==("__debug__":Str))=r_:=by cbv)(m:starEach (e::es) X.env=(r_,eval e X.env)::starEach es X.env:=by rfl)(b:(backTo cpos^starEach es X.env).any (·.1)=r_:=by rfl):
  ax X (.Raise (P3^.Call (.Name x p) (e::es) [] cpos) p_ pos) (W1 C ta):=by
 intro o s Z H D R I h;exact Ln c i (hU^Dq I j k (PySem.W.callWith_K I.ok.mod.kin c.kp (thn (ZH^l _ _ s Z H _ I h) λt u #[v,w,d,r,n,q]=>#[d.kIn,Xj c g d (by rw[gu,←r.length];exact n) q]) m b) a) λ_ _ z=>.inr z
def ZO(sp:Sp)(ta:TA):T1:=λR Z H Q=>ta Z H λa b=>sp a b Q R
def VH(F:CW X.prog X.w X.K X.mg X.base (Tt X.prog X.w) k f fd ps sp)(m:Room k X.A)(n:Gl X x)(o:X.mg x=P3^.ref f)(t:keepIn X.K^.ref f=q_)(v:Binds X.K fd ps [])
  (y:PA X (e::es) ta) (d:(x==("__debug__":Str))=r_:=by cbv) (z:starEach (e::es) X.env=(r_,eval e X.env)::starEach es X.env:=by rfl) (g:(backTo pos^starEach es X.env).any (·.1)=r_:=by rfl):
  c7 X (.Call (.Name x p) (e::es) [] pos) (ZO sp ta):=by
 intro B s Z H Q R I h;refine hU^Dq I n o ?_ d;refine PySem.W.callWith_K (h₀:=X.base) I.ok.mod.kin t (thn (ZH^y pos B s Z H _ I h) λa i #[j,l,b,r,q]=>#[b.kIn,?_]) z g;have D:(a++[]).length=ps.length:=by rw[gK,←r.length];exact F.len _ _ _ _ q
 have E:Vals j (a++[]):=by grind
 refine jP^jg (F.run X.A X.stack i l #[a,[]] (a++[]) j Q R m b.env0 (v i a b.kIn D) E q) λr J c=>?_;cases r with
 |error e=>exact .inr #[l,i,b,c]
 |ok G=>
  cases G with
  |ret u=>exact b.after c
  |next=>exact g8 c
  |brk=>exact g8 c
  |cont=>exact g8 c
def bG(i:Nat)(te:T1):YN:=λD R Z H=>te R Z H λv a=>D.nx (Z.set i^P3 v) a
def XH{i:Nat}{y:Str}{a:Pos}(b:X.N.Nodup)(c:X.N[i]?=P3 y)(d:Loc X.env.scope y)(g:c7 X e te)(j:swapsWith e (P3^.Name y a) pos.line X.env=pure r_:=by rfl)(k:X.fn y=q_\/X.env.scope.names.lookup y=P3 .local:=by first|exact .inl rfl|exact .inr rfl|assumption):
  ax X (.Assign [.Name y a] e pos) (bG i te):=λr s Z H D R I h=>wpAny_Assign_Name (thn (g _ s Z H _ R I h) λv t #[y,l,m,n,o]=>Eo m b c d n (λu q=>#[_,l,q,o]) k) j
end
def Cx.hush(X:Cx)(A:gc):Cx:={X with A:=A,calm:=r_,xe:=λ_ _=>False}
section
variable {X:Cx}{A:Around}{zH:s_ (Addr×Obj)}{Z:St}{H:Hp}{s:Shared}
def Inv.hush(I:Inv X zH Z H s)(a:A.frames=P3 X.stack):Inv (X.hush A) zH Z H s:=
 #[#[I.ok.mod,I.ok.kind,I.ok.glob,I.ok.blt,I.ok.above,I.ok.inj,I.ok.has,I.ok.cab,λz=>absurd (z) gR,a,I.ok.stk,I.ok.exf,I.ok.bs,I.ok.bsz,I.ok.noex,I.ok.exfs,I.ok.funs,I.ok.frf],I.os,I.bare,I.base,I.loc,I.cell,I.free,I.freeC,I.pin,I.hok,I.len]
def Inv.unhush(I:Inv (X.hush A) zH Z H s)(ok:X.Ok):Inv X zH Z H s:=#[ok,I.os,I.bare,I.base,I.loc,I.cell,I.free,I.freeC,I.pin,I.hok,I.len]
def Inv.track{a:Db}{o:HO}(I:Inv X zH Z H s)(n:H a=p_)(d:X.s₀.heap.objs.size<=a)(f:a≠X.env.locals)(g:∀x c,X.env.cells.lookup x=P3 c->c≠a)(h:∀p∈X.pn++zH,p.1≠a)(new:ObjOk X.prog X.w (A5 H a o) s.heap a o):
  Inv X zH Z (A5 H a o) s:=by
 have of:∀{b:Db}{u:HO},H b=P3 u->A5 H a o b=P3 u:=λ{b u} q=>by rw[AS λz=>by grind];exact q
 refine I.step (g':=s.gens) (d':=s.drawn) (t':=s.toks) (h':=s.heap) (ch:=[a]) (λb l=>?_) (λb o _ _ _ e _=>e) (λb o _ _ _ e _=>#[o.slots,e]) (λb o i _ m=>?_) (λb o _ e=>#[o,e]) (λb j e=>of e) (λb o j e=>of e) (λb r e=>#[#[],by grind]) (λm k=>k) (λb u e=>?_) I.bare
 .have e:b=a:=by grind
  subst e;exact#[.inr d,f,g,h]
 .rw[AS λz=>i^by simp[z]];exact m
 .by_cases z:b=a
  .subst z
   rw[Af]at e
   grind
  .rw[AS z]at e
   exact(I.hok b u e).stay (λ_ _ _ q=>q) (λ_ q=>of q) λ_ _ q=>of q
def Inv.gone{i:Nat}{x:Str}{v:t_ Ev}{m:Str->t_ Ev}{t:gI}{D:Nat}(I:Inv X zH Z H s)(E:X.N.Nodup)(F:X.N[i]?=P3 x)
  (G:∀(i:Nat) (x:Str) (v:V),X.N[i]?=P3 x->Z[i]?=P3^P3 v->Tz X.env.scope x->∃u,RelV v u/\Look X.env s.heap m x u)
  (J:t.Ns X.env.locals λy=>if y=x then v else m y) (a:jf X.env.locals s.heap t):Inv X zH (Z.set i p_) H {s with heap:=t,toks:=D}:=by
 have f:∀{b:Db}{o:Obj},X.s₀.heap.get? b=P3 o->b≠X.env.locals:=λ{b o} e=>gO^gW (Uf e) I.ok.above;refine#[I.ok,I.os,I.bare,#[λb o e n w l=>(a.2 b^f e).trans^I.base.keep b o e n w l,λb o e n w l=>?_,I.base.free,λb o e l=>?_,I.base.tups,I.base.frzs,I.base.tbls],#[_,J,λj y K g h L=>?_],λy c e=>?_,I.free,I.freeC,λp M=>?_,λb o e=>?_,by simpa using I.len]
 .let#[O,g]:=I.base.slot b o e n w l
  exact#[O,(a.2 b^f e).trans g]
 .let#[P,g]:=I.base.there b o e l
  exact#[P,(a.2 b^f e).trans g]
 .by_cases B:j=i
  .subst B
   rw[mN]at h
   split at h
   .split at h <;>cases h
   .rename_i z;exact absurd rfl z
  .rw[lG^g0 B]at h
   let#[Q,R,q]:=G j y K g h L;exists Q,R
   rcases q with⟨k,e⟩|⟨k,c,e,z⟩
   .refine .inl #[k,?_]
    have:y≠x:=λe=>B^KA E g (e▸F)
    simp[this,e]
   .exact .inr #[k,c,e,z.sameBut a^I.cne y c e]
 .let#[C,z]:=I.cell y c e
  exact#[C,z.sameBut a^I.cne y c e]
 .let#[e,n,f,S,d]:=I.pin p M
  exact#[(a.2 p.1 f).trans e,n,f,S,d]
 .refine(I.hok b o e).stay (λc C r q=>(a.2 c ?_).trans q) (λ_ q=>q) λ_ _ q=>q
  rintro rfl
  rcases r with rfl|r
  .rw[I.free]at e;cases e
  .rw[I.free]at r;cases r
end
def XT(C:Db)(c:t_ Db)(a:Db)(u:HO):Prop:=∃b d,u=.frz #[.ref C,c,.fields b,d]^.own a/\b[2]?=P3 .none
abbrev TH:=Ends->Db->t_ Db->St->Hp->Prop
def PH(X:Cx)(f:s_ kM)(t:TH):Prop:=
 ∀(b:s_ (Db×Obj)) (Z:St) (D:Ends) (a C:Db) (c:t_ Db) (B:gI) (d:Hp) (e:Go) (H:Hp) (s:Go),Inv X b Z d e->CXD X.prog X.w X.stack d e a C c B H s->t D C c Z H->
  wpAny (model X.prog X.w) X.A (handleBy (.ref a) X.env f) (SP X b D) X.xe s
section
variable {X:Cx}{i:Nat}{n x:Str}{np pos:Pos}{b₀:Stmt}{suite body:s_ Stmt}{rest:s_ ExceptHandler}{Dc U:Addr}{nm:Str}{th:TH}{ts:Addr->TS}{tb:YN}
def bL(K:Frag)(Dc:Db)(i:Nat)(ts:Db->TS)(th:TH):TH:=λD C d Z H=>∃nm U,XC K nm C U/\((C=Dc\/U=Dc)/\(∀a u,H a=p_->XT C d a u->ts a {nx:=λb c=>D.nx (b.set i p_) c,rt:=D.rt,bk:=λb c=>D.bk (b.set i p_) c,ct:=λb c=>D.ct (b.set i p_) c} (Z.set i^P3^.ref a)^A5 H a u)\/C≠Dc/\U≠Dc/\th D C d Z H)
def a9(K:Frag)(D:Db):Prop:=∃nm q N d c e f a g b h j k l m o,K.lookup D=P3^excClassObj nm q D N d c e f a g b h j k l m o "ValueError.__new__"/\c.contains^.type "BaseException"=q_
def XC.isX{K:Frag}{C:Db}(c:XC K nm C U):a9 K C:=by
 let#[q,N,a,b,d,f,g,h,j,k,l,m,o,e]:=c.obj;exact#[nm,q,N,a,_,_,b,_,f,_,h,j,k,l,m,o,e,by simp[Cw]]
def XC.isU{K:Frag}{C:Db}(c:XC K nm C U):a9 K U:=by
 let#[q,N,a,b,d,f,g,h,j,k,l,m,o,p,e]:=c.up;exact#[_,q,N,a,_,_,b,_,f,_,h,j,k,l,m,o,e,by simp[Cw]]
def Ig{C U D:Db}:(gE C::gE U::Cw).contains^.ref D=(decide (C=D)||decide (U=D)):=by
 simp only[List.contains_cons,Cw,List.contains_nil]
 have d:∀(a b:Db),(gE a==gE b)=decide (b=a):=λa b=>by
  grind
 have c:∀T,(gE D==jp T)=r_:=λT=>rfl;rw[d,d,c,c,c,c];simp
def XR(hN:X.N.Nodup)(hi:X.N[i]?=P3 n)(R:X.env.scope.names.lookup n=P3 .local)(hg:Gl X x)(hm:X.mg x=P3^.ref Dc)(hD:a9 X.K Dc)(a4:X.stack=X.env::X.outer)(a5:X.env.frame=P3 X.env.locals)
  (hs:∀a,PSs (X.hush^X.A.mark^P3^.ref a) (b₀::suite)^ts a) (o:PH X rest th) (hd:(x==("__debug__":Str))=r_:=by cbv):
  PH X (.ExceptHandler (P3^.Name x np) (P3 n) (b₀::suite) pos::rest) (bL X.K Dc i ts th):=by
 intro t Z D a C dx B H0 s0 H s I c h;let#[nm,U,xc,h]:=h;have J:=c.inv I;have E:(X.A.mark^P3^.ref a).frames=P3 X.stack:=I.ok.frames;have J':=J.hush E;refine wpAny_handleBy_cons (codeAny_handlers_test ?_) (by intro q;cases q);refine Dq (X:=X.hush^X.A.mark^P3^.ref a) J' hg hm ?_ hd;let#[a6,q',N',a7,a8,b0,b1,a2,b2,a3,b3,l0,l1,l2,l3,l5,eD,hB]:=hD;let#[q,N,bs,sn,b4,ab,b5,dd,k0,k1,k2,k3,k5,eC]:=xc.obj;let#[vs,sl,tb,hx,h2,h1,hT]:=c.fly.obj;let#[hh,g,dr,tk,os]:=s;refine Ta (J.kIn _ _ eC) (J.kIn _ _ eD) hB hx rfl ?_;rw[Ig]
 rcases h with⟨S,h⟩|⟨n1,n2,h⟩
 .have e:(decide (C=Dc)||decide (U=Dc))=q_:=by rcases S with z|z <;>simp[z]
  rw[e];refine codeAny_handlers_suite_as ?_;refine GH (s:=#[hh,g,dr,tk,os]) c.fly λh' f' u'=>?_;have c2:=c.step f' u';have J2:=c2.inv I;let#[F,G,b6,L,T,_]:=f'.obj
  have J3:Inv X t Z (A5 H a^.frz #[.ref C,dx,.fields F,G]^.own a) #[h',g,dr,tk,os]:=by
   refine J2.track c.free (gG I.sz c.new) (jC^gW I.lt c.new) (λy c' e z=>?_) (λp hp z=>?_) #[L,_,L]
   .let#[v,q]:=I.cell y c' e
    exact absurd (gW q.lt c.new)^by rw[z];exact gv _
   .exact absurd (gW (Uf (I.pin p hp).1) c.new)^by rw[z];exact gv _
  refine Eo J3 hN hi (.inl R) (v:=.ref a) (u:=.ref a) rfl (λs4 J4=>?_) (.inr R);have V:=hs a t s4 _ _ _ (J4.hush E)^h a _ c.free #[F,G,rfl,T];refine gq V (λf W O=>?_) λe W z=>z.elim
  have j:∀{k:St}{b:Hp}{P:St->Hp->Prop}{Q:Go->Prop},Inv (X.hush^X.A.mark^P3^.ref a) t k b W->P (k.set i p_) b->(∀l,Inv X t (k.set i p_) b l->Q l)->
    wpAny (model X.prog X.w) X.A (do bindName X.env n .none;unbindBehindTheSuite X.env n pos) (λ_ l=>Q l) X.xe W:=λ{k b P Q} d _ kq=>by
   let#[m,hn,Y]:=d.loc;refine wpAny_nameGoes_keeps (M:=model X.prog X.w) R hn (by show(X.env.scope.kind==.class||(X.env.scope.kind==.module&&X.env.locals !=X.env.globals))=r_;rw[I.ok.kind];rfl) λh6 v a0 a1=>?_;exact kq _^(d.unhush I.ok).gone hN hi Y a0 a1
  cases f with
  |next=>
   let#[k,b,d,q]:=O;exact j (P:=D.nx) d q λl r=>#[_,b,r,q]
  |brk=>
   let#[k,b,d,q]:=O;exact j (P:=D.bk) d q λl r=>#[_,b,r,q]
  |cont=>
   let#[k,b,d,q]:=O;exact j (P:=D.ct) d q λl r=>#[_,b,r,q]
  |ret u=>
   let#[v,k,b,d,rv,q]:=O;exact j (P:=λ_ b=>D.rt v b) d q λl r=>#[v,_,b,r,rv,q]
 .have e:(decide (C=Dc)||decide (U=Dc))=r_:=by simp[n1,n2]
  rw[e];exact o t Z D a C dx B H0 s0 H _ I c h
def ZK:TH:=λ_ _ _ _ _=>False
def Zf:PH X [] ZK:=λ_ _ _ _ _ _ _ _ _ _ _ _ _ h=>h.elim
def dk(tb:YN)(th:TH):TS:=λD Z H=>tb D (λC b c=>∃a,C=.ref a/\th D a b Z c) Z H
def Zd{b:kM}(d:X.stack=X.env::X.outer)(g:X.env.frame=P3 X.env.locals)(hx:∀e s,X.xe e s->False)(o:af X body tb)(p:PH X (b::rest) th):PS X (.Try body (b::rest) [] [] pos)^dk tb th:=by
 intro k s Z H D I h;refine wpAny_Try_except^gq (o k s Z H D _ I h) (λf l q=>?_) λe l q=>?_
 .cases f with
  |next=>exact jq q
  |_=>exact q
 .rcases q with q|⟨r,t,u,a,C,v,B,w,rfl,c,L,y,j⟩
  .grind
  .cases y
   have m:=c.fly;rw[d]at m;have fr:=I.ok.frames;rw[d]at fr;refine Oo fr g m λz A E=>?_;have F:=c.step (by grind) E;refine GH (s:={l with heap:=z}) A λM G J=>?_;have K:=F.step (by rw[d];exact G) J;exact p k Z D a C v B r t w _ u K j
end
end L2
namespace Dp
open L2
inductive D where
 |non|bl (b:Bool)|int (i:Int)|str (x:Str)|tup (xs:List D)|lst (xs:List D)|dic (ks:List Key) (xs:List D)|fdi (ks:List Key) (xs:List D)|dit (ks:List^List Key) (xs:List D)
 deriving Inhabited
def NdT(M:Db->Prop)(H:Hp)(a:Db)(b:s_ V):Prop:=H a=P3^.tup b
def NdL(M:Db->Prop)(H:Hp)(a:Db)(b:s_ V):Prop:=¬M a/\H a=P3^.lst b
def NdD(M:Db->Prop)(H:Hp)(a:Db)(b:s_ Key)(c:s_ V):Prop:=¬M a/\H a=P3^.dK^b.zip c
def NdF(M:Db->Prop)(H:Hp)(a:Db)(b:s_ Key)(c:s_ V):Prop:=∃o,¬M a/\H a=P3^.frz o^.dK^b.zip c
def NdU(M:Db->Prop)(H:Hp)(a:Db)(b:s_^s_ Key)(c:s_ V):Prop:=¬M a/\H a=P3^.dT^b.zip c
mutual
def At(K:Frag)(M:Db->Prop)(H:Hp):D->V->Prop
 |.non,v=>v=.non
 |.bl b,v=>v=.bl b
 |.int i,v=>v=.int i
 |.str x,v=>v=.str x/\x.length<=sizeLine
 |.tup ds,v=>∃a vs,v=.ref a/\NdT M H a vs/\Ats K M H ds vs
 |.lst ds,v=>∃a vs,v=.ref a/\NdL M H a vs/\Ats K M H ds vs
 |.dic ks ds,v=>∃a vs,v=.ref a/\NdD M H a ks vs/\ks.length=ds.length/\Ats K M H ds vs
 |.fdi ks ds,v=>∃a vs,v=.ref a/\NdF M H a ks vs/\ks.length=ds.length/\Ats K M H ds vs
 |.dit ks ds,v=>∃a vs,v=.ref a/\NdU M H a ks vs/\ks.length=ds.length/\Ats K M H ds vs
def Ats(K:Frag)(M:Db->Prop)(H:Hp):s_ D->s_ V->Prop
 |[],vs=>vs=[]
 |d::ds,vs=>∃v r,vs=v::r/\At K M H d v/\Ats K M H ds r
end
section
variable {K:Frag}{M M':Addr->Prop}{H H':Hp}{a:Addr}{vs:s_ V}{ks:s_ Key}
def NdT.sq(h:NdT M H a vs):SqT K H a vs:=.inl^.inl h
def NdL.sq(h:NdL M H a vs):SqL K H a vs:=.inl^.inl h.2
def Pres(M:Db->Prop)(H:Hp)(M':Db->Prop)(H':Hp):Prop:=(∀b o,H b=P3 o->¬M b->H' b=P3 o)/\(∀b,M' b->M b\/H b=p_)/\∀b vs,H b=P3^.tup vs->H' b=P3^.tup vs
def Pres.nd{u:HO}(p:Pres M H M' H')(n:¬M a)(h:H a=P3 u):¬M' a/\H' a=P3 u:=by
 refine#[λz=>?_,p.1 _ _ h n]
 rcases p.2.1 a z with z|z
 .exact n z
 grind
def NdT.pres(p:Pres M H M' H')(h:NdT M H a vs):NdT M' H' a vs:=p.2.2 _ _ h
def NdL.pres(p:Pres M H M' H')(h:NdL M H a vs):NdL M' H' a vs:=p.nd h.1 h.2
def NdD.pres(p:Pres M H M' H')(h:NdD M H a ks vs):NdD M' H' a ks vs:=p.nd h.1 h.2
def NdU.pres{ks:s_^s_ Key}(p:Pres M H M' H')(h:NdU M H a ks vs):NdU M' H' a ks vs:=p.nd h.1 h.2
def NdF.pres(p:Pres M H M' H')(h:NdF M H a ks vs):NdF M' H' a ks vs:=let #[o,b,c]:=h;#[o,p.nd b c]
mutual
theorem At.pres(p:Pres M H M' H'):∀{d:D}{v:V},At K M H d v->At K M' H' d v
 |.non,v,h=>h
 |.bl b,v,h=>h
 |.int i,v,h=>h
 |.str x,v,h=>h
 |.tup ds,v,h=>by
  let#[a,vs,e,hn,hs]:=h;exact#[a,vs,e,hn.pres p,Ats.pres p hs]
 |.lst ds,v,h=>by
  let#[a,vs,e,hn,hs]:=h;exact#[a,vs,e,hn.pres p,Ats.pres p hs]
 |.dic ks ds,v,h=>by
  let#[a,vs,e,hn,hl,hs]:=h;exact#[a,vs,e,hn.pres p,hl,Ats.pres p hs]
 |.fdi ks ds,v,h=>by
  let#[a,vs,e,hn,hl,hs]:=h;exact#[a,vs,e,hn.pres p,hl,Ats.pres p hs]
 |.dit ks ds,v,h=>by
  let#[a,vs,e,hn,hl,hs]:=h;exact#[a,vs,e,hn.pres p,hl,Ats.pres p hs]
theorem Ats.pres(p:Pres M H M' H'):∀{ds:s_ D}{vs:s_ V},Ats K M H ds vs->Ats K M' H' ds vs
 |[],vs,h=>h
 |d::ds,vs,h=>by
  let#[v,r,e,h1,h2]:=h;exact#[v,r,e,At.pres p h1,Ats.pres p h2]
end
def Pres.trans{M1 M2 d:Db->Prop}{c H2 f:Hp}(p:Pres M1 c M2 H2)(q:Pres M2 H2 d f):Pres M1 c d f:=by
 refine#[λb o e n=>?_,λb z=>?_,λb vs e=>q.2.2 b vs^p.2.2 b vs e]
 .refine q.1 b o (p.1 b o e n) λz=>?_
  rcases p.2.1 b z with z|z
  .exact n z
  grind
 .rcases q.2.1 b z with z|z
  .exact p.2.1 b z
  .cases e:c b with
   |none=>grind
   |some o=>
    by_cases n:M1 b
    .exact .inl n
    .rw[p.1 b o e n]at z;cases z
def Pres.refl(M:Db->Prop)(H:Hp):Pres M H M H:=#[λ_ _ e _=>e,λ_ z=>.inl z,λ_ _ e=>e]
def Pres.less(h:∀b,M' b->M b):Pres M H M' H:=#[λ_ _ e _=>e,λb z=>.inl^h b z,λ_ _ e=>e]
theorem Ats.length:∀{b:s_ D}{vs:s_ V},Ats K M H b vs->vs.length=b.length
 |[],vs,h=>by cases h;rfl
 |d::b,vs,h=>by
  let#[v,r,e,f,c]:=h;subst e;rw[gB,gB,Ats.length c]
theorem Ats.get:∀{b:s_ D}{vs:s_ V}{i:Nat}{d:D},Ats K M H b vs->b[i]?=P3 d->∃v,vs[i]?=P3 v/\At K M H d v
 |[],vs,i,d,h,e=>by simp at e
 |f::b,vs,0,d,h,e=>by
  let#[v,r,g,j,c]:=h
  simp_all
 |f::b,vs,i+1,d,h,e=>by
  let#[v,r,g,j,c]:=h;let#[u,k,l]:=Ats.get c^by simpa using e
  simp_all
theorem Ats.append:∀{f b:s_ D}{vs c:s_ V},Ats K M H f vs->Ats K M H b c->Ats K M H (f++b) (vs++c)
 |[],b,vs,c,h,g=>by cases h;exact g
 |d::f,b,vs,c,h,g=>by
  let#[v,r,e,i,j]:=h;subst e;exact#[v,_,rfl,i,Ats.append j g]
theorem Ats.drop:∀{b:s_ D}{vs:s_ V} (n:Nat),Ats K M H b vs->Ats K M H (b.drop n)^vs.drop n
 |b,vs,0,h=>h
 |[],vs,n+1,h=>by cases h;exact rfl
 |d::b,vs,n+1,h=>by
  let#[v,r,e,f,c]:=h;subst e;exact Ats.drop n c
theorem Ats.take:∀{b:s_ D}{vs:s_ V} (n:Nat),Ats K M H b vs->Ats K M H (b.take n)^vs.take n
 |b,vs,0,h=>rfl
 |[],vs,n+1,h=>by cases h;exact rfl
 |d::b,vs,n+1,h=>by
  let#[v,r,e,c,f]:=h;subst e;exact#[v,_,rfl,c,Ats.take n f]
def Ats.one{d:D}{v:V}(h:At K M H d v):Ats K M H [d] [v]:=#[v,[],rfl,h,rfl]
theorem Ats.eraseIdx:∀{b:s_ D}{vs:s_ V} (i:Nat),Ats K M H b vs->Ats K M H (b.eraseIdx i)^vs.eraseIdx i
 |[],vs,i,h=>by cases h;exact rfl
 |f::b,vs,0,h=>by
  let#[u,r,c,d,e]:=h
  grind
 |f::b,vs,i+1,h=>by
  let#[u,r,c,d,e]:=h;subst c;exact#[u,_,rfl,d,Ats.eraseIdx i e]
theorem Ats.reverse:∀{b:s_ D}{vs:s_ V},Ats K M H b vs->Ats K M H b.reverse vs.reverse
 |[],vs,h=>by cases h;exact rfl
 |d::b,vs,h=>by
  let#[v,r,e,c,f]:=h;subst e;rw[j3,j3];exact Ats.append (Ats.reverse f)^Ats.one c
end
inductive Kd where
 |sh|tp|fr
def Tops(K:Frag)(M:Db->Prop)(H:Hp)(a:Db):D->Prop
 |.lst c=>∃b,H a=P3^.lst b/\Ats K M H c b
 |.dic d c=>∃b,H a=P3^.dK^d.zip b/\d.length=c.length/\Ats K M H c b
 |.dit d c=>∃b,H a=P3^.dT^d.zip b/\d.length=c.length/\Ats K M H c b
 |_=>False
def Tops.notT{K:Frag}{M:Db->Prop}{H:Hp}{a:Db}{d:D}(h:Tops K M H a d){f:s_ V}:H a≠P3^.tup f:=λq=>by
 cases d with
 |lst b=>let#[c,e,_]:=h;grind
 |dic g b=>let#[c,e,_]:=h;grind
 |dit g b=>let#[c,e,_]:=h;grind
 |_=>exact h.elim
def Tops.pres{K:Frag}{M j:Db->Prop}{H g:Hp}{a:Db}{d:D}(h:Tops K M H a d)(p:Pres M H j g)(e:∀o,H a=P3 o->g a=P3 o):Tops K j g a d:=by
 cases d with
 |lst k=>let#[b,c,f]:=h;exact#[b,e _ c,f.pres p]
 |dic l k=>let#[b,c,f,i]:=h;exact#[b,e _ c,f,i.pres p]
 |dit l k=>let#[b,c,f,i]:=h;exact#[b,e _ c,f,i.pres p]
 |_=>assumption
def Tops.at{K:Frag}{M:Db->Prop}{H:Hp}{a:Db}{d:D}(h:Tops K M H a d)(n:¬M a):At K M H d^.ref a:=by
 cases d with
 |lst g=>let#[b,c,e]:=h;exact#[a,b,rfl,#[n,c],e]
 |dic i g=>let#[b,c,e,f]:=h;exact#[a,b,rfl,#[n,c],e,f]
 |dit i g=>let#[b,c,e,f]:=h;exact#[a,b,rfl,#[n,c],e,f]
 |_=>exact(h).elim
def AtT(K:Frag)(U:Db->Prop)(M:Db->Prop)(H:Hp):D->V->Prop
 |.lst c,v=>∃a b,v=.ref a/\¬U a/\Rd H a^.lst b/\Ats K M H c b
 |.dic e c,v=>∃a b,v=.ref a/\¬U a/\H a=P3^.dK^e.zip b/\e.length=c.length/\Ats K M H c b
 |.dit e c,v=>∃a b,v=.ref a/\¬U a/\H a=P3^.dT^e.zip b/\e.length=c.length/\Ats K M H c b
 |d,v=>At K M H d v
def Tops.att{K:Frag}{U M:Db->Prop}{H:Hp}{a:Db}{d:D}(h:Tops K M H a d)(n:¬U a):AtT K U M H d^.ref a:=by
 cases d with
 |lst g=>let#[b,c,e]:=h;exact#[a,b,rfl,n,.inl c,e]
 |dic i g=>let#[b,c,e,f]:=h;exact#[a,b,rfl,n,c,e,f]
 |dit i g=>let#[b,c,e,f]:=h;exact#[a,b,rfl,n,c,e,f]
 |_=>exact(h).elim
def VR(K:Frag)(U:Db->Prop)(M:Db->Prop)(H c:Hp):Kd->V->D->Prop
 |.sh,v,d=>At K M c d v
 |.tp,v,d=>AtT K U M c d v
 |.fr,v,d=>∃a,v=.ref a/\H a=p_/\Tops K (λb=>M b\/b=a) c a d
def FeedOk(K:Frag)(M:Db->Prop)(H:Hp)(f:Db×Db)(n:Nat):Prop:=
 ∃(at_ b:Int) (a:s_ Int),H f.1=P3^.lst [.ref f.2,.int at_,.int b]/\f.2≠f.1/\NdL M H f.2^a.map V.int/\a.length<=63/\0<=at_/\at_+n<=2 ^ 60
def FeedC(K:Frag)(F:t_ (Db×Db))(M:Db->Prop)(H:Hp)(n:Nat):Prop:=∀f,F=P3 f->FeedOk K M H f n
def Ext(U:Db->Prop)(H c:Hp):Prop:=∀b o,H b=P3 o->∃a,c b=P3 a/\(¬U b->a=o)/\∀d,o=.tup d->a=o
def Ext.keep{U:Db->Prop}{H a:Hp}(p:Ext U H a){b:Db}{o:HO}(e:H b=P3 o)(n:¬U b):a b=P3 o:=by
 let#[c,q,r,_]:=p b o e;rw[q,r n]
def Ext.tup{U:Db->Prop}{H a:Hp}(p:Ext U H a){b:Db}{c:s_ V}(e:H b=P3^.tup c):a b=P3^.tup c:=by
 let#[d,q,_,r]:=p b _ e
 grind
def Ext.free{U:Db->Prop}{H a:Hp}(p:Ext U H a){b:Db}(e:a b=p_):H b=p_:=by
 cases q:H b with
 |none=>rfl
 |some o=>
  let#[c,z,_]:=p b o q
  grind
def Ext.refl(U:Db->Prop)(H:Hp):Ext U H H:=λ_ o e=>#[o,e,λ_=>rfl,λ_ _=>rfl]
def Ext.trans{U:Db->Prop}{c H2 d:Hp}(p:Ext U c H2)(q:Ext U H2 d):Ext U c d:=λb o e=>by
 let#[g,h,i,f]:=p b o e;let#[j,k,l,m]:=q b g h;exact#[j,k,λn=>(l n).trans^i n,λa z=>(m a^(f a z).trans z).trans^f a z]
def Grow(H a:Hp):Prop:=a=H\/∃p o,H p=p_/\a=A5 H p o
def Grow.all{H a:Hp}(g:Grow H a):∀b o,H b=P3 o->a b=P3 o:=by
 intro b o e
 rcases g with rfl|⟨p,u,n,rfl⟩
 .exact e
 .rw[AS^A6 e n];exact e
def Grow.refl{H:Hp}:Grow H H:=.inl rfl
def Grow.ext{U:Db->Prop}{H a:Hp}(g:Grow H a):Ext U H a:=λb o e=>#[o,g.all b o e,λ_=>rfl,λ_ _=>rfl]
def Grow.pres{M:Db->Prop}{H a:Hp}(g:Grow H a):Pres M H M a:=#[λb o e _=>g.all b o e,λ_ z=>.inl z,λb c e=>g.all b _ e]
def FeedOk.pres{K:Frag}{M c:Db->Prop}{H b:Hp}{f:Db×Db}{n:Nat}(h:FeedOk K M H f n)(p:Pres M H c b)(e:∀o,H f.1=P3 o->b f.1=P3 o):FeedOk K c b f n:=by
 let#[a,r,d,g,i,j,k]:=h;exact#[a,r,d,e _ g,i,j.pres p,k]
def FeedC.pres{K:Frag}{F:t_ (Db×Db)}{M b:Db->Prop}{H a:Hp}{n:Nat}(h:FeedC K F M H n)(p:Pres M H b a)(e:∀f o,F=P3 f->H f.1=P3 o->a f.1=P3 o):FeedC K F b a n:=λf c=>(h f c).pres p λo q=>e f o c q
def FeedC.grow{K:Frag}{F:t_ (Db×Db)}{M:Db->Prop}{H a:Hp}{n:Nat}(h:FeedC K F M H n)(g:Grow H a):FeedC K F M a n:=h.pres g.pres λf o _ e=>g.all _ o e
def FeedC.more{K:Frag}{F:t_ (Db×Db)}{M:Db->Prop}{H:Hp}{n:Nat}(h:FeedC K F M H n)(a:Db)(e:∀f,F=P3 f->f.2≠a):FeedC K F (λb=>M b\/b=a) H n:=λf c=>by
 let#[x,r,g,i,j,d,k]:=h f c;exact#[x,r,g,i,j,#[λz=>z.elim d.1^e f c,d.2],k]
def AtX(K:Frag)(M:Db->Prop)(H:Hp)(a:Db)(g:Str)(b:s_ Str)(f:s_ D):Prop:=∃C U c u e,XC K g C U/\(¬M a/\H a=P3 u)/\XT C c a u/\(c=p_/\b=[]/\e=[]\/∃d,c=P3 d/\¬M d/\H d=P3^.ext^XF d^b.zip e)/\b.length=f.length/\Ats K M H f e
def AtX.pres{K:Frag}{M b:Db->Prop}{H e:Hp}{a:Db}{f:Str}{g:s_ Str}{i:s_ D}(h:AtX K M H a f g i)(p:Pres M H b e):AtX K b e a f g i:=by
 let#[C,U,j,u,k,c,#[n,l],x,m,o,q]:=h;refine#[C,U,j,u,k,c,p.nd n l,x,?_,o,q.pres p]
 rcases m with z|⟨d,r,s,t⟩
 .exact .inl z
 .exact .inr #[d,r,p.nd s t]
inductive Slot where
 |no|sh (d:D)|br (d:D)|fd|ow (d:D)|lt (a:Db) (d:D)|ex (a:Db) (nm:Str) (ks:List Str) (ds:List D)
def Slot.owns:Slot->Bool
 |.ow _=>q_
 |.lt _ _=>q_
 |_=>r_
def SlotOk(K:Frag)(F:t_ (Db×Db))(U:Db->Prop)(M:Db->Prop)(H:Hp):Slot->t_ V->Prop
 |.no,_=>True
 |.sh d,o=>∃v,o=P3 v/\At K M H d v
 |.br d,o=>∃v,o=P3 v/\AtT K U M H d v
 |.fd,o=>∃f,o=P3^.ref f.1/\F=P3 f
 |.ow d,o=>∃a,o=P3^.ref a/\M a/\¬U a/\Tops K M H a d
 |.lt a d,o=>o=P3^.ref a/\M a/\¬U a/\Tops K M H a d
 |.ex a b c e,o=>o=P3^.ref a/\AtX K M H a b c e
structure Fm where
 M0:Db->Prop
 F:Option (Db×Db)
 U:Db->Prop
 V:Db->Prop
 H0:Hp
 zH:List ((Db->Prop)×Hp)
 kp:List (Db×HO)
def Apart(b:s_ Slot)(Z:L2.St):Prop:=∀(i j:Nat) (s t:Slot) (a:Db),b[i]?=P3 s->s.owns=q_->b[j]?=P3 t->t.owns=q_->(Z[i]?).getD p_=P3^.ref a->(Z[j]?).getD p_=P3^.ref a->i=j
structure Rel (K:Frag) (C:Fm) (M:Db->Prop) (H:Hp) (n:Nat) (ρ:List Slot) (Z:L2.St):Prop where
 len:ρ.length=Z.length
 sub:∀a,C.M0 a->M a
 dom:∀a,M a->∃o,H a=P3 o
 ext:Ext C.U C.H0 H
 fU:∀f,C.F=P3 f->C.U f.1
 uV:∀a,C.U a->C.V a
 vM:∀a,C.V a->M a
 feed:FeedC K C.F M H n
 sl:∀(i:Nat) (s:Slot),ρ[i]?=P3 s->SlotOk K C.F C.V M H s ((Z[i]?).getD p_)
 pin:∀p∈C.zH,Pres p.1 p.2 M H
 br0:∀(i:Nat) (d:D) (a:Db),ρ[i]?=P3^.br d->(Z[i]?).getD p_=P3^.ref a->∃o,C.H0 a=P3 o
 new:∀(i:Nat) (s:Slot) (a:Db),ρ[i]?=P3 s->s.owns=q_->(Z[i]?).getD p_=P3^.ref a->¬C.M0 a/\C.H0 a=p_
 two:Apart ρ Z
 kept:∀p∈C.kp,H p.1=P3 p.2/\M p.1/\¬C.V p.1/\∀(i:Nat) (d:D),ρ[i]?=P3^.ow d->(Z[i]?).getD p_≠P3^.ref p.1
section
variable {K:Frag}{C:Fm}{M:Addr->Prop}{H H':Hp}{n n':Nat}{ρ:s_ Slot}{Z:L2.St}{d:D}{v:V}{κ:Kd}
def Rel.pres(R:Rel K C M H n ρ Z)(e:Ext C.U H H'):Pres M H M H':=#[λb o q a=>e.keep q λz=>a^R.vM b^R.uV b z,λ_ z=>.inl z,λb c q=>e.tup q]
def AtT.pres{U q:Db->Prop}{s:Db->Prop}(h:AtT K q M H d v)(p:Pres M H s H')(e:Ext U H H')(l:∀a,U a->q a):AtT K q s H' d v:=by
 cases d with
 |lst m=>
  let#[a,g,j,c,f,k]:=h;refine#[a,g,j,c,?_,k.pres p]
  rcases f with f|⟨o,f⟩
  .exact .inl^e.keep f λz=>c^l a z
  .exact .inr #[o,e.keep f λz=>c^l a z]
 |dic t m=>
  let#[a,g,j,c,f,r,k]:=h;exact#[a,g,j,c,e.keep f λz=>c^l a z,r,k.pres p]
 |dit t m=>
  let#[a,g,j,c,f,r,k]:=h;exact#[a,g,j,c,e.keep f λz=>c^l a z,r,k.pres p]
 |non=>assumption
 |bl b=>assumption
 |int i=>assumption
 |str x=>assumption
 |tup m=>exact At.pres p h
 |fdi t m=>exact At.pres p h
def AtT.same{U r:Db->Prop}{s:Db->Prop}(h:AtT K U M H d v)(p:Pres M H s H')(e:∀a o,v=.ref a->H a=P3 o->H' a=P3 o)(m:∀a,v=.ref a->¬U a->¬r a):AtT K r s H' d v:=by
 cases d with
 |lst l=>
  let#[a,g,c,j,f,k]:=h;refine#[a,g,c,m a c j,?_,k.pres p]
  rcases f with f|⟨o,f⟩
  .exact .inl^e a _ c f
  .exact .inr #[o,e a _ c f]
 |dic t l=>
  let#[a,g,c,j,f,q,k]:=h;exact#[a,g,c,m a c j,e a _ c f,q,k.pres p]
 |dit t l=>
  let#[a,g,c,j,f,q,k]:=h;exact#[a,g,c,m a c j,e a _ c f,q,k.pres p]
 |non=>assumption
 |bl b=>assumption
 |int i=>assumption
 |str x=>assumption
 |tup l=>exact At.pres p h
 |fdi t l=>exact At.pres p h
def AtT.lies{U:Db->Prop}{a:Db}(h:AtT K U M H d^.ref a):∃o,H a=P3 o:=by
 cases d with
 |lst f=>
  let#[b,g,e,_,c,_]:=h;cases e
  rcases c with c|⟨o,c⟩
  .exact#[_,c]
  grind
 |dic j f=>
  let#[b,g,e,_,c,_]:=h
  grind
 |dit j f=>
  let#[b,g,e,_,c,_]:=h
  grind
 |non=>cases(h)
 |bl b=>cases(h)
 |int i=>cases(h)
 |str x=>cases(h).1
 |tup f=>
  let#[b,g,e,c,_]:=h;cases e;exact#[_,c]
 |fdi j f=>
  let#[b,g,e,#[o,_,c],_]:=h
  simp_all
def SlotOk.pres{F:t_ (Db×Db)}{U g i:Db->Prop}{s:Slot}{o:t_ V}(h:SlotOk K F g M H s o)(p:Pres M H i H')(m:∀a,M a->i a)(e:Ext U H H')(j:∀a,U a->g a):SlotOk K F g i H' s o:=by
 cases s with
 |no=>trivial
 |sh d=>let#[v,b,c]:=h;exact#[v,b,c.pres p]
 |ex a l r t=>let#[b,c]:=h;exact#[b,c.pres p]
 |br d=>let#[v,b,c]:=h;exact#[v,b,c.pres p e j]
 |fd=>exact h
 |ow d=>let#[a,b,c,f,k]:=h;exact#[a,b,m a c,f,k.pres p λo q=>e.keep q λz=>f^j a z]
 |lt a d=>let#[b,c,f,k]:=h;exact#[b,m a c,f,k.pres p λo q=>e.keep q λz=>f^j a z]
def Rel.step(R:Rel K C M H n ρ Z)(e:Ext C.U H H')(f:FeedC K C.F M H' n'):Rel K C M H' n' ρ Z:=by
 have p:=R.pres e;refine#[R.len,R.sub,λa z=>?_,R.ext.trans e,R.fU,R.uV,R.vM,f,λi s q=>(R.sl i s q).pres p (λ_ z=>z) e R.uV,λq b=>(R.pin q b).trans p,R.br0,R.new,R.two,λq b=>?_]
 .let#[o,c]:=R.dom a z
  let#[k,g,_]:=e a o c
  grind
 .let#[c,g,h,j]:=R.kept q b
  exact#[e.keep c λz=>h^R.uV _ z,g,h,j]
def Rel.udom(R:Rel K C M H n ρ Z):∀a,C.U a->∃o,H a=P3 o:=λa z=>R.dom a^R.vM a^R.uV a z
def At.tp{U:Db->Prop}(k:∀a,U a->M a)(h:At K M H d v):AtT K U M H d v:=by
 cases d with
 |lst j=>
  let#[a,f,e,c,g]:=h;exact#[a,f,e,λz=>c.1^k a z,.inl c.2,g]
 |dic m j=>
  let#[a,f,e,c,l,g]:=h;exact#[a,f,e,λz=>c.1^k a z,c.2,l,g]
 |dit m j=>
  let#[a,f,e,c,l,g]:=h;exact#[a,f,e,λz=>c.1^k a z,c.2,l,g]
 |non=>exact h
 |bl b=>exact h
 |int i=>exact h
 |str x=>exact h
 |tup j=>exact h
 |fdi m j=>exact h
def VR.back{U b:Db->Prop}{c:Hp}(e:Ext U H c)(h:VR K b M c H' κ v d):VR K b M H H' κ v d:=by
 cases κ with
 |sh=>exact h
 |tp=>exact h
 |fr=>
  let#[a,f,g,i]:=h;exact#[a,f,e.free g,i]
def VR.shOf{U:Db->Prop}(b:∀a,M a->∃o,H a=P3 o)(h:VR K U M H H' κ v d)(e:κ≠.tp):At K M H' d v:=by
 cases κ with
 |sh=>exact h
 |tp=>grind
 |fr=>
  let#[a,rfl,f,c]:=h;refine(c.pres (Pres.less λ_ z=>.inl z) λ_ z=>z).at λz=>?_
  grind
def VR.tpOf{U:Db->Prop}(b:∀a,M a->∃o,H a=P3 o)(c:∀a,U a->M a)(h:VR K U M H H' κ v d):AtT K U M H' d v:=by
 cases κ with
 |sh=>exact At.tp c h
 |tp=>exact h
 |fr=>exact At.tp c^VR.shOf b h^by grind
def Dt{a:Type}{l:s_ a}{i j:Nat}{x y:a}(h:(l.set i x)[j]?=P3 y):(j=i/\i<l.length/\y=x)\/(j≠i/\l[j]?=P3 y):=by
 rw[mN]at h
 by_cases e:i=j
 .simp_all
 .rw[if_neg e]at h
  exact .inr #[λz=>e z.symm,h]
def GB{l:L2.St}{i j:Nat}{x:t_ V}(h:j≠i):((l.set i x)[j]?).getD p_=(l[j]?).getD p_:=by
 rw[mN,if_neg λz=>h z.symm]
def P0{l:L2.St}{i:Nat}{x:t_ V}(h:i<l.length):((l.set i x)[i]?).getD p_=x:=by
 simp_all
def Rel.set(R:Rel K C M H n ρ Z){i:Nat}(h:At K M H d v):Rel K C M H n (ρ.set i^.sh d)^Z.set i^P3 v:=by
 have b:∀(j:Nat) (s:Slot),(ρ.set i^.sh d)[j]?=P3 s->s.owns=q_->ρ[j]?=P3 s/\((Z.set i^P3 v)[j]?).getD p_=(Z[j]?).getD p_:=λj s q o=>by
  rcases Dt q with⟨_,_,rfl⟩|⟨f,q⟩
  .cases o
  .exact#[q,GB f]
 refine#[by rw[iz,iz];exact R.len,R.sub,R.dom,R.ext,R.fU,R.uV,R.vM,R.feed,λj s q=>?_,R.pin,λj e a q c=>?_,λj s a q o c=>?_,λj k s t a g m c r u w=>?_,λp x=>?_]
 .rcases Dt q with⟨rfl,y,rfl⟩|⟨f,q⟩
  .rw[P0^by rw[←R.len];exact y]
   exact#[v,rfl,h]
  .rw[GB f]
   exact R.sl j s q
 .rcases Dt q with⟨_,_,e⟩|⟨f,q⟩
  .cases e
  .rw[GB f]at c
   exact R.br0 j e a q c
 .let#[g,e]:=b j s q o
  rw[e]at c;exact R.new j s a g o c
 .let#[z,A]:=b j s g m
  let#[B,l]:=b k t c r;rw[A]at u;rw[l]at w;exact R.two j k s t a z m B r u w
 .let#[D,E,F,G]:=R.kept p x
  refine#[D,E,F,λj e q=>?_];let#[g,l]:=b j _ q rfl;rw[l];exact G j e g
def Rel.owner(R:Rel K C M H n ρ Z){i:Nat}{s:Slot}(h:ρ[i]?=P3 s)(o:s.owns=q_):∃a e,(Z[i]?).getD p_=P3^.ref a/\M a/\¬C.V a/\Tops K M H a e/\¬C.M0 a/\C.H0 a=p_:=by
 have q:=R.sl i s h;cases s with
 |ow d=>let#[a,b,c,f,g]:=q;exact#[a,d,b,c,f,g,R.new i _ a h o b]
 |lt a d=>let#[b,c,f,g]:=q;exact#[a,d,b,c,f,g,R.new i _ a h o b]
 |_=>cases o
def Rel.setOw(R:Rel K C M H n ρ Z){i:Nat}{a:Db}(e:Ext C.U H H')(f:FeedC K C.F M H' n')(G:H a=p_)(h:Tops K (λb=>M b\/b=a) H' a d):
  Rel K C (λb=>M b\/b=a) H' n' (ρ.set i^.ow d) (Z.set i^P3^.ref a):=by
 have J:=R.step e f
 have I:∀b,M b->b≠a:=λb z q=>by
  let#[o,w]:=R.dom b z;rw[q,G]at w;cases w
 have X:¬C.M0 a/\C.H0 a=p_:=#[λz=>I a (R.sub a z) rfl,R.ext.free G];have P:Pres M H (λb=>M b\/b=a) H':=#[λb o q Y=>e.keep q λz=>Y^R.vM b^R.uV b z,λb z=>z.elim .inl λz=>.inr (by rw[z];exact G),λb L q=>e.tup q]
 have r:∀(j:Nat) (s:Slot),(ρ.set i^.ow d)[j]?=P3 s->(j=i/\s=.ow d/\((Z.set i^P3^.ref a)[j]?).getD p_=P3^.ref a)\/(j≠i/\ρ[j]?=P3 s/\((Z.set i^P3^.ref a)[j]?).getD p_=(Z[j]?).getD p_):=λj s q=>by
  rcases Dt q with⟨rfl,hl,rfl⟩|⟨A,q⟩
  .exact .inl #[rfl,rfl,P0^by rw[←R.len];exact hl]
  .exact .inr #[A,q,GB A]
 have D:∀(j:Nat) (s:Slot) (b:Db),ρ[j]?=P3 s->s.owns=q_->(Z[j]?).getD p_=P3^.ref b->b≠a:=λj s b q o z=>by
  let#[c,_,l,m,_]:=R.owner q o;rw[l]at z;cases z;exact I _ m
 have hd:∃o,H' a=P3 o:=by
  cases d with
  |lst Q=>let#[L,q,_]:=h;exact#[_,q]
  |dic ks Q=>let#[L,q,_]:=h;exact#[_,q]
  |dit ks Q=>let#[L,q,_]:=h;exact#[_,q]
  |_=>exact(show False from h).elim
 refine#[by rw[iz,iz];exact R.len,λb z=>.inl^R.sub b z,λb z=>?_,J.ext,R.fU,R.uV,λb z=>.inl^R.vM b z,f.more a λg hg q=>?_,λj s q=>?_,λq hq=>(R.pin q hq).trans P,λj x b q u=>?_,λj s b q o u=>?_,λj k s t b y S u T E B=>?_,λp hp=>?_]
 .rcases z with z|z
  .exact J.dom b z
  .rw[z];exact hd
 .let#[_,_,_,_,_,N,_]:=R.feed g hg
  have:=N.2
  rw[q,G]at this;cases this
 .rcases r j s q with⟨rfl,rfl,l⟩|⟨A,y,l⟩
  .rw[l]
   exact#[a,rfl,.inr rfl,λz=>I a (R.vM a z) rfl,h]
  .rw[l]
   exact(R.sl j s y).pres P (λ_ z=>.inl z) e R.uV
 .rcases r j _ q with⟨_,l,_⟩|⟨A,y,l⟩
  .cases l
  .rw[l]at u
   exact R.br0 j x b y u
 .rcases r j s q with⟨_,_,l⟩|⟨A,y,l⟩
  .rw[l]at u
   cases u;exact X
  .rw[l]at u
   exact R.new j s b y o u
 .rcases r j s y with⟨rfl,_,l⟩|⟨A,V,l⟩
  .rw[l]at E
   cases E
   rcases r k t u with⟨rfl,_,_⟩|⟨hk,O,x⟩
   .rfl
   .rw[x]at B
    exact absurd rfl (D k t a O T B)
  .rw[l]at E
   rcases r k t u with⟨rfl,_,x⟩|⟨hk,O,x⟩
   .rw[x]at B
    cases B;exact absurd rfl (D j s a V S E)
   .rw[x]at B
    exact R.two j k s t b V S O T E B
 .let#[h1,W,N,h4]:=J.kept p hp
  refine#[h1,.inl W,N,λj x q=>?_]
  rcases r j _ q with⟨_,_,l⟩|⟨A,y,l⟩
  .rw[l]
   intro z;cases z;exact I _ W rfl
  .rw[l]
   exact h4 j x y
def Rel.mut(R:Rel K C M H n ρ Z){i:Nat}{a:Db}{e:D}{o:HO}(E:ρ[i]?=P3^.ow d)(N:(Z[i]?).getD p_=P3^.ref a)(h:Tops K M (A5 H a o) a e):
  Rel K C M (A5 H a o) n (ρ.set i^.ow e) Z:=by
 let#[b,_,c,m,U,t,n0,V]:=R.owner E rfl;rw[N]at c;cases c;have F:Pres M H M^A5 H a o:=#[λb A q Y=>by rw[AS λz=>Y^by rw[z];exact m];exact q,λ_ z=>.inl z,λb vs q=>by rw[AS λz=>t.notT^by rw[←z];exact q];exact q]
 have l:∀(j:Nat) (s:Slot),(ρ.set i^.ow e)[j]?=P3 s->(j=i/\s=.ow e)\/(j≠i/\ρ[j]?=P3 s):=λj s q=>by
  rcases Dt q with⟨rfl,hl,rfl⟩|⟨y,q⟩
  .exact .inl #[rfl,rfl]
  .exact .inr #[y,q]
 have I:∀(j:Nat) (s:Slot) (b:Db),j≠i->ρ[j]?=P3 s->s.owns=q_->(Z[j]?).getD p_=P3^.ref b->b≠a:=λj s b y q o z w=>by
  subst w;exact y (R.two j i s _ b q o E rfl z N)
 refine#[by rw[iz];exact R.len,R.sub,λb z=>?_,λb A q=>?_,R.fU,R.uV,R.vM,R.feed.pres F λf A hf q=>?_,λj s q=>?_,λq hq=>(R.pin q hq).trans F,λj O b q g=>?_,λj s b q G g=>?_,λj k s t b u W g G P Q=>?_,λp hp=>?_]
 .by_cases B:b=a
  .exact#[o,by rw[B,Af]]
  .let#[A,q]:=R.dom b z
   exact#[A,by rw[AS B];exact q]
 .let#[G,g,r]:=R.ext b A q
  have B:b≠a:=λz=>by rw[z,V]at q;cases q
  exact#[G,by rw[AS B];exact g,r]
 .have B:f.1≠a:=λz=>U^by rw[←z];exact R.uV _^R.fU f hf
  rw[AS B];exact q
 .rcases l j s q with⟨rfl,rfl⟩|⟨y,u⟩
  .rw[N]
   exact#[a,rfl,m,U,h]
  .have g:=R.sl j s u
   cases s with
   |no=>trivial
   |sh d=>let#[v,c,x]:=g;exact#[v,c,x.pres F]
   |ex a nm ks ds=>let#[c,x]:=g;exact#[c,x.pres F]
   |br d=>
    let#[v,c,x]:=g;refine#[v,c,x.same F (λb A z q=>?_) λ_ _ z=>z];subst z;let#[o3,w]:=R.br0 j d b u c;rw[AS λz=>by rw[z,V]at w;cases w];exact q
   |fd=>exact g
   |ow d=>
    let#[b,c,x,J,L]:=g;exact#[b,c,x,J,L.pres F λA w=>by rw[AS (I j _ b y u rfl c)];exact w]
   |lt b d=>
    let#[c,x,J,L]:=g;exact#[c,x,J,L.pres F λA w=>by rw[AS (I j _ b y u rfl c)];exact w]
 .rcases l j _ q with⟨_,c⟩|⟨y,u⟩
  .cases c
  .exact R.br0 j O b u g
 .rcases l j s q with⟨rfl,_⟩|⟨y,u⟩
  .exact R.new j _ b E rfl g
  .exact R.new j s b u G g
 .rcases l j s u with⟨rfl,rfl⟩|⟨y,X⟩
  .rcases l k t g with⟨rfl,_⟩|⟨hk,S⟩
   .rfl
   .exact R.two j k _ t b E rfl S G P Q
  .rcases l k t g with⟨rfl,rfl⟩|⟨hk,S⟩
   .exact R.two j k s _ b X W E rfl P Q
   .exact R.two j k s t b X W S G P Q
 .let#[x,J,L,T]:=R.kept p hp
  have B:p.1≠a:=λz=>T i d E (by rw[N,z]);refine#[by rw[AS B];exact x,J,L,λj O q=>?_]
  rcases l j _ q with⟨rfl,_⟩|⟨y,u⟩
  .exact T j d E
  .exact T j O u
def Rel.lend(R:Rel K C M H n ρ Z){i:Nat}{a:Db}{o:HO}(l:ρ[i]?=P3^.ow d)(w:(Z[i]?).getD p_=P3^.ref a)(G:H a=P3 o):Rel K {C with kp:=(a,o)::C.kp} M H n (ρ.set i^.lt a d) Z:=by
 let#[b,f,m,D,t]:=R.sl i _ l;rw[w]at f;cases f
 have c:∀(j:Nat) (s:Slot),(ρ.set i^.lt a d)[j]?=P3 s->(j=i/\s=.lt a d)\/(j≠i/\ρ[j]?=P3 s):=λj s q=>by
  rcases Dt q with⟨rfl,P,rfl⟩|⟨g,q⟩
  .exact .inl #[rfl,rfl]
  .exact .inr #[g,q]
 refine#[by rw[iz];exact R.len,R.sub,R.dom,R.ext,R.fU,R.uV,R.vM,R.feed,λj s q=>?_,R.pin,λj r b q h=>?_,λj s b q u h=>?_,λj k s t b e E h u x y=>?_,λp A=>?_]
 .rcases c j s q with⟨rfl,rfl⟩|⟨g,e⟩
  .exact#[w,m,D,t]
  .exact R.sl j s e
 .rcases c j _ q with⟨_,f⟩|⟨g,e⟩
  .cases f
  .exact R.br0 j r b e h
 .rcases c j s q with⟨rfl,_⟩|⟨g,e⟩
  .exact R.new j _ b l rfl h
  .exact R.new j s b e u h
 .rcases c j s e with⟨rfl,rfl⟩|⟨g,F⟩
  .rcases c k t h with⟨rfl,_⟩|⟨I,B⟩
   .rfl
   .exact R.two j k _ t b l rfl B u x y
  .rcases c k t h with⟨rfl,rfl⟩|⟨I,B⟩
   .exact R.two j k s _ b F E l rfl x y
   .exact R.two j k s t b F E B u x y
 .rcases T0.mp A with rfl|A
  .refine#[G,m,D,λj r q z=>?_]
   rcases c j _ q with⟨_,f⟩|⟨g,e⟩
   .cases f
   .exact g (R.two j i _ _ a e rfl l rfl z w)
  .let#[J,L,N,O]:=R.kept p A
   refine#[J,L,N,λj r q=>?_]
   rcases c j _ q with⟨_,f⟩|⟨g,e⟩
   .cases f
   .exact O j r e
def Rel.unlend{a:Db}{o:HO}(R:Rel K {C with kp:=(a,o)::C.kp} M H n ρ Z){i:Nat}(h:ρ[i]?=P3^.lt a d)(r:∀p∈C.kp,p.1≠a):Rel K C M H n (ρ.set i^.ow d) Z:=by
 let#[A,m,F,t]:=R.sl i _ h
 have c:∀(j:Nat) (s:Slot),(ρ.set i^.ow d)[j]?=P3 s->(j=i/\s=.ow d)\/(j≠i/\ρ[j]?=P3 s):=λj s q=>by
  rcases Dt q with⟨rfl,O,rfl⟩|⟨g,q⟩
  .exact .inl #[rfl,rfl]
  .exact .inr #[g,q]
 refine#[by rw[iz];exact R.len,R.sub,R.dom,R.ext,R.fU,R.uV,R.vM,R.feed,λj s q=>?_,R.pin,λj u b q f=>?_,λj s b q l f=>?_,λj k s t b e B f l w x=>?_,λp D=>?_]
 .rcases c j s q with⟨rfl,rfl⟩|⟨g,e⟩
  .exact#[a,A,m,F,t]
  .exact R.sl j s e
 .rcases c j _ q with⟨_,G⟩|⟨g,e⟩
  .cases G
  .exact R.br0 j u b e f
 .rcases c j s q with⟨rfl,_⟩|⟨g,e⟩
  .exact R.new j _ b h rfl f
  .exact R.new j s b e l f
 .rcases c j s e with⟨rfl,rfl⟩|⟨g,E⟩
  .rcases c k t f with⟨rfl,_⟩|⟨r,y⟩
   .rfl
   .exact R.two j k _ t b h rfl y l w x
  .rcases c k t f with⟨rfl,rfl⟩|⟨r,y⟩
   .exact R.two j k s _ b E B h rfl w x
   .exact R.two j k s t b E B y l w x
 .let#[I,J,L,N]:=R.kept p^TM _ D
  refine#[I,J,L,λj u q=>?_]
  rcases c j _ q with⟨rfl,_⟩|⟨g,e⟩
  .rw[A]
   intro z;cases z;exact r p D rfl
  .exact N j u e
end
abbrev DW:=Nat->s_ Slot->(D->Nat->Prop)->Prop
abbrev HM:=Nat->s_ Slot->(Bool->Nat->Prop)->Prop
abbrev Ef:=Nat->s_ Slot->(s_ D->Nat->Prop)->Prop
abbrev T2:=Nat->s_ Slot->(s_ Slot->Nat->Prop)->Prop
section
variable (X:Cx)
def DE(e:gZ)(f:Kd)(w:DW):Prop:=∃t,PE X e t/\∀(C:Fm) (M:Db->Prop) (H:Hp) (n:Nat) (b:s_ Slot) (Z:L2.St) (P:D->Nat->Prop) (Q:VK),Rel X.K C M H n b Z->w n b P->
 (∀v a d c,Ext C.U H a->FeedC X.K C.F M a c->VR X.K C.V M H a f v d->P d c->Q v a)->t Z H Q
def DT(e:gZ)(w:HM):Prop:=∃t,PT X e t/\∀(C:Fm) (M:Db->Prop) (H:Hp) (n:Nat) (c:s_ Slot) (Z:L2.St) (P:Bool->Nat->Prop) (Q:Bool->Hp->Prop),Rel X.K C M H n c Z->w n c P->
 (∀b a d,Ext C.U H a->FeedC X.K C.F M a d->P b d->Q b a)->t Z H Q
def DTW(e:gZ)(w:HM):Prop:=∃t,PW X e t/\∀(C:Fm) (M:Db->Prop) (H:Hp) (n:Nat) (c:s_ Slot) (Z:L2.St) (P:Bool->Nat->Prop) (Q:Bool->Hp->Prop),Rel X.K C M H n c Z->w n c P->
 (∀b a d,Ext C.U H a->FeedC X.K C.F M a d->P b d->Q b a)->t Z H Q
def ar(g:s_ gZ)(w:Ef):Prop:=∃t,PA X g t/\∀(C:Fm) (M:Db->Prop) (H:Hp) (n:Nat) (b:s_ Slot) (Z:L2.St) (P:s_ D->Nat->Prop) (Q:s_ V->Hp->Prop),Rel X.K C M H n b Z->w n b P->
 (∀c a e f,Ext C.U H a->FeedC X.K C.F M a f->Paired (λv d=>AtT X.K C.V M a d v) c e->P e f->Q c a)->t Z H Q
def Y1(f:s_ gZ)(w:Ef):Prop:=∃t,PA X f t/\∀(C:Fm) (M:Db->Prop) (H:Hp) (n:Nat) (b:s_ Slot) (Z:L2.St) (P:s_ D->Nat->Prop) (Q:s_ V->Hp->Prop),Rel X.K C M H n b Z->w n b P->
 (∀c a d e,Ext C.U H a->FeedC X.K C.F M a e->Ats X.K M a d c->P d e->Q c a)->t Z H Q
def MS(K:Frag)(F:t_ (Db×Db))(a M:Db->Prop)(H:Hp)(v:V)(s:Slot):Prop:=SlotOk K F a M H s^P3 v/\s.owns=r_
def dD(e:gZ)(w:Nat->s_ Slot->(Slot->Nat->Prop)->Prop):Prop:=∃t,PE X e t/\∀(C:Fm) (M:Db->Prop) (H:Hp) (n:Nat) (b:s_ Slot) (Z:L2.St) (P:Slot->Nat->Prop) (Q:VK),Rel X.K C M H n b Z->w n b P->
 (∀v a s c,Ext C.U H a->FeedC X.K C.F M a c->MS X.K C.F C.V M a v s->P s c->Q v a)->t Z H Q
def Y0(f:s_ gZ)(w:T2):Prop:=∃t,PA X f t/\∀(C:Fm) (M:Db->Prop) (H:Hp) (n:Nat) (b:s_ Slot) (Z:L2.St) (P:s_ Slot->Nat->Prop) (Q:s_ V->Hp->Prop),Rel X.K C M H n b Z->w n b P->
 (∀c a d e,Ext C.U H a->FeedC X.K C.F M a e->Paired (MS X.K C.F C.V M a) c d->P d e->Q c a)->t Z H Q
end
def AC(i:Nat):DW:=λn a P=>match a[i]? with
 |some (.sh d)=>P d n
 |_=>False
def Ap(i:Nat):DW:=λn a P=>match a[i]? with
 |some (.sh d)=>P d n
 |some (.br d)=>P d n
 |some (.ow d)=>P d n
 |some (.lt _ d)=>P d n
 |_=>False
def wC(d:D):DW:=λn _ P=>P d n
section
variable {X:Cx}{a b c e:Expr}{κ zS zO:Kd}{wa wb:DW}{pos:Pos}
def getD_some{Z:L2.St}{i:Nat}{v:V}(h:(Z[i]?).getD p_=P3 v):Z[i]?=P3^P3 v:=by
 cases q:Z[i]? with
 |none=>simp_all
 |some o=>simp_all
def YA{i:Nat}(h:PE X e^B6 i):DE X e .sh^AC i:=by
 refine#[_,h,λC M H n j Z P Q R w q=>?_];unfold AC at w
 split at w
 .rename_i d c
  let#[v,f,g]:=R.sl i _ c;exact#[v,getD_some f,q v H d n (Ext.refl _ _) R.feed g w]
 grind
def WG{i:Nat}(h:PE X e^B6 i):DE X e .tp^Ap i:=by
 refine#[_,h,λC M H n l Z P Q R w q=>?_];unfold Ap at w
 split at w
 .rename_i d c
  let#[v,f,g]:=R.sl i _ c;exact#[v,getD_some f,q v H d n (Ext.refl _ _) R.feed (At.tp R.vM g) w]
 .rename_i d c
  let#[v,f,g]:=R.sl i _ c;exact#[v,getD_some f,q v H d n (Ext.refl _ _) R.feed g w]
 .rename_i d c
  let#[a,f,_,j,k]:=R.sl i _ c;exact#[.ref a,getD_some f,q _ H d n (Ext.refl _ _) R.feed (k.att j) w]
 .rename_i a d c
  let#[f,_,j,k]:=R.sl i _ c;exact#[.ref a,getD_some f,q _ H d n (Ext.refl _ _) R.feed (k.att j) w]
 .exact w.elim
def dv(i:Nat){x:Str}{pos:Pos}(d:X.N[i]?=P3 x:=by rfl)(e:Tz X.env.scope x:=by first|exact TW rfl|exact iI (TW rfl)|exact iI (iI rfl))(hd:(x==("__debug__":Str))=r_:=by cbv)
  (c:(x==("__classdict__":Str))=r_:=by cbv):DE X (.Name x pos) .sh^AC i:=YA^Ex d e hd c
def Dz(i:Nat){x:Str}{pos:Pos}(d:X.N[i]?=P3 x:=by rfl)(e:Tz X.env.scope x:=by first|exact TW rfl|exact iI (TW rfl)|exact iI (iI rfl))(hd:(x==("__debug__":Str))=r_:=by cbv)
  (c:(x==("__classdict__":Str))=r_:=by cbv):DE X (.Name x pos) .tp^Ap i:=WG^Ex d e hd c
def G4{d:D}{v:V}(h:PE X e^tC v)(hd:∀M H,At X.K M H d v):DE X e .sh^wC d:=
 #[_,h,λC M H n c Z P Q R w q=>q v H d n (Ext.refl _ _) R.feed (hd M H) w]
def AG{i:Int}{j pos}:DE X (.Constant (.int i) j pos) .sh^wC^.int i:=G4 BG λ_ _=>rfl
def CU{b:Bool}{j pos}:DE X (.Constant (.bool b) j pos) .sh^wC^.bl b:=G4 bx λ_ _=>rfl
def BX{j pos}:DE X (.Constant .none j pos) .sh^wC .non:=G4 Zk λ_ _=>rfl
def Az{x:Str}{j pos}(hx:decide (x.length<=1000)=q_:=by rfl):DE X (.Constant (.str x) j pos) .sh^wC^.str x:=
 G4 Zh λ_ _=>#[rfl,gG (of_decide_eq_true hx)^by cbv]
def DE.sh(h:DE X e κ wa)(c:κ≠.tp:=by intro z;cases z):DE X e .sh wa:=by
 let#[t,g,i]:=h;exact#[t,g,λC M H n j Z P Q R w q=>i C M H n j Z P Q R w λv k d l e f r p=>q v k d l e f (r.shOf R.dom c) p]
def Fo(K:Frag)(κ:Kd)(r:R2)(f:D->D->(D->Prop)->Prop):Prop:=∀(U:Db->Prop) (M:Db->Prop) (H:Hp) (d e:D) (x y:V) (P:D->Prop) (Q:VK),(∀a,M a->∃o,H a=P3 o)->(∀a,U a->M a)->
 AtT K U M H d x->AtT K U M H e y->f d e P->(∀v c z,Grow H c->VR K U M H c κ v z->P z->Q v c)->r x y H Q
def AU(f:D->D->(D->Prop)->Prop)(wa wb:DW):DW:=λn c P=>wa n c λx d=>wb d c λy e=>f x y λz=>P z e
def EW{r:R2}{f:D->D->(D->Prop)->Prop}(u:Fo X.K κ r f){o s:TE}(A:∀(C:Fm) (M:Db->Prop) (H:Hp) (n:Nat) (h:s_ Slot) (Z:L2.St) (P:D->Nat->Prop) (Q:VK),Rel X.K C M H n h Z->wa n h P->
   (∀v c d i,Ext C.U H c->FeedC X.K C.F M c i->VR X.K C.V M H c zS v d->P d i->Q v c)->o Z H Q)
  (B:∀(C:Fm) (M:Db->Prop) (H:Hp) (n:Nat) (h:s_ Slot) (Z:L2.St) (P:D->Nat->Prop) (Q:VK),Rel X.K C M H n h Z->wb n h P->
   (∀v c d i,Ext C.U H c->FeedC X.K C.F M c i->VR X.K C.V M H c zO v d->P d i->Q v c)->s Z H Q)
  (C:Fm) (M:Db->Prop) (H:Hp) (n:Nat) (h:s_ Slot) (Z:L2.St) (P:D->Nat->Prop) (Q:VK) (R:Rel X.K C M H n h Z) (w:AU f wa wb n h P)
  (q:∀v c d i,Ext C.U H c->FeedC X.K C.F M c i->VR X.K C.V M H c κ v d->P d i->Q v c):D5 r o s Z H Q:=by
 refine A C M H n h Z _ _ R w λx E d G m I J L=>?_;have j:=R.step m I;refine B C M E G h Z _ _ j L λy H2 e N k t O S=>?_;have l:=j.step k t;exact u _ M H2 d e x y _ _ l.dom l.vM ((J.tpOf R.dom R.vM).pres (j.pres k) k R.uV) (O.tpOf j.dom j.vM) S λv T z g W p=>q v T z N ((m.trans k).trans g.ext) (t.grow g) (VR.back (m.trans k) W) p
def A3{h:Operator}{r:R2}{f:D->D->(D->Prop)->Prop}(i:OpR X (binaryOp h) r)(j:Fo X.K κ r f)(k:DE X a zS wa)(l:DE X b zO wb):DE X (.BinOp a h b pos) κ^AU f wa wb:=by
 let#[o,c,d]:=k;let#[p,e,g]:=l;exact#[_,B9 i c e,λC M H n m Z P Q R w q=>EW j d g C M H n m Z P Q R w q]
def AV{r:R2}{f:D->D->(D->Prop)->Prop}(h:IxR X r)(i:Fo X.K κ r f)(j:DE X a zS wa)(k:DE X b zO wb)(l:SN b:=by intro _ _;rfl):DE X (.Subscript a b pos) κ^AU f wa wb:=by
 let#[o,c,d]:=j;let#[p,e,g]:=k;exact#[_,EY h c e l,λC M H n m Z P Q R w q=>EW i d g C M H n m Z P Q R w q]
def GQ{c:CmpOp}{r:R2}{f:D->D->(D->Prop)->Prop}(i:OpR X (compareOp c) r)(j:Fo X.K .sh r f)(k:DE X a zS wa)(l:DE X b zO wb)(m:behindInMarks c b=r_):DE X (.Compare a [c] [b] pos) .sh^AU f wa wb:=by
 let#[p,d,e]:=k;let#[s,g,h]:=l;exact#[_,XZ i d g m,λC M H n o Z P Q R w q=>EW j e h C M H n o Z P Q R w q]
def AW(w:DW):HM:=λn c P=>w n c λd e=>match d with
 |.bl b=>P b e
 |_=>False
def GZ{U:Db->Prop}{K:Frag}{M:Db->Prop}{H c:Hp}{v:V}{b:Bool}(h:VR K U M H c κ v^.bl b):v=.bl b:=by
 cases κ with
 |sh=>exact h
 |tp=>exact h
 |fr=>let#[a,_,_,t]:=h;exact(t).elim
def Aj{c:CmpOp}{r:R2}{f:D->D->(D->Prop)->Prop}(k:OpR X (compareOp c) r)(l:Fo X.K .sh r f)(m:DE X a zS wa)(o:DE X b zO wb)(s:behindInMarks c b=r_):DT X (.Compare a [c] [b] pos)^AW^AU f wa wb:=by
 let#[y,g,h]:=m;let#[z,i,j]:=o;refine#[_,Gr k g i s,λC M H n t Z P Q R w q=>?_];refine EW l h j C M H n t Z _ _ R w λv u d x e f r p=>?_;cases d with
 |bl b=>exact#[b,GZ r,q b u x e f p]
 |_=>exact p.elim
def Bp(h:DE X e κ wa)(g:∀c,isTrue e X.env c=(do let v ←c;standAt e.pos;holding [v]^truthy v):=by intro _;rfl):DT X e^AW wa:=by
 let#[t,i,j]:=h;refine#[_,Zb i g,λC M H n k Z P Q R w q=>?_];refine j C M H n k Z _ _ R w λv l d m e f r p=>?_;cases d with
 |bl b=>exact#[b,GZ r,q b l m e f p]
 |_=>exact p.elim
def Em(u v:HM):HM:=λn d P=>u n d λc e=>if c=q_ then v e d P else P r_ e
def DM(u v:HM):HM:=λn d P=>u n d λc e=>if c=q_ then P q_ e else v e d P
def Cp(u:HM):HM:=λn d P=>u n d λc e=>P (!c) e
variable {wA wB:HM}{rest:s_ Expr}
def G2(h:DT X a wA):DTW X (.BoolOp .And [a] pos) wA:=by
 let#[t,c,d]:=h;exact#[t,RL c,d]
def C9(h:DT X a wA):DTW X (.BoolOp .Or [a] pos) wA:=by
 let#[t,c,d]:=h;exact#[t,ZZ c,d]
def GL(i:DT X a wA)(j:DTW X (.BoolOp .And (b::rest) pos) wB):DTW X (.BoolOp .And (a::b::rest) pos)^Em wA wB:=by
 let#[t,k,l]:=i;let#[u,m,o]:=j;refine#[_,U6 k m,λC M H n e Z P Q R w q=>?_];refine l C M H n e Z _ _ R w λc f g d h p=>?_;cases c with
 |false=>exact q _ f g d h p
 |true=>exact o C M f g e Z P Q (R.step d h) p λb H2 r s v x=>q b H2 r (d.trans s) v x
def Cq(i:DT X a wA)(j:DTW X (.BoolOp .Or (b::rest) pos) wB):DTW X (.BoolOp .Or (a::b::rest) pos)^DM wA wB:=by
 let#[t,k,l]:=i;let#[u,m,o]:=j;refine#[_,bp k m,λC M H n e Z P Q R w q=>?_];refine l C M H n e Z _ _ R w λc f g d h p=>?_;cases c with
 |true=>exact q _ f g d h p
 |false=>exact o C M f g e Z P Q (R.step d h) p λb H2 r s v x=>q b H2 r (d.trans s) v x
def DTW.dt(h:DTW X e wA):DT X e wA:=by
 let#[t,c,d]:=h;exact#[t,c.pt,d]
def CO(d:DT X a wA):DT X (.UnaryOp .Not a pos)^Cp wA:=by
 let#[t,e,f]:=d;exact#[_,Zc e,λC M H n g Z P Q R w q=>f C M H n g Z _ _ R w λc h i j k p=>q _ h i j k p]
def Pp(u v:DW):DW:=λn d P=>u n d λc e=>match c with
 |.bl q_=>v e d P
 |.bl r_=>P (.bl r_) e
 |_=>False
def Y_(u:DW):DW:=λn d P=>u n d λc e=>match c with
 |.bl b=>P (.bl (!b)) e
 |_=>False
def Hs{op}(h:DE X a κ wa):DE X (.BoolOp op [a] pos) κ wa:=by
 assumption
def GR(j:DE X a zS wa)(l:DE X (.BoolOp .And (b::rest) pos) .sh wb):DE X (.BoolOp .And (a::b::rest) pos) .sh^Pp wa wb:=by
 let#[t,m,o]:=j;let#[u,r,s]:=l;refine#[_,Zm m r,λC M H n g Z P Q R w q=>?_];refine o C M H n g Z _ _ R w λc e d h f i x p=>?_;cases d with
 | bl k=>
  exists k,GZ x;cases k with
  |false=>exact q _ e _ h f i (show VR _ _ M H e _ _^.bl _ from rfl) p
  |true=>
   exact s C M e h g Z P Q (R.step f i) p λv H2 d y z A B D=>q v H2 d y (f.trans z) A B D
 |_=>exact p.elim
def Qf(f:DE X a zS wa):DE X (.UnaryOp .Not a pos) .sh^Y_ wa:=by
 let#[t,g,h]:=f;refine#[_,Zj g,λC M H n i Z P Q R w q=>?_];refine h C M H n i Z _ _ R w λc e d j l m o p=>?_;cases d with
 |bl k=>exact#[k,GZ o,q _ e _ j l m (show VR _ _ M H e _ _^.bl _ from rfl) p]
 |_=>exact p.elim
def YV(t:HM)(u v:DW):DW:=λn d P=>t n d λc e=>if c=q_ then u e d P else v e d P
def ME(r:DT X c wA)(s:DE X a κ wa)(x:DE X b κ wb):DE X (.IfExp c a b pos) κ^YV wA wa wb:=by
 let#[t,y,z]:=r;let#[u,A,B]:=s;let#[F,D,E]:=x;refine#[_,OR y A D,λC M H n f Z P Q R w q=>?_];refine z C M H n f Z _ _ R w λc l m e o p=>?_;cases c with
 |true=>exact B C M l m f Z P Q (R.step e o) p λv H2 d g h i j k=>q v H2 d g (e.trans h) i (VR.back e j) k
 |false=>exact E C M l m f Z P Q (R.step e o) p λv H2 d g h i j k=>q v H2 d g (e.trans h) i (VR.back e j) k
def AQ:Ef:=λn _ P=>P [] n
def AD(w:DW)(e:Ef):Ef:=λn c P=>w n c λd f=>e f c λg h=>P (d::g) h
variable {es:s_ Expr}{ws:Ef}
def Ai:ar X [] AQ:=#[_,Cb,λC M H n c Z P Q R w q=>q [] H [] n (Ext.refl _ _) R.feed .nil w]
def AK:Y1 X [] AQ:=#[_,Cb,λC M H n c Z P Q R w q=>q [] H [] n (Ext.refl _ _) R.feed rfl w]
def AT(i:DE X e κ wa)(j:ar X es ws)(k:starEach (e::es) X.env=(r_,eval e X.env)::starEach es X.env:=by rfl):ar X (e::es)^AD wa ws:=by
 let#[t,l,m]:=i;let#[u,o,r]:=j;refine#[_,Bl l o k,λC M H n f Z P Q R w q=>?_];refine m C M H n f Z _ _ R w λv s d x g y z p=>?_;have h:=R.step g y;exact r C M s x f Z _ _ h p λF H2 G A c B D E=>q _ H2 _ A (g.trans c) B (.cons ((z.tpOf R.dom R.vM).pres (h.pres c) c R.uV) D) E
def AA(i:DE X e κ wa)(j:Y1 X es ws)(k:κ≠.tp:=by intro z;cases z)(l:starEach (e::es) X.env=(r_,eval e X.env)::starEach es X.env:=by rfl):Y1 X (e::es)^AD wa ws:=by
 let#[t,m,o]:=i;let#[u,r,s]:=j;refine#[_,Bl m r l,λC M H n c Z P Q R w q=>?_];refine o C M H n c Z _ _ R w λv x d y f A B p=>?_;have g:=R.step f A;exact s C M x y c Z _ _ g p λD H2 E F h G I J=>q _ H2 (d::E) F (f.trans h) G #[v,D,rfl,(B.shOf R.dom k).pres^g.pres h,I] J
def A_(ws:Ef):DW:=λn d P=>ws n d λc e=>c.length<=sizeLine/\P (.tup c) e
def CM(ws:Ef):DW:=λn d P=>ws n d λc e=>c.length<=sizeLine/\P (.lst c) e
def GG{M:Db->Prop}{H:Hp}{p:Db}{o:HO}(h:H p=p_):Pres M H (λb=>M b\/b=p)^A5 H p o:=#[λb u e _=>by rw[AS^A6 e h];exact e,λb z=>z.elim .inl λz=>.inr^by grind,λb c e=>by rw[AS^A6 e h];exact e]
def A1{H:Hp}{p:Db}{o:HO}(h:H p=p_):Grow H^A5 H p o:=.inr #[p,o,h,rfl]
def An{x1}(h:Y1 X es ws):DE X (.Tuple es x1 pos) .sh^A_ ws:=by
 let#[t,f,i]:=h;refine#[_,Zg f,λC M H n j Z P Q R w q=>?_];refine i C M H n j Z _ _ R w λc d k l m o e p=>?_;refine#[by rw[e.length];exact p.1,λa r=>?_];have g:Grow d^A5 d a^.tup c:=A1 r;refine q _ _ (.tup k) l (m.trans g.ext) (o.grow g) #[a,c,rfl,Af,e.pres g.pres] p.2
def BO(h:Y1 X es ws):DE X (.List es pos) .fr^CM ws:=by
 let#[t,j,k]:=h;refine#[_,QI j,λC M H n l Z P Q R w q=>?_];refine k C M H n l Z _ _ R w λd e m o f r i p=>?_;refine#[by rw[i.length];exact p.1,λa c=>?_];have g:Grow e^A5 e a^.lst d:=A1 c;exact q _ _ (.lst m) o (f.trans g.ext) (r.grow g) (VR.back f #[a,rfl,c,d,Af,i.pres^GG c]) p.2
def Eg(K:Frag)(κ:Kd)(r:s_ V->Hp->VK->Prop)(f:s_ D->(D->Prop)->Prop):Prop:=∀(U:Db->Prop) (M:Db->Prop) (H:Hp) (e:s_ D) (g:s_ V) (P:D->Prop) (Q:VK),(∀a,M a->∃o,H a=P3 o)->(∀a,U a->M a)->
 Paired (λv d=>AtT K U M H d v) g e->f e P->(∀v c z,Grow H c->VR K U M H c κ v z->P z->Q v c)->r g H Q
def CB(f:s_ D->(D->Prop)->Prop)(ws:Ef):DW:=λn c P=>ws n c λd e=>f d λz=>P z e
def Yv{r:s_ V->Hp->VK->Prop}{f:s_ D->(D->Prop)->Prop}{t:TA}(o:Eg X.K κ r f)(s:∀(C:Fm) (M:Db->Prop) (H:Hp) (n:Nat) (e:s_ Slot) (Z:L2.St) (P:s_ D->Nat->Prop) (Q:s_ V->Hp->Prop),Rel X.K C M H n e Z->ws n e P->
   (∀i c j h,Ext C.U H c->FeedC X.K C.F M c h->Paired (λv d=>AtT X.K C.V M c d v) i j->P j h->Q i c)->t Z H Q)
  (C:Fm) (M:Db->Prop) (H:Hp) (n:Nat) (e:s_ Slot) (Z:L2.St) (P:D->Nat->Prop) (Q:VK) (R:Rel X.K C M H n e Z) (w:CB f ws n e P)
  (q:∀v c d h,Ext C.U H c->FeedC X.K C.F M c h->VR X.K C.V M H c κ v d->P d h->Q v c):dI r t Z H Q:=by
 refine s C M H n e Z _ _ R w λi u j x k l y p=>?_;have m:=R.step k l;exact o _ M u j i _ _ m.dom m.vM y p λv H2 z g A B=>q v H2 z x (k.trans g.ext) (l.grow g) (VR.back k A) B
def Ao{x:Str}{g:String}{p:Pos}{r:s_ V->Hp->VK->Prop}{f:s_ D->(D->Prop)->Prop}(h:De X (.builtin g) r)(i:Eg X.K κ r f)(j:Gl X x)(k:X.mg x=p_)(l:bootBuiltins x=P3^.builtin g)(m:ar X (e::es) ws)
  (o:x ≠ "__name__":=by cbv) (c:(x==("__debug__":Str))=r_:=by cbv)
  (s:starEach (e::es) X.env=(r_,eval e X.env)::starEach es X.env:=by rfl) (d:(backTo pos^starEach es X.env).any (·.1)=r_:=by rfl):DE X (.Call (.Name x p) (e::es) [] pos) κ^CB f ws:=by
 let#[t,u,v]:=m;exact#[_,EB h j k l u o c s d,λC M H n y Z P Q R w q=>Yv i v C M H n y Z P Q R w q]
def Bi{x:Str}{T:String}{p:Pos}{r:s_ V->Hp->VK->Prop}{f:s_ D->(D->Prop)->Prop}(g:De X (.type T) r)(h:Eg X.K κ r f)(i:Gl X x)(j:X.mg x=p_)(k:bootBuiltins x=P3^.type T)(l:ar X (e::es) ws)
  (m:x ≠ "__name__":=by cbv) (c:(x==("__debug__":Str))=r_:=by cbv)
  (o:starEach (e::es) X.env=(r_,eval e X.env)::starEach es X.env:=by rfl) (d:(backTo pos^starEach es X.env).any (·.1)=r_:=by rfl):DE X (.Call (.Name x p) (e::es) [] pos) κ^CB f ws:=by
 let#[t,s,u]:=l;exact#[_,Lq g i j k s m c o d,λC M H n v Z P Q R w q=>Yv h u C M H n v Z P Q R w q]
end
end Dp
namespace L2
def fC(z:Str):It:=#[λi _=>i<z.cps.size,λi H x a=>a=H/\∃c,z.cps[i]?=P3 c/\x=.str #[#[ c]],λi _=>z.cps.size<=i]
def N7{P:gN}{w:gY}{K:Frag}{S:gZ}(it:Db)(z:Str)(t:Tok)(ty:String)(g:ty="str_ascii_iterator"\/ty="str_iterator")
  (W:∀M:gc,M.handled=p_->Walks P w M it [it] [it] z.cps.size (SignAt z) λi h=>h.IsStrIter it ty z t i):Turn P w K S (fC z) [it] it (λi h=>h.IsStrIter it ty z t i) where
 mem:=by simp
 obj:=λi h a b f=>by
  have e:b=it:=by simpa using f
  subst e;let#[o,e,c,d]:=a;exact#[o,e,λv z=>by rw[d]at z;cases z]
 keep:=λi h j a k=>let #[o,T,r]:=a;#[o,k it (by simp) o T,r]
 item:=by
  intro X C D F m i N s Z H E I n a G;subst C D F;let#[p,q,U,x,y,B]:=n it (by simp);refine(W X.A^I.ok.hd m).item i s _ _ G a λv j O V l Y=>?_;let#[c,u,J,rfl]:=V;have I1:Inv X N Z H {s with heap:=j,toks:=O}:=I.turned (λb o f e=>Y b o (by simpa using f) e) p q x y B;let#[o,e,cc,d]:=id l;exact#[_,rfl,Rn (s:={s with heap:=j,toks:=O}) e cc d (by rcases g with rfl|rfl <;>decide) #[.str #[#[ c]],H,I1,#[_,rfl],#[rfl,c,J,rfl],l,λb f=>(n b f).1]]
 done:=by
  intro X C D F m i N s Z H E I n a G;subst C D F;let#[p,q,U,x,y,B]:=n it^by simp
  have R:z.cps[i]?=p_:=by
   have:z.cps.size<=i:=G
   simp[this]
  rcases g with rfl|rfl
  .exact wpAny_pyNext_ascii_end (I.ok.hd m) a R λj L=>#[rfl,I.turned (t':=s.toks) (λb o f e=>L b o f e) p q x y B]
  .exact wpAny_pyNext_wide_end (I.ok.hd m) a R λj L=>#[rfl,I.turned (t':=s.toks) (λb o f e=>L b o f e) p q x y B]
 self:=λA i s Q E a h=>by
  rcases g with rfl|rfl
  .exact wpAny_pyIter_striter_ascii a h
  .exact wpAny_pyIter_striter_wide a h
section
variable {X:Cx}{tg:Expr}
def eU(K:Frag)(d:TE):TI:=λZ H R=>d Z H λx b=>
 (∃a,x=.ref a/\(∃c,SqL K b a c)/\R (fD K a) b)\/(∃a,x=.ref a/\(∃c,SqT K b a c)/\R (aj K a) b)\/∃z,x=.str z/\R (fC z) b
def Mr{l:gZ}{n:TE}(w:PE X l n):PI X tg l^eU X.K n:=by
 intro r s Z H R I h;refine thn (w r s Z H _ I h) λv c #[x,g,f,j,y]=>?_
 have d:∀b,b∈[c.heap.objs.size]->FU X r g b:=λb A=>by
  have e:b=c.heap.objs.size:=by simpa using A
  subst e;exact f.fpOk (Re _)^f.hok.fresh^Re _
 rcases y with⟨a,e,⟨B,k⟩,q⟩|⟨a,e,⟨B,k⟩,q⟩|⟨z,e,q⟩
 .subst e
  cases j;let#[i,C,p,D]:=f.list k;refine iZ p.isList ?_;exact#[c.heap.objs.size,[c.heap.objs.size],_,_,g,rfl,f.kept (t':=c.toks) λb o e=>FM _ e,SR a _,#[_,UF _ rfl,rfl,rfl],d,q]
 .subst e
  cases j;let#[i,C,p,D]:=f.tuple k;refine ii (show c.heap.IsTuple a i.toArray from p) ?_;exact#[c.heap.objs.size,[c.heap.objs.size],_,_,g,rfl,f.kept (t':=c.toks) λb o e=>FM _ e,JQ a _,#[_,UF _ rfl,rfl,rfl],d,q]
 .subst e
  let#[t,rfl]:=j;cases u:z.cps.all (·<128)
  .refine wpAny_pyIter_wide u ?_
   exact#[c.heap.objs.size,[c.heap.objs.size],_,_,g,rfl,f.kept (t':=c.toks) λb o e=>FM _ e,N7 _ z t "str_iterator" (.inr rfl) λE m=>Walks.strWide m _ z t,#[_,UF _ rfl,rfl,rfl],d,q]
  .refine wpAny_pyIter_ascii u ?_
   exact#[c.heap.objs.size,[c.heap.objs.size],_,_,g,rfl,f.kept (t':=c.toks) λb o e=>FM _ e,N7 _ z t "str_ascii_iterator" (.inl rfl) λE m=>Walks.strAscii m _ z t,#[_,UF _ rfl,rfl,rfl],d,q]
end
section
variable {X:Cx}
def LI(bs:s_ Bool):((gi bs.length).all λi=>(bs[i]?).getD q_)=bs.all id:=by
 induction bs with
 |nil=>rfl
 |cons b r a=>
  rw[gB,ko,kN,List.all_map]
  congr 1
def FF(t:X.calm=q_):De X (.builtin "all") (λj H Q=>∃(p:Db) (c:s_ Bool),j=[.ref p]/\SqL X.K H p^c.map V.bl/\Q (.bl^c.all id) H):=by
 intro J s Z H j L Q I r h;let#[p,c,rfl,w,q]:=h;let#[u,rfl,y]:=vals1 r;cases y;let#[a,k,z,M]:=I.list w;have d:=k.length;have f:s.heap.IsList p a.toArray:=z.isList;have g:p<s.heap.objs.size:=by let#[_,e,_]:=id f;exact Uf e
 refine call_all_walk^iZ f ?_
 refine#[s.heap.objs.size,[s.heap.objs.size,p],[s.heap.objs.size],a.toArray.size,_,_,λi=>(c[i]?).getD q_,rfl,Walks.list (A:=X.A.in1) (I.ok.hd t) _ p (gO g) a.toArray,
  #[#[_,UF _ rfl,rfl,rfl],f.push _],λi v N O P B l=>?_,λR C D=>?_]
 .have m:a[i]?=P3 v:=by simpa using B
  have E:∃b,c[i]?=P3 b:=by
   have S:i<a.length:=(gC.mp m).1;rw[No]at d;exact#[c[i]'(by lk),On^by lk]
  let#[b,n]:=E;let#[u,o,F]:=k.get (i:=i) (x:=.bl b) (by rw[gM,n];rfl);rw[m]at o;cases o;cases F;simp only[n,Option.getD_some]at l;exact iw l
 .have e:((gi a.toArray.size).all λi=>(c[i]?).getD q_)=c.all id:=by
   rw[f_,←d,No];exact LI c
  rw[e];exact#[.bl _,H,I.kept (t':=C) λb x e=>D b x (λG=>by rw[Sc.mp G]at e;exact gv _^Uf e)^FM _ e,rfl,q]
def O6:De X (.builtin "isinstance") (λa H Q=>∃x T t b,a=[x,.ty T]/\GV X.K H x t/\PySem.W.kitOne X.K t^.type T=P3 b/\Q (.bl b) H):=by
 intro f s Z H a g Q I r h;let#[x,T,t,b,rfl,ty,e,q]:=h;let#[u,i,rfl,c,d]:=vals2 r;cases d;exact TR I c ty e λj=>#[.bl b,H,I.tok _,rfl,q]
def Pz{b:s_ Str}:∀{a:s_ Ev},Vals (b.map V.str) a->StrsAre a b:=by
 induction b with
 |nil=>intro a r;cases r;exact .nil
 | cons n g c=>
  intro a r;cases r with
  |cons d f=>
   let#[t,e]:=d;subst e;exact .cons n t^c f
def ZR:SlR X (λx f g H Q=>∃z,x=.str z/\z.length<=sizeLine/\Q (.str^Txt.slice z f g) H):=by
 intro o s Z H x v w y f g A Q I p c r m h;let#[z,rfl,d,q]:=h;let#[t,rfl]:=p;exists "str",_,F.slot_str_getitem.lookup,typeIs_str _ _ _;have b:∀a k,EP X o Z Q (.str _ a) {s with toks:=k}:=λa k=>#[.str _,H,I.tok _,#[_,rfl],q];cases r with
 |none=>
  cases m with
  |none=>exact jm (l:=p_) (u:=p_) (st:=p_) c rfl (lK #[gG (Txt.slice_le z _ _) d,λa k=>b a k])
  |int j e=>exact jm (l:=p_) (u:=P3 (j,e)) (st:=p_) c rfl (lK #[gG (Txt.slice_le z _ _) d,λa k=>b a k])
 |int i n=>
  cases m with
  |none=>exact jm (l:=P3 (i,n)) (u:=p_) (st:=p_) c rfl (lK #[gG (Txt.slice_le z _ _) d,λa k=>b a k])
  |int j e=>exact jm (l:=P3 (i,n)) (u:=P3 (j,e)) (st:=p_) c rfl (lK #[gG (Txt.slice_le z _ _) d,λa k=>b a k])
def Sv(d:X.A.units<cLine):OpR X (compareOp .NotEq) (λx y H Q=>∃a b c,x=.ref a/\y=.ref b/\SqL X.K H a c/\SqL X.K H b []/\Q (.bl (!c.isEmpty)) H):=by
 intro w s Z H x y v u Q I m n h;let#[a,b,c,rfl,rfl,o,p,q]:=h;cases m;cases n;let#[r,f,g,_]:=I.list o;let#[i,k,l,_]:=I.list p;cases k;cases f with
 |nil=>exact SeqAt.RcNeAt.lists (e:=λ_=>q_) g.isList l.isList rfl d (λj t z=>absurd t^by simp) _ _ _ _ #[.bl _,H,I,rfl,q]
 |cons f k=>exact SeqAt.RcNeAt.lists_lengths g.isList l.isList (by simp) d _ _ _ _ #[.bl _,H,I,rfl,q]
end
end L2
namespace Dp
open L2
def ac(K:Frag)(F:t_ (Db×Db))(U b M:Db->Prop)(H:Hp)(n:Nat)(c:s_ Slot)(d:s_ V):Prop:=
 (∀a,M a->∃o,H a=P3 o)/\(∀f,F=P3 f->U f.1)/\(∀a,U a->b a)/\(∀a,b a->M a)/\FeedC K F M H n/\Paired (MS K F b M H) d c
abbrev W2:=s_ Slot->Nat->(D->Nat->Prop)->Prop
def Tu(K:Frag)(g:Kd)(W:W2)(h:Nat):Sp:=λb H Q _=>b.length=h/\∃(F:t_ (Db×Db)) (U c M:Db->Prop) (n:Nat) (e:s_ Slot) (P:D->Nat->Prop),ac K F U c M H n e b/\W e n P /\
 ∀v a d f,Ext U H a->FeedC K F M a f->VR K c M H a g v d->P d f->Q v a
def AL(w:DW):Nat->s_ Slot->(Slot->Nat->Prop)->Prop:=λn a P=>w n a λd b=>P (.sh d) b
def Bu(w:DW):Nat->s_ Slot->(Slot->Nat->Prop)->Prop:=λn a P=>w n a λd b=>P (.br d) b
def BE(i:Nat):Nat->s_ Slot->(Slot->Nat->Prop)->Prop:=λn a P=>match a[i]? with
 |some .fd=>P .fd n
 |_=>False
def AY:T2:=λn _ P=>P [] n
def AE(w:Nat->s_ Slot->(Slot->Nat->Prop)->Prop)(b:T2):T2:=λn a P=>w n a λs c=>b c a λd e=>P (s::d) e
def AZ(W:W2)(a:T2):DW:=λn b P=>a n b λc d=>W c d P
section
variable {X:Cx}{a e:Expr}{es:s_ Expr}{κ zS:Kd}{wa:DW}{pos:Pos}{w1:Nat->s_ Slot->(Slot->Nat->Prop)->Prop}{was:T2}
def AO(h:DE X e κ wa)(b:κ≠.tp:=by intro z;cases z):dD X e^AL wa:=by
 let#[t,c,g]:=h;exact#[t,c,λC M H n i Z P Q R w q=>g C M H n i Z _ _ R w λv j d k e f r p=>q v j (.sh d) k e f #[#[v,rfl,r.shOf R.dom b],rfl] p]
def DY(h:DE X e κ wa):dD X e^Bu wa:=by
 let#[t,b,c]:=h;exact#[t,b,λC M H n g Z P Q R w q=>c C M H n g Z _ _ R w λv i d j e f r p=>q v i (.br d) j e f #[#[v,rfl,r.tpOf R.dom R.vM],rfl] p]
def BN(i:Nat){x:Str}{pos:Pos}(d:X.N[i]?=P3 x:=by rfl)(e:Tz X.env.scope x:=by first|exact TW rfl|exact iI (TW rfl)|exact iI (iI rfl))(b:(x==("__debug__":Str))=r_:=by cbv)
  (c:(x==("__classdict__":Str))=r_:=by cbv):dD X (.Name x pos)^BE i:=by
 refine#[_,Ex d e b c,λC M H n j Z P Q R w q=>?_];unfold BE at w
 split at w
 .rename_i b
  let#[f,g,h]:=R.sl i _ b;exact#[_,getD_some g,q _ H .fd n (Ext.refl _ _) R.feed #[#[f,rfl,h],rfl] w]
 grind
def AM:Y0 X [] AY:=#[_,Cb,λC M H n b Z P Q R w q=>q [] H [] n (Ext.refl _ _) R.feed .nil w]
def AB(i:dD X e w1)(j:Y0 X es was)(k:starEach (e::es) X.env=(r_,eval e X.env)::starEach es X.env:=by rfl):Y0 X (e::es)^AE w1 was:=by
 let#[t,l,m]:=i;let#[u,o,r]:=j;refine#[_,Bl l o k,λC M H n c Z P Q R w q=>?_];refine m C M H n c Z _ _ R w λv s d x f y g p=>?_;have h:=R.step f y;exact r C M s x c Z _ _ h p λF H2 G A b B D E=>q _ H2 _ A (f.trans b) B (.cons #[g.1.pres (h.pres b) (λ_ z=>z) b R.uV,g.2] D) E
def YE{k:Nat}{f:Db}{fd:gy}{b:s_ Str}{W:W2}{x:Str}{p:Pos}(G:CW X.prog X.w X.K X.mg X.base FV k f fd b^Tu X.K κ W b.length)(o:∀c n P,W c n P->c.length=b.length)
  (r:Room k X.A) (s:Gl X x) (u:X.mg x=P3^.ref f) (y:keepIn X.K^.ref f=q_) (z:Binds X.K fd b []) (B:Y0 X (e::es) was)
  (h:(x==("__debug__":Str))=r_:=by cbv) (D:starEach (e::es) X.env=(r_,eval e X.env)::starEach es X.env:=by rfl) (i:(backTo pos^starEach es X.env).any (·.1)=r_:=by rfl):
  DE X (.Call (.Name x p) (e::es) [] pos) κ (AZ W was):=by
 let#[t,E,F]:=B;refine#[_,RS G r s u y z .nil Yj E h D i,λC M H n I Z P Q R w q=>?_];refine F C M H n I Z _ _ R w λU V c J j l m p=>?_;have g:=R.step j l;rw[gK];exact#[(Paired.length m).trans^o _ _ _ p,_,_,_,M,J,c,P,#[g.dom,g.fU,g.uV,g.vM,l,m],p,λv H2 d L N O S T=>q v H2 d L (j.trans N) O (VR.back j S) T]
def eR(T:String)(d:D):Prop:=match d with
 |.str _=>T="str"
 |.int _=>T="int"
 |.lst _=>T="list"
 |_=>False
def Vi{T:String}{K:Frag}{U:Db->Prop}{M:Db->Prop}{H:Hp}{d:D}{x:V}(h:eR T d)(hx:AtT K U M H d x):df K T x H:=by
 cases d with
 |str z=>let#[e,_]:=hx;subst e;exact h
 |int i=>cases(hx);exact h
 |lst f=>let#[a,b,e,_,c,_]:=hx;subst e;exact .inl #[h,b,.inl c]
 |_=>exact(h).elim
def DO(X:Cx)(e:t_ gZ)(w:Nat->s_ Slot->(t_ Int->Nat->Prop)->Prop):Prop:=∃t,PO X e t/\∀(C:Fm) (M:Db->Prop) (H:Hp) (n:Nat) (c:s_ Slot) (Z:L2.St) (P:t_ Int->Nat->Prop) (Q:t_ Int->Hp->Prop),Rel X.K C M H n c Z->w n c P->
 (∀o b d,Ext C.U H b->FeedC X.K C.F M b d->P o d->Q o b)->t Z H Q
def BD:Nat->s_ Slot->(t_ Int->Nat->Prop)->Prop:=λn _ P=>P p_ n
def Bn(w:DW):Nat->s_ Slot->(t_ Int->Nat->Prop)->Prop:=λn b P=>w n b λd c=>match d with
 |.int i=>P (P3 i) c
 |_=>False
def Bb:DO X p_ BD:=#[_,RQ,λC M H n b Z P Q R w q=>q _ H n (Ext.refl _ _) R.feed w]
def KY{U:Db->Prop}{K:Frag}{M:Db->Prop}{H b:Hp}{v:V}{i:Int}(h:VR K U M H b κ v^.int i):v=.int i:=by
 cases κ with
 |sh=>exact h
 |tp=>exact h
 |fr=>let#[a,_,_,t]:=h;exact(t).elim
def BP(h:DE X e κ wa):DO X (P3 e)^Bn wa:=by
 let#[t,b,c]:=h;refine#[_,RP b,λC M H n f Z P Q R w q=>?_];refine c C M H n f Z _ _ R w λv g d j k l m p=>?_;cases d with
 |int i=>exact#[i,KY m,q _ g j k l p]
 |_=>exact p.elim
def fP(K:Frag)(κ:Kd)(r:V->t_ Int->t_ Int->Hp->VK->Prop)(f:D->t_ Int->t_ Int->(D->Prop)->Prop):Prop:=∀(U:Db->Prop) (M:Db->Prop) (H:Hp) (d:D) (x:V) (c e:t_ Int) (P:D->Prop) (Q:VK),(∀a,M a->∃o,H a=P3 o)->(∀a,U a->M a)->
 AtT K U M H d x->f d c e P->(∀v b z,Grow H b->VR K U M H b κ v z->P z->Q v b)->r x c e H Q
def HN(f:D->t_ Int->t_ Int->(D->Prop)->Prop)(w:DW)(c e:Nat->s_ Slot->(t_ Int->Nat->Prop)->Prop):DW:=λn b P=>w n b λd g=>c g b λh i=>e i b λj k=>f d h j λz=>P z k
def CT{i j:t_ gZ}{k:Pos}{r:V->t_ Int->t_ Int->Hp->VK->Prop}{f:D->t_ Int->t_ Int->(D->Prop)->Prop}{s x:Nat->s_ Slot->(t_ Int->Nat->Prop)->Prop}(B:SlR X r)(E:fP X.K κ r f)(F:DE X e zS wa)(G:DO X i s)(I:DO X j x):
  DE X (.Subscript e (.Slice i j p_ k) pos) κ (HN f wa s x):=by
 let#[t,J,L]:=F;let#[u,N,O]:=G;let#[u',S,T]:=I;refine#[_,OQ B J N S,λC M H n l Z P Q R w q=>?_];refine L C M H n l Z _ _ R w λv U d W m Y r1 p=>?_;have o:=R.step m Y;have tv:=r1.tpOf R.dom R.vM;refine O C M U W l Z _ _ o p λi H2 n2 c f2 k=>?_;have b:=o.step c f2;refine T C M H2 n2 l Z _ _ b k λj H3 n3 h y p3=>?_;have A:=b.step h y;refine E C.V M H3 d v i j _ _ A.dom A.vM ((tv.pres (o.pres c) c R.uV).pres (b.pres h) h R.uV) p3 λv H4 z g vr pz=>?_;exact q v H4 z n3 (((m.trans c).trans h).trans g.ext) (y.grow g) (VR.back ((m.trans c).trans h) vr) pz
end
structure E2 where
 nx:Nat->List Slot->Prop
 rt:D->Nat->Prop
 bk:Nat->List Slot->Prop:=λ_ _=>False
 ct:Nat->List Slot->Prop:=λ_ _=>False
abbrev Aa:=E2->Nat->s_ Slot->Prop
structure HK (K:Frag) (C:Fm) (κ:Kd) (D2:E2) (E:Ends):Prop where
 nx:∀M H n ρ Z,Rel K C M H n ρ Z->D2.nx n ρ->E.nx Z H
 rt:∀v H d n,Ext C.U C.H0 H->FeedC K C.F C.M0 H n->VR K C.V C.M0 C.H0 H κ v d->D2.rt d n->E.rt v H
 bk:∀M H n ρ Z,Rel K C M H n ρ Z->D2.bk n ρ->E.bk Z H
 ct:∀M H n ρ Z,Rel K C M H n ρ Z->D2.ct n ρ->E.ct Z H
def DS(X:Cx)(c:Kd)(st:gf)(w:Aa):Prop:=∃t,PS X st t/\∀(C:Fm) (M:Db->Prop) (H:Hp) (n:Nat) (a:s_ Slot) (Z:L2.St) (b:E2) (E:Ends),Rel X.K C M H n a Z->HK X.K C c b E->w b n a->t E Z H
def Pe(X:Cx)(c:Kd)(st:s_ gf)(w:Aa):Prop:=∃t,PSs X st t/\∀(C:Fm) (M:Db->Prop) (H:Hp) (n:Nat) (a:s_ Slot) (Z:L2.St) (b:E2) (E:Ends),Rel X.K C M H n a Z->HK X.K C c b E->w b n a->t E Z H
def Av:Aa:=λa n b=>a.nx n b
def Ae(u v:Aa):Aa:=λa n b=>u {a with nx:=v a} n b
def Au(w:DW):Aa:=λa n b=>w n b λd c=>a.rt d c
def BH(t:HM)(u v:Aa):Aa:=λb n a=>t n a λc d=>if c=q_ then u b d a else v b d a
def BI(i:Nat)(w:DW):Aa:=λb n a=>w n a λd c=>b.nx c^a.set i^.sh d
section
variable {X:Cx}{κ zM:Kd}{st:Stmt}{rest:s_ Stmt}{u v:Aa}{wa:DW}{wA:HM}{e c:Expr}{pos:Pos}
def Al:Pe X κ [] Av:=#[_,Mo,λC M H n a Z b E R L w=>L.nx M H n a Z R w]
def AF(c:DS X κ st u)(d:Pe X κ rest v):Pe X κ (st::rest)^Ae u v:=by
 let#[t,e,f]:=c;let#[i,g,h]:=d;exact#[_,BQ e g,λC M H n a Z b E R L w=>f C M H n a Z {b with nx:=v b} _ R #[λM H n a Z R w=>h C M H n a Z b E R L w,L.rt,L.bk,L.ct] w]
def AH(a:DS X κ st u):Pe X κ [st] u:=by
 let#[t,b,c]:=a;exact#[t,Cy b,c]
def ZU{K:Frag}{C:Fm}{M:Db->Prop}{H g:Hp}{n h:Nat}{j:s_ Slot}{Z:L2.St}{i:E2}{E:Ends}{d:D}{v:V}(R:Rel K C M H n j Z)(L:HK K C κ i E)(e:Ext C.U H g)(f:FeedC K C.F M g h)(r:VR K C.V M H g κ v d)(o:κ≠.tp)(p:i.rt d h):E.rt v g:=by
 have c:Pres M g _ g:=Pres.less R.sub;refine L.rt v g d h (R.ext.trans e) (f.pres c λ_ _ _ z=>z) ?_ p;cases κ with
 |sh=>exact At.pres c r
 |tp=>grind
 |fr=>
  let#[a,k,l,m]:=VR.back R.ext r;exact#[a,k,l,m.pres (Pres.less λb z=>z.imp (R.sub b) id) λ_ z=>z]
def Ah(h:DE X e κ wa)(a:κ≠.tp:=by intro z;cases z):DS X κ (.Return (P3 e) pos)^Au wa:=by
 let#[t,b,c]:=h;exact#[_,GD b,λC M H n f Z k E R L w=>c C M H n f Z _ _ R w λv l d m g i j p=>ZU R L g i j a p]
def BF{a b:s_ gf}(j:DT X c wA)(k:Pe X κ a u)(l:Pe X κ b v):DS X κ (.If c a b pos)^BH wA u v:=by
 let#[t,m,o]:=j;let#[z,q,r]:=k;let#[s,x,y]:=l;refine#[_,RO m q x,λC M H n d Z e E R L w=>?_];refine o C M H n d Z _ _ R w λb f g h i p=>?_;cases b with
 |true=>exact r C M f g d Z e E (R.step h i) L p
 |false=>exact y C M f g d Z e E (R.step h i) L p
def Aq{i:Nat}{x:Str}{a:Pos}(b:X.N.Nodup)(c:X.N[i]?=P3 x)(hx:Loc X.env.scope x)(f:DE X e zM wa)(g:zM≠.tp:=by intro z;cases z)(h:swapsWith e (P3^.Name x a) pos.line X.env=pure r_:=by rfl)
  (j:X.fn x=q_\/X.env.scope.names.lookup x=P3 .local:=by first|exact .inl rfl|exact .inr rfl|assumption):DS X κ (.Assign [.Name x a] e pos)^BI i wa:=by
 let#[t,k,l]:=f;exact#[_,Ew b c hx k h j,λC M H n m Z y E R L w=>l C M H n m Z _ _ R w λv o d q r s u p=>L.nx M o q _ _ ((R.step r s).set^u.shOf R.dom g) p]
end
section
variable {X:Cx}{κ:Kd}{e:Expr}{wa:DW}{pos:Pos}
def CP(i:Nat)(w:DW):Aa:=λb n a=>w n a λd c=>b.nx c^a.set i^.ow d
def Bm{i:Nat}{x:Str}{b:Pos}(c:X.N.Nodup)(f:X.N[i]?=P3 x)(hx:Loc X.env.scope x)(g:DE X e .fr wa)(h:swapsWith e (P3^.Name x b) pos.line X.env=pure r_:=by rfl)
  (j:X.fn x=q_\/X.env.scope.names.lookup x=P3 .local:=by first|exact .inl rfl|exact .inr rfl|assumption):DS X κ (.Assign [.Name x b] e pos)^CP i wa:=by
 let#[t,k,l]:=g;refine#[_,Ew c f hx k h j,λC M H n m Z A E R L w=>?_];refine l C M H n m Z _ _ R w λv o d q r s u p=>?_;let#[a,rfl,y,z]:=u;exact L.nx _ o q _ _ (R.setOw r s y z) p
def JN(i:Nat):Aa:=λa n b=>∃d,b[i]?=P3^.ow d/\a.rt d n
def NO{x:Str}{p:Pos}(i:Nat)(h:PE X (.Name x p)^B6 i):DS X .fr (.Return (P3^.Name x p) pos)^JN i:=by
 refine#[_,GD h,λC M H n g Z j E R L #[d,c,f]=>?_];let#[a,e,m,k,t]:=R.sl i _ c;exact#[_,getD_some e,L.rt _ H d n R.ext (R.feed.pres (Pres.less R.sub) λ_ _ _ z=>z) #[a,rfl,(R.new i _ a c rfl e).2,t.pres (Pres.less λb z=>z.elim (R.sub b) λz=>by grind) λ_ z=>z] f]
def Wj(K:Frag)(r:V->s_ V->Hp->VK->Prop)(f:D->s_ D->(D->D->Prop)->Prop):Prop:=∀(M:Db->Prop) (H:Hp) (a:Db) (d:D) (b:s_ D) (c:s_ V) (P:D->D->Prop) (Q:VK),M a->Tops K M H a d->Ats K M H b c->f d b P->
 (∀o e z v,Tops K M (A5 H a o) a e->At K M (A5 H a o) z v->P e z->Q v^A5 H a o)->r (.ref a) c H Q
def Ij(i:Nat)(T:String)(f:D->s_ D->(D->D->Prop)->Prop)(b:Ef):Aa:=λc n a=>∃d,a[i]?=P3^.ow d/\eR T d/\b n a λg h=>f d g λe _=>c.nx h^a.set i^.ow e
def Cz{M:Db->Prop}{H:Hp}{a:Db}{o u:HO}(m:M a)(e:H a=P3 u)(t:∀c,u≠.tup c:=by intro _ z;cases z):Pres M H M^A5 H a o:=#[λb f q d=>by rw[AS λz=>d^by simp_all];exact q,λ_ z=>.inl z,λb c q=>by rw[AS λz=>by grind];exact q]
def Cr{x name:Str}{p c b:Pos}{T w:String}{r:V->s_ V->Hp->VK->Prop}{f:D->s_ D->(D->D->Prop)->Prop}{j:s_ gZ}{I:Ef}(i:Nat)(N:PlainAttrs T)(q:PySem.Slot T name w)(y:typeOf^.builtin w=pure^.type "method_descriptor")
  (O:dU X w r) (P:Wj X.K r f) (h:PE X (.Name x p)^B6 i) (Q:Y1 X (e::j) I)
  (k:attributeBase (.Name x p) name X.env^eval (.Name x p) X.env=eval (.Name x p) X.env:=by rfl)
  (s:((backTo b^starEach (e::j) X.env).all (λx=>!x.1)&&(backToKw b^keywordEach [] X.env).all (λx=>x.1.isSome)
   && decide ((e::j).length+([]:s_ kd).length+(if([]:s_ kd).isEmpty then 0 else 1)<30))=q_:=by rfl)
  (l:(c.endLine==b.line)=q_:=by rfl) (S:starEach (e::j) X.env=(r_,eval e X.env)::starEach j X.env:=by rfl) (g:(backTo b^starEach j X.env).any (·.1)=r_:=by rfl)
  (A:swapsWith (.Call (.Attribute (.Name x p) name c) (e::j) [] b) p_ pos.line X.env=pure r_:=by rfl):
  DS X κ (.Expr (.Call (.Attribute (.Name x p) name c) (e::j) [] b) pos) (Ij i T f I):=by
 let#[t,U,W]:=Q;refine#[_,XI (Yi N q y O h U k s l S g) A,λC M H n Y Z D2 E R L #[d,B,hT,hw]=>?_];let#[a,F,m,nv,tt]:=R.sl i _ B;exists .ref a,getD_some F,Vi hT^tt.att nv;refine W C M H n Y Z _ _ R hw λvs H1 ds n1 ee f1 r1 p=>?_;have J:=R.step ee f1;let#[a',u,m',a0,G]:=J.sl i _ B;rw[F]at u;cases u;exact P M H1 a d ds vs _ _ m' G r1 p λo d' z v t2 hz pp=>L.nx M _ n1 _ Z (J.mut B F t2) pp
def Dy(d:D)(b:s_ D)(P:D->D->Prop):Prop:=∃a y,d=.lst a/\b=[y]/\a.length<sizeLine/\P (.lst (a++[y])) .non
def Dd{K:Frag}:Wj K RK Dy:=by
 intro M H a d j k P Q m t e w q;let#[l,y,rfl,rfl,f,w]:=w;let#[g,b,c]:=t;let#[u,r,rfl,h,i]:=e;cases(i);exact#[a,g,u,rfl,rfl,b,by rw[c.length];exact f,q _ (.lst _) .non _ #[_,Af,(c.append^Ats.one h).pres^Cz m b] rfl w]
def cT(d:D)(c:s_ D)(P:D->D->Prop):Prop:=∃a b,d=.lst a/\c=[.lst b]/\a.length+b.length<=sizeLine/\P (.lst (a++b)) .non
def cm{K:Frag}:Wj K RJ cT:=by
 intro M H a d o p P Q m t g w q;let#[s,v,rfl,rfl,h,w]:=w;let#[i,c,e]:=t;let#[u,r,rfl,j,k]:=g;cases(k);let#[b,l,rfl,n,f]:=j;exact#[a,b,i,l,rfl,rfl,c,n.2,by rw[e.length,f.length];exact h,q _ (.lst _) .non _ #[_,Af,(e.append f).pres^Cz m c] rfl w]
end
def Yields(K:Frag)(M:Db->Prop)(H:Hp)(J:It)(e:s_ D):Prop:=∀(i:Nat) (c:Db->Prop) (b:Hp),Pres M H c b->(∀a,c a->∃o,b a=P3 o)->
 (∀d,e[i]?=P3 d->J.go i b/\∀x H2,J.yld i b x H2->Grow b H2/\At K c H2 d x)/\(e.length<=i->J.stop i b)
def SK(K:Frag)(U M:Db->Prop)(H:Hp)(J:It)(e:s_ D):Prop:=∀(i:Nat) (c:Db->Prop) (b:Hp),Pres M H c b->Ext U H b->(∀a,c a->∃o,b a=P3 o)->
 (∀d,e[i]?=P3 d->J.go i b/\∀x H2,J.yld i b x H2->Grow b H2/\At K c H2 d x)/\(e.length<=i->J.stop i b)
def Yields.e{K:Frag}{U M:Db->Prop}{H:Hp}{J:It}{a:s_ D}(h:Yields K M H J a):SK K U M H J a:=λi b c p _ d=>h i b c p d
def dC(X:Cx)(g a:gZ)(w:Ef):Prop:=∃c,PI X g a c/\∀(C:Fm) (M:Db->Prop) (H:Hp) (n:Nat) (d:s_ Slot) (Z:L2.St) (P:s_ D->Nat->Prop) (R:It->Hp->Prop),Rel X.K C M H n d Z->w n d P->
 (∀J b e f,Ext C.U H b->FeedC X.K C.F M b f->SK X.K C.U M b J e->P e f->R J b)->c Z H R
def DI(X:Cx)(g a:gZ)(w:Ef):Prop:=∃c,PI X g a c/\∀(C:Fm) (M:Db->Prop) (H:Hp) (n:Nat) (d:s_ Slot) (Z:L2.St) (P:s_ D->Nat->Prop) (R:It->Hp->Prop),Rel X.K C M H n d Z->w n d P->
 (∀J b e f,Ext C.U H b->FeedC X.K C.F M b f->Yields X.K M b J e->P e f->R J b)->c Z H R
def signs(x:Str):s_ D:=x.cps.toList.map λc=>.str #[#[ c]]
def BA(w:DW):Ef:=λn c P=>w n c λd a=>match d with
 |.lst b=>P b a
 |.tup b=>P b a
 |.str x=>P (signs x) a
 |_=>False
def N3{K:Frag}{M:Db->Prop}{H:Hp}{a:Db}{b:s_ V}{f:s_ D}(h:NdL M H a b)(g:Ats K M H f b):Yields K M H (fD K a) f:=by
 intro i o j p _;have c:SqL K j a b:=(h.pres p).sq;refine#[λd k=>?_,λl=>#[b,c,by rw[g.length];exact l]];let#[v,e,m]:=(g.pres p).get k;refine#[#[b,v,c,e],λx H2 y=>?_];let#[n,y]:=y;subst n
 have:=e.symm.trans^y b c
 cases this;exact#[.refl,m]
def JL{K:Frag}{M:Db->Prop}{H:Hp}{a:Db}{b:s_ V}{f:s_ D}(h:NdT M H a b)(g:Ats K M H f b):Yields K M H (aj K a) f:=by
 intro i o j p _;have c:SqT K j a b:=(h.pres p).sq;refine#[λd k=>?_,λl=>#[b,c,by rw[g.length];exact l]];let#[v,e,m]:=(g.pres p).get k;refine#[#[b,v,c,e],λx H2 y=>?_];let#[n,y]:=y;subst n
 have:=e.symm.trans^y b c
 cases this;exact#[.refl,m]
def yields_str{K:Frag}{M:Db->Prop}{H:Hp}{z:Str}:Yields K M H (fC z)^signs z:=by
 intro i h j p _;refine#[λd a=>?_,λe=>?_]
 .unfold signs at a
  rw[gM]at a
  have f:i<z.cps.size:=by
   cases q:z.cps.toList[i]? with
   |none=>simp_all
   |some c=>simpa using (gC.mp q).1
  refine#[f,λx H2 y=>?_];let#[g,c,k,rfl]:=y;subst g
  have:z.cps.toList[i]?=P3 c:=by grind
  rw[this]at a;have b:D.str #[#[ c]]=d:=gH a;subst b;exact#[.refl,rfl,by rw[gz];show 1<=16777216;decide]
 .show z.cps.size<=i
  unfold signs at e
  simp_all
def EA(a:Int)(n:Nat):s_ D:=(gi n).map fun(i:Nat)=>.int (a+(i:Int))
def MT{K:Frag}{M:Db->Prop}{H:Hp}{e:Int}{m:Nat}:Yields K M H (dW e m)^EA e m:=by
 intro i k l p _;refine#[λd a=>?_,λg=>?_]
 .unfold EA at a
  rw[gM]at a
  have f:=by
   cases q:(gi m)[i]? with
   |none=>simp_all
   |some c=>simpa using (gC.mp q).1
  rw[List.getElem?_range f]at a;have b:=gH a;subst b;refine#[f,λx H2 y=>?_];let#[h,j]:=y;subst h;exact#[.refl,j]
 .show m<=i
  unfold EA at g
  simp_all
section
variable {X:Cx}{tg e e2:Expr}{κ:Kd}{wa:DW}{ws:Ef}{p pos:Pos}
def Cu(h:DE X e κ wa)(o:κ≠.tp:=by intro z;cases z):DI X tg e^BA wa:=by
 let#[t,r,s]:=h;refine#[_,Mr r,λC M H n u Z P y R w q=>?_];refine s C M H n u Z _ _ R w λv c d f g i x p=>?_;have j:=x.shOf R.dom o;cases d with
 |lst k=>
  let#[a,l,e,b,m]:=j;exact .inl #[a,e,#[l,b.sq],q _ c k f g i (N3 b m) p]
 |tup k=>
  let#[a,l,e,b,m]:=j;exact .inr^.inl #[a,e,#[l,b.sq],q _ c k f g i (JL b m) p]
 |str z=>exact .inr^.inr #[z,j.1,q _ c _ f g i yields_str p]
 |_=>exact p.elim
def IA(ws:Ef):Ef:=λn a P=>ws n a λb c=>∃j:Int,b=[.int j]/\(-(2 ^ 62)<=j/\j<2 ^ 62)/\P (EA 0 j.toNat) c
def EG(b:Gl X "range")(c:X.mg "range"=p_)(d:ar X [e] ws)(f:starEach [e] X.env=[(r_,eval e X.env)]:=by rfl):DI X tg (.Call (.Name "range" p) [e] [] pos)^IA ws:=by
 let#[t,g,h]:=d;refine#[_,Sq b c g f,λC M H n i Z P v R w q=>?_];refine h C M H n i Z _ _ R w λx k y l m o s p=>?_;let#[j,rfl,a,p]:=p;cases s with
 |cons r u=>
  cases u;exact#[j,by rw[r],a.1,a.2,q _ k _ l m o MT p]
def DI.c(h:DI X tg e ws):dC X tg e ws:=by
 let#[a,b,d]:=h;exact#[a,b,λC M H n f Z P g R w q=>d C M H n f Z P g R w λJ i j k l m y p=>q J i j k l m y.e p]
def CC(h:DE X e κ wa):dC X tg e^BA wa:=by
 let#[t,B,D]:=h;refine#[_,Mr B,λC M H n E Z P N R w q=>?_];refine D C M H n E Z _ _ R w λv g d k l m F p=>?_;have f:AtT X.K C.V M g d v:=F.tpOf R.dom R.vM;cases d with
 | lst r=>
  let#[a,b,e,u,c,j]:=f;refine .inl #[a,e,#[b,.inl c],q _ g r k l m (λi O G I ex _=>?_) p]
  have s:SqL X.K G a b:=by
   rcases c with c|⟨o,c⟩
   .exact .inl^.inl^ex.keep c λz=>u^R.uV a z
   .exact .inl^.inr #[o,ex.keep c λz=>u^R.uV a z]
  refine#[λd J=>?_,λL=>#[b,s,by rw[j.length];exact L]];let#[v,e,f]:=(j.pres I).get J;refine#[#[b,v,s,e],λx H2 y=>?_];let#[e2,y]:=y;subst e2
  have:P3 v=P3 x:=e.symm.trans^y b s
  cases this;exact#[.refl,f]
 |tup r=>
  let#[a,b,e,A,j]:=f;exact .inr^.inl #[a,e,#[b,A.sq],q _ g r k l m (JL A j).e p]
 |str z=>exact .inr^.inr #[z,f.1,q _ g _ k l m yields_str.e p]
 |_=>exact p.elim
end
abbrev BW:=D->s_ Slot->(s_ Slot->Prop)->Prop
def DG(X:Cx)(f:gZ)(b:BW):Prop:=∃g,PG X f g/\∀(C:Fm) (M:Db->Prop) (H:Hp) (n:Nat) (a:s_ Slot) (Z:L2.St) (d:D) (v:V) (P:s_ Slot->Prop) (Q:L2.St->Hp->Prop),Rel X.K C M H n a Z->At X.K M H d v->b d a P->
 (∀c e,Rel X.K C M H n c e->P c->Q e H)->g v Z H Q
def AR(i:Nat):BW:=λd a P=>P^a.set i^.sh d
def Ab{X:Cx}{i:Nat}{x:Str}{pos:Pos}(a:X.N.Nodup)(b:X.N[i]?=P3 x)(hx:Loc X.env.scope x)(c:X.fn x=q_\/X.env.scope.names.lookup x=P3 .local:=by first|exact .inl rfl|exact .inr rfl|assumption):DG X (.Name x pos)^AR i:=
 #[_,Gv a b hx c,λC M H n e Z d v P Q R h w q=>q _ _ (R.set h) w]
def A0(b:BW)(a:Aa)(c:E2):s_ D->Nat->s_ Slot->Prop
 |[],n,e=>c.nx n e
 |d::f,n,e=>b d e λg=>a {c with nx:=A0 b a c f,ct:=A0 b a c f,bk:=c.nx} n g
def C8(c:Ef)(b:BW)(a:Aa):Aa:=λe n d=>c n d λf g=>A0 b a e f g d
def Rel.unpin{K:Frag}{C:Fm}{p:(Db->Prop)×Hp}{M:Db->Prop}{H:Hp}{n:Nat}{a:s_ Slot}{Z:L2.St}(R:Rel K {C with zH:=p::C.zH} M H n a Z):Rel K C M H n a Z:=
 #[R.len,R.sub,R.dom,R.ext,R.fU,R.uV,R.vM,R.feed,R.sl,λq b=>R.pin q^TM _ b,R.br0,R.new,R.two,R.kept]
def Rel.pinned{K:Frag}{C:Fm}{M:Db->Prop}{H:Hp}{n:Nat}{a:s_ Slot}{Z:L2.St}(R:Rel K C M H n a Z):Rel K {C with zH:=(M,H)::C.zH} M H n a Z:=
 #[R.len,R.sub,R.dom,R.ext,R.fU,R.uV,R.vM,R.feed,R.sl,λq b=>(T0.mp b).elim (λe=>e▸Pres.refl M H)^R.pin q,R.br0,R.new,R.two,R.kept]
section
variable {X:Cx}{κ:Kd}{tg iter:Expr}{body:s_ Stmt}{src:Ef}{b:BW}{wb:Aa}{pos:Pos}
def By(S:kT (model X.prog X.w) X.A X.env X.xe)(T:X.calm=q_)(I:DI X tg iter src)(U:DG X tg b)(V:Pe X κ body wb)
  (W:∀x,foldedSetIterable iter X.env x=pure x:=by intro _;rfl):DS X κ (.For tg iter body [] pos)^C8 src b wb:=by
 let#[wi,Y,a2]:=I;let#[g,g1,g2]:=U;let#[tb,b1,b2]:=V;refine#[_,HY S T Y g1 b1 W,λC M H n N Z h E R L w=>?_];refine a2 C M H n N Z _ _ R w λJ u a n1 e1 f1 y w1=>?_;have R1:=R.step e1 f1;exists λi m v j=>m=a.length - i/\i<=a.length/\∃c k o,Rel X.K {C with zH:=(M,u)::C.zH} c j k o v/\A0 b wb h (a.drop i) k o,#[a.length,by simp,f8 _,M,n1,N,R1.pinned,w1];rintro i m v j ⟨rfl,I,c,k,o,l,z⟩;have O:Pres M u c j:=l.pin (M,u) Op
 by_cases d:i<a.length
 .have ed:a.drop i=a[i]::a.drop (i+1):=iO d
  rw[ed]at z;let#[go,yl]:=(y i c j O l.dom).1 a[i] (On d);refine .inr #[go,λP H2=>∃M2 B D,Rel X.K {C with zH:=(M,u)::C.zH} M2 H2 B D P/\A0 b wb h (a.drop (i+1)) B D,λP H2 #[M2,B,D,f,w2]=>#[a.length - (i+1),by lk,rfl,d,M2,B,D,f,w2],λx H2 hy=>?_];let#[Q,hx]:=yl x H2 hy;have f:=l.step Q.ext^l.feed.grow Q;refine g2 _ c H2 k o v a[i] x _ _ f hx z λzN zV R3 w3=>?_;refine b2 _ c H2 k zN zV {h with nx:=A0 b wb h^a.drop (i+1),ct:=A0 b wb h^a.drop (i+1),bk:=h.nx} _ R3 #[λp F q r G s t=>#[p,q,r,s,t],L.rt,λp F q r G s t=>L.nx p F q r G s.unpin t,λp F q r G s t=>#[p,q,r,s,t]] w3
 .have e:i=a.length:=by lk
  subst e;rw[ji]at z;exact .inl #[(y _ c j O l.dom).2 (Re _),L.nx c j k o v l.unpin z]
end
def E4(b:BW)(f:HM)(g:DW)(P:s_ D->Nat->Prop):s_ D->s_ D->Nat->s_ Slot->Prop
 |[],a,n,_=>P a n
 |d::h,a,n,j=>b d j λe=>f n e λc i=>if c=q_ then g i e λy k=>E4 b f g P h (a++[y]) k e else E4 b f g P h a i e
def VZ:Slot->Slot
 |.ow d=>.br d
 |.lt _ d=>.br d
 |s=>s
def TF(s:Slot):(VZ s).owns=r_:=by cases s <;>rfl
def KI{a:s_^t_ Nat}{b:s_ Slot}{i:Nat}{s:Slot}(h:(a.map λo=>match o with|some i=>VZ^(b[i]?).getD .no|none=>Slot.no)[i]?=P3 s):s.owns=r_:=by
 rw[gM]at h;cases q:a[i]? with
 |none=>grind
 | some o=>
  rw[q]at h;cases o with
  |none=>
   rw[←gH h];rfl
  |some j=>
   rw[←gH h];exact TF _
def KJ(a:s_^t_ Nat)(b:s_ Slot):s_ Slot:=a.map λo=>match o with
 |some i=>VZ^(b[i]?).getD .no
 |none=>.no
def CQ(f:s_^t_ Nat)(a:Ef)(b:BW)(g:HM)(h:DW):DW:=λn d P=>a n d λe i=>e.length<=10000000/\E4 b g h (λc j=>P (.lst c) j) e [] i^KJ f d
def dZ(X:Cx)(a:s_ gZ)(w:HM):Prop:=∃t,c5 X a t/\∀(C:Fm) (M:Db->Prop) (H:Hp) (n:Nat) (d:s_ Slot) (Z:L2.St) (P:Bool->Nat->Prop) (Q:Bool->Hp->Prop),Rel X.K C M H n d Z->w n d P->
 (∀b c e,Ext C.U H c->FeedC X.K C.F M c e->P b e->Q b c)->t Z H Q
def Ek:HM:=λn _ P=>P q_ n
def C1{X:Cx}:dZ X [] Ek:=#[_,XN,λC M H n a Z P Q R w q=>q _ H n (Ext.refl _ _) R.feed w]
def Fi{X:Cx}{c:gZ}{w:HM}(h:DT X c w):dZ X [c] w:=by
 let#[t,a,b]:=h;exact#[t,XM a,b]
def Lw{c:s_^t_ Nat}{d:s_ Slot}{Z:L2.St}{i:Nat}{s:Slot}(a:(KJ c d)[i]?=P3 s):s=.no\/∃(j:Nat) (b:Slot),d[j]?=P3 b/\s=VZ b/\((DU c Z)[i]?).getD p_=(Z[j]?).getD p_:=by
 unfold KJ at a;unfold DU;rw[gM]at a ⊢;cases q:c[i]? with
 |none=>simp_all
 | some o=>
  rw[q]at a;cases o with
  |none=>simp_all
  | some j=>
   have e:VZ _=s:=gH a;cases f:d[j]? with
   |none=>rw[f]at e;exact .inl e.symm
   |some b=>
    rw[f]at e;exact .inr #[j,b,f,e.symm,rfl]
def Vb{K:Frag}{F:t_ (Db×Db)}{U m M g:Db->Prop}{H h:Hp}{n:s_^t_ Nat}{o:s_ Slot}{Z:L2.St}(k:∀(i:Nat) (s:Slot),o[i]?=P3 s->SlotOk K F U M H s^(Z[i]?).getD p_)
  (p:Pres M H g h) (br:∀d v,AtT K U M H d v->AtT K m g h d v):∀(i:Nat) (s:Slot),(KJ n o)[i]?=P3 s->SlotOk K F m g h s^((DU n Z)[i]?).getD p_:=by
 intro i s u
 rcases Lw u with rfl|⟨j,r,q,rfl,e⟩
 .trivial
 .rw[e]
  have c:=k j r q;cases r with
  |no=>trivial
  |sh d=>let#[v,b,f]:=c;exact#[v,b,f.pres p]
  |ex a w x y=>let#[b,f]:=c;exact#[b,f.pres p]
  |br d=>let#[v,b,f]:=c;exact#[v,b,br d v f]
  |fd=>exact c
  |ow d=>let#[a,b,_,l,t]:=c;exact#[_,b,br d _^t.att l]
  |lt a d=>let#[b,_,l,t]:=c;exact#[_,b,br d _^t.att l]
def Xm{K:Frag}{F:t_ (Db×Db)}{U M:Db->Prop}{H:Hp}{k:s_^t_ Nat}{l:s_ Slot}{Z:L2.St}(g:∀(i:Nat) (s:Slot),l[i]?=P3 s->SlotOk K F U M H s^(Z[i]?).getD p_){i:Nat}{d:D}{a:Db}
  (p:(KJ k l)[i]?=P3^.br d) (m:((DU k Z)[i]?).getD p_=P3^.ref a):∃o,H a=P3 o:=by
 rcases Lw p with z|⟨j,n,q,z,e⟩
 .cases z
 .rw[e]at m
  have f:=g j n q;rw[m]at f;cases n with
  |br d=>let#[v,c,r]:=f;cases c;exact r.lies
  |ow d=>let#[b,c,_,h,t]:=f;cases c;exact(t.att h).lies
  |lt b d=>let#[c,_,h,t]:=f;cases c;exact(t.att h).lies
  |no=>cases z
  |sh d=>cases z
  |ex a u w x=>cases z
  |fd=>cases z
section
variable {X:Cx}{zM:Kd}{tg elt iter:Expr}{ifs:s_ Expr}{sc:Scope}{pos:Pos}{src:Ef}{b:BW}{tt:HM}{te:DW}
def YD(hc:X.calm=q_)(N':s_ Str)(js:s_^t_ Nat)(hi:dC X tg iter src)(hg:∀I C s H L,DG (BY X sc N' I C s H L) tg b)(ht:∀I C s H L,dZ (BY X sc N' I C s H L) ifs tt)(he:∀I C s H L,DE (BY X sc N' I C s H L) elt zM te)
  (hB:Oz sc X.env.scope X.N N' js=q_) (hk:zM≠.tp:=by intro z;cases z)
  (hs:∀x,foldedSetIterable iter X.env x=pure x:=by intro _;rfl):DE X (.ListComp elt [#[tg,iter,ifs,0]] sc pos) .fr^CQ js src b tt te:=by
 let#[wi,a1,a2]:=hi;refine#[_,XY hc N' js a1 hB hs,λC M H n ρ Z P Q R w q=>?_];refine a2 C M H n ρ Z _ _ R w λJ O r n1 u f1 y w1=>?_;let#[b2,w1]:=w1;have R1:=R.step u f1;intro l hl b4 I Ca s0 H0 L;let#[g,g1,g2]:=hg I Ca s0 H0 L;let#[tc,c1,c2]:=ht I Ca s0 H0 L;let#[tx,x1,x2]:=he I Ca s0 H0 L
 have a3:¬C.U l:=λz=>by
  let#[o,z]:=R1.udom l z;rw[hl]at z;cases z
 generalize S:(λb=>M b\/b=l)=M';have a4:M' l:=by rw[←S];exact .inr rfl
 have M'of:∀b,M b->M' b:=λb z=>by rw[←S];exact .inl z
 have a0:∀b,M' b->M b\/b=l:=λb z=>by rw[←S]at z;exact z
 have a9:∀b,C.V b\/b=l->M' b:=λb z=>z.elim (λz=>M'of b^R1.vM b z) λz=>by rw[z];exact a4
 have b3:js.length=N'.length:=G6 (CompOk.of hB).cap
 exists g,tc,tx,λi m zZ D=>m=r.length - i/\i<=r.length/\∃n' zY k E,Rel X.K #[M',C.F,C.U,λb=>C.V b\/b=l,O,[],[]] M' D n' zY zZ/\D l=P3^.lst E/\Ats X.K M' D k E/\k.length<=i/\Pres M O M' D /\
   E4 b tt te (λk n2=>P (.lst k) n2) (r.drop i) k n' zY,g1,c1,x1,#[r.length,by simp,f8 _,n1,KJ js ρ,[],[],?_]
 .have G:Grow O^A5 O l^.lst []:=A1 hl
  have T:Pres M O M'^A5 O l^.lst []:=#[λb o e _=>G.all b o e,λb z=>(a0 b z).elim .inl λz=>.inr (by rw[z];exact hl),λb E e=>G.all b _ e];refine#[#[?_,λa z=>z,λa z=>?_,G.ext,R1.fU,λa z=>.inl^R1.uV a z,a9,f1.pres T λf o _ e=>G.all f.1 o e,?_,λp hp=>absurd hp^by simp,λi d a q z=>Xm R1.sl q z,λi s a q o _=>absurd o (by rw[KI q];decide),λi j s t a q o _ _ _ _=>absurd o (by rw[KI q];decide),λp hp=>absurd hp^by simp],Af,rfl,f8 _,T,w1]
  .unfold KJ DU
   rw[No,No]
  .rcases a0 a z with z|z
   .let#[o,z]:=R1.dom a z
    exact#[o,G.all a o z]
   .subst z
    exact#[_,Af]
  .refine Vb R1.sl T λd v h=>h.same T (λa o _ e=>G.all a o e) λa e n1 z=>z.elim n1 λz=>?_
   subst e;let#[o,w]:=h.lies;rw[z,hl]at w;cases w
 .rintro i m zZ D ⟨rfl,hi,n',zY,k,E,R',a6,W,a7,T,w'⟩
  by_cases Y:i<r.length
  .have ed:r.drop i=r[i]::r.drop (i+1):=iO Y
   rw[ed]at w';let#[go,yl]:=(y i M' D T R'.ext R'.dom).1 r[i] (On Y);refine .inr #[go,λx H2 hy=>?_];let#[G,hx]:=yl x H2 hy;have b0:=R'.step G.ext^R'.feed.grow G;refine g2 _ M' H2 n' zY zZ r[i] x _ _ b0 hx w' λzN zV R3 w3=>?_;refine c2 _ M' H2 n' zN zV _ _ R3 w3 λc H4 n4 e4 f4 w4=>?_;have R4:=R3.step e4 f4;have p4:Pres M' D M' H4:=G.pres.trans^R3.pres e4;have l4:H4 l=P3^.lst E:=e4.keep (G.all _ _ a6) a3;cases c with
   |false=>exact#[r.length - (i+1),by lk,rfl,Y,n4,zN,k,E,R4,l4,W.pres p4,by lk,T.trans p4,w4]
   | true=>
    refine x2 _ M' H4 n4 zN zV _ _ R4 w4 λyv H5 d5 n5 e5 f5 r5 w5=>?_;have A:=R4.step e5 f5;have p5:Pres M' H4 M' H5:=R4.pres e5;have l5:H5 l=P3^.lst E:=e5.keep l4 a3;have b1:=r5.shOf R4.dom hk;have a5:=(W.pres p4).pres p5;have pu:Pres M' H5 M'^A5 H5 l^.lst (E++[yv]):=Cz a4 l5;have b5:E.length=k.length:=W.length;refine#[E,l5,by rw[gz];lk,r.length - (i+1),by lk,rfl,Y,n5,zN,k++[d5],E++[yv],?_,Af,(a5.append^Ats.one b1).pres pu,by rw[XV,gD];lk,(T.trans p4).trans^p5.trans pu,w5];refine#[A.len,A.sub,λa z=>?_,λb o e=>?_,A.fU,A.uV,A.vM,?_,λj s hs=>?_,λp hp=>absurd hp^by simp,A.br0,A.new,A.two,λp hp=>absurd hp^by simp]
    .by_cases ha:a=l
     .subst ha;exact#[_,Af]
     .rw[AS ha];exact A.dom a z
    .let#[o',q1,q2]:=A.ext b o e
     by_cases hb:b=l
     .subst hb
      have e':O b=P3 o:=e;rw[hl]at e';cases e'
     .exact#[o',by rw[AS hb];exact q1,q2]
    .refine f5.pres pu λf o hf e=>?_
     rw[AS λz=>a3^by rw[←z];exact R1.fU f hf];exact e
    .have B:=A.sl j s hs
     cases s with
     |no=>trivial
     |sh d=>let#[v,u,h2]:=B;exact#[v,u,h2.pres pu]
     |ex a nm ks r=>let#[u,h2]:=B;exact#[u,h2.pres pu]
     | br d=>
      let#[v,u,h2]:=B;refine#[v,u,h2.same pu (λa o z e=>?_) λ_ _ z=>z];subst z;let#[o3,w]:=A.br0 j d a hs u
      have a7:a≠l:=λz=>by
       have w':O a=P3 o3:=w;rw[z,hl]at w';cases w'
      rw[AS a7];exact e
     |ow d=>
      let#[a,u,h2,_]:=B;exact absurd h2 (A.new j _ a hs rfl u).1
     |lt a d=>
      let#[u,h2,_]:=B;exact absurd h2 (A.new j _ a hs rfl u).1
     |fd=>exact B
  .have e:i=r.length:=by lk
   subst e;rw[ji]at w';refine .inl #[(y _ M' D T R'.ext R'.dom).2 (Re _),?_];have eb:Ext C.U O D:=R'.ext;have a8:Pres M' D M D:=Pres.less M'of;refine q _ D (.lst k) n' (u.trans eb) (R'.feed.pres a8 λ_ _ _ z=>z) (VR.back u ?_) w';exact#[l,rfl,hl,E,a6,by rw[S];exact W]
end
def HS{K:Frag}{F:t_ (Db×Db)}{U k M:Db->Prop}{H:Hp}{n:Nat}{c:s_ Slot}{f:s_ V}{N:s_ Str}(h:ac K F U k M H n c f)(I:f.length<=N.length):
  Rel K #[M,F,U,k,H,[],[]] M H n (c++ZB (N.length - c.length) .no) (L2.start N f):=by
 let#[u,A,B,C,fd,q]:=h;have D:f.length=c.length:=Paired.length q
 have E:∀{f:s_ V}{c:s_ Slot}{i:Nat}{s:Slot},Paired (MS K F k M H) f c->c[i]?=P3 s->∃v,f[i]?=P3 v/\MS K F k M H v s:=by
  intro f c i s q
  induction q generalizing i with
  |nil=>intro e;simp at e
  | cons r t G=>
   intro e;cases i with
   |zero=>simp at e;subst e;exact#[_,rfl,r]
   |succ i=>
    let#[v,l,m]:=G (i:=i) (by simpa using e);exact#[v,by simpa using l,m]
 have g:∀(i:Nat) (s:Slot),(c++ZB (N.length - c.length) Slot.no)[i]?=P3 s->s=.no\/∃v,((L2.start N f)[i]?).getD p_=P3 v/\MS K F k M H v s:=by
  intro i s b
  by_cases x:i<c.length
  .rw[jZ x]at b
   let#[v,l,m]:=E q b;refine .inr #[v,?_,m];unfold L2.start;rw[jZ (by rw[No,D];exact x),gM,l];rfl
  .rw[iW^by lk,kg]at b
   split at b
   .exact .inl (gH b).symm
   .cases b
 refine#[?_,λa z=>z,u,Ext.refl _ _,A,B,C,fd,λi s b=>?_,λp w=>absurd w^by simp,λi d a b y=>?_,λi s a b o _=>?_,λi j s t a b o _ _ _ _=>?_,λp w=>absurd w^by simp]
 .unfold L2.start
  simp only[XV,No,mz];lk
 .rcases g i s b with rfl|⟨v,e,h⟩
  .trivial
  .rw[e];exact h.1
 .rcases g i _ b with z|⟨v,e,h⟩
  .cases z
  .rw[e]at y
   cases y;let#[v,l,m]:=h.1;cases l;exact m.lies
 .rcases g i s b with rfl|⟨v,e,h⟩
  .cases o
  .rw[h.2]at o;cases o
 .rcases g i s b with rfl|⟨v,e,h⟩
  .cases o
  .rw[h.2]at o;cases o
def eZ{P:gN}{w:gY}{K:Frag}{u:Str->t_ Ev}{e:gI}{x b:Str}{st:gf}{f:Db}{fd:gy}{N g:s_ Str}{k:Nat}{l:Kd}{W:W2}{y:Aa}(F:Fun K x b st f fd)(S:Ag N g^AI st)(D:g.length<=N.length)
  (G:∀(c:Ev) (A:gc) (a:s_ Env) (s:Go) (H:Hp) (E:XK),Room k^A.deeper^envOfC b (AI st) s.heap.objs.size f c->Pe (D1 FV P w K u e N b (AI st) f c A a s H E).nox l (BV st) y)
  (hW:∀j n i,j.length=g.length->W j n i->y {nx:=λn _=>l=.sh/\i .non n,rt:=i} n (j++ZB (N.length - g.length) .no)):
  CW P w K u e FV (k+1) f fd g (Tu K l W g.length):=by
 refine F.ok S (λB H Q E h=>h.1) λc A a s H B Q E I h=>?_;let#[hl,J,U,L,M,n,j,i,C,hw,q]:=h;let#[t,O,T]:=G c A a s H E I;exists t,O;have el:B.length=j.length:=Paired.length C.2.2.2.2.2;have R:=HS (N:=N) C (by lk);refine T #[M,J,U,L,H,[],[]] M H n _ _ {nx:=λn _=>l=.sh/\i .non n,rt:=i} _ R #[λM1 m o zQ zK r p=>?_,λv m d o V X Y p=>q v m d o V X Y p,λ_ _ _ _ _ _ z=>z.elim,λ_ _ _ _ _ _ z=>z.elim] ?_
 .let#[Z,p]:=p
  subst Z;exact q .non m .non o r.ext (r.feed.pres (Pres.less r.sub) λ_ _ _ z=>z) rfl p
 grind
end Dp
namespace L2
section
variable {X:Cx}
def Inv.rdl{c:s_ (Db×Obj)}{Z:L2.St}{H:Hp}{s:Go}{l:Db}{b:s_ V}(I:Inv X c Z H s)(h:Rd H l^.lst b):b.length<=sizeLine/\∃(a:s_ Ev) (n:Nat),Vals b a/\b.length=a.length/\s.heap.get? l=P3 {cls:=.type "list",data:=.seq a.toArray n}:=by
 let#[z,a,n,r,e]:=h.ok I.hok;exact#[z,_,n,r,r.length,e]
def RZ:OpR X (binaryOp .Add) (λx y H Q=>∃l b d f,x=.ref l/\y=.ref b/\Rd H l^.lst d/\Rd H b^.lst f/\d.length+f.length<=sizeLine/\∀p,H p=p_->Q (.ref p)^A5 H p^.lst (d++f)):=by
 intro A s Z H x y v u Q I g i h;let#[l,b,d,f,rfl,rfl,j,k,B,q]:=h;cases g;cases i;let#[z,c,n,r,C,e]:=I.rdl j;let#[D,a,E,m,o,t]:=I.rdl k;refine PySem.P.add_list e t ?_ (by grind);have w:c.toArray++a.toArray=(c++a).toArray:=by simp
 rw[w];exact#[.ref _,_,I.lnew (r.append m)^by grind,rfl,q _ I.fresh]
end
end L2
namespace Dp
open L2
section
variable {K:Frag}
def AtT.int{U M:Db->Prop}{H:Hp}{i:Int}{v:V}(h:AtT K U M H (.int i) v):v=.int i:=h
def AtT.bl{U M:Db->Prop}{H:Hp}{i:Bool}{v:V}(h:AtT K U M H (.bl i) v):v=.bl i:=h
def AtT.str{U M:Db->Prop}{H:Hp}{x:Str}{v:V}(h:AtT K U M H (.str x) v):v=.str x/\x.length<=sizeLine:=h
def AtT.tup{U M:Db->Prop}{H:Hp}{b:s_ D}{v:V}(h:AtT K U M H (.tup b) v):∃a c,v=.ref a/\NdT M H a c/\Ats K M H b c:=h
def dP(g:Int->Int->(D->Prop)->Prop)(d e:D)(P:D->Prop):Prop:=match d,e with
 |.int i,.int j=>g i j P
 |_,_=>False
def NJ{g:Int->Int->(D->Prop)->Prop}{d e:D}{P:D->Prop}(w:dP g d e P):∃i j,d=.int i/\e=.int j/\g i j P:=by
 unfold dP at w
 split at w
 .grind
 grind
def f2(g:Int->Int->D):D->D->(D->Prop)->Prop:=dP λi j P=>P^g i j
def Yr(C:Int->Int->Prop)(g:Int->Int->D):D->D->(D->Prop)->Prop:=dP λi j P=>C i j/\P^g i j
def Wd{g:Int->Int->Int}:Fo K .sh (Jr λi j=>.int^g i j) (f2 λi j=>.int^g i j):=by
 intro U M H d e x y P Q a f b c w q;let#[i,j,rfl,rfl,w]:=NJ w;exact#[i,j,b,c,q _ H (.int _) .refl rfl w]
def We{g:Int->Int->Bool}:Fo K .sh (Jr λi j=>.bl^g i j) (f2 λi j=>.bl^g i j):=by
 intro U M H d e x y P Q a f b c w q;let#[i,j,rfl,rfl,w]:=NJ w;exact#[i,j,b,c,q _ H (.bl _) .refl rfl w]
def Hv{C:Int->Int->Prop}{g:Int->Int->Int}:Fo K .sh (rI C λi j=>.int^g i j) (Yr C λi j=>.int^g i j):=by
 intro U M H d e x y P Q a f b c w q;let#[i,j,rfl,rfl,w]:=NJ w;exact#[i,j,b,c,w.1,q _ H (.int _) .refl rfl w.2]
def dN(g:Str->Str->(D->Prop)->Prop)(d e:D)(P:D->Prop):Prop:=match d,e with
 |.str i,.str j=>g i j P
 |_,_=>False
def Rq{g:Str->Str->(D->Prop)->Prop}{d e:D}{P:D->Prop}(w:dN g d e P):∃i j,d=.str i/\e=.str j/\g i j P:=by
 unfold dN at w
 split at w
 .grind
 grind
def aQ{g:Str->Str->Bool}:Fo K .sh (λx y H Q=>∃i j,x=.str i/\y=.str j/\Q (.bl^g i j) H) (dN λi j P=>P^.bl^g i j):=by
 intro U M H d e x y P Q a f b c w q;let#[i,j,rfl,rfl,w]:=Rq w;exact#[i,j,b.1,c.1,q _ H (.bl _) .refl rfl w]
def Tp:Fo K .sh (λx y H Q=>∃i j,x=.str i/\y=.str j/\i.length+j.length<=sizeLine/\Q (.str (i++j)) H) (dN λi j P=>i.length+j.length<=sizeLine/\P^.str (i++j)):=by
 intro U M H d e x y P Q a f b c w q;let#[i,j,rfl,rfl,w]:=Rq w;exact#[i,j,b.1,c.1,w.1,q _ H (.str _) .refl #[rfl,by rw[Str.length_append i j];exact w.1] w.2]
def eh(g:s_ D->s_ D->(D->Prop)->Prop)(d e:D)(P:D->Prop):Prop:=match d,e with
 |.tup i,.tup j=>g i j P
 |_,_=>False
def dO(g:s_ D->s_ D->(D->Prop)->Prop)(d e:D)(P:D->Prop):Prop:=match d,e with
 |.lst i,.lst j=>g i j P
 |_,_=>False
def Xx{g:s_ D->s_ D->(D->Prop)->Prop}{d e:D}{P:D->Prop}(w:eh g d e P):∃i j,d=.tup i/\e=.tup j/\g i j P:=by
 unfold eh at w
 split at w
 .grind
 grind
def Xy{g:s_ D->s_ D->(D->Prop)->Prop}{d e:D}{P:D->Prop}(w:dO g d e P):∃i j,d=.lst i/\e=.lst j/\g i j P:=by
 unfold dO at w
 split at w
 .grind
 grind
def Ce{M:Db->Prop}{H:Hp}{p:Db}{b:s_ V}{c:s_ D}(d:∀a,M a->∃o,H a=P3 o)(e:H p=p_)(h:Ats K M H c b):At K M (A5 H p^.tup b) (.tup c)^.ref p:=#[p,b,rfl,Af,h.pres (A1 e).pres]
def C5{U M:Db->Prop}{H:Hp}{p:Db}{a:s_ V}{b:s_ D}(c:H p=p_)(h:Ats K M H b a):VR K U M H (A5 H p^.lst a) .fr (.ref p)^.lst b:=
 #[p,rfl,c,a,Af,h.pres^GG c]
def To:Fo K .sh (U4 K) (eh λi j P=>i≠[]/\i.length+j.length<=sizeLine/\P^.tup (i++j)):=by
 intro U M H d e x y P Q c u o r w q;let#[i,j,rfl,rfl,w]:=Xx w;let#[a,g,rfl,h,f]:=o.tup;let#[b,s,rfl,t,k]:=r.tup;have l:=f.length;have m:=k.length;refine#[a,b,g,s,rfl,rfl,h.sq,t.sq,λz=>w.1 ?_,by simp_all,λz=>?_,λz p n=>?_]
 .rw[z]at l;exact kh.mp l.symm
 .rw[z]at m
  have:j=[]:=kh.mp m.symm
  subst this;exact q _ H (.tup i) .refl #[a,g,rfl,h,f]^by grind
 .exact q _ _ (.tup (i++j)) (A1 n) (Ce c n^f.append k) w.2.2
def MN:Fo K .fr (λx y H Q=>∃l b c f,x=.ref l/\y=.ref b/\Rd H l^.lst c/\Rd H b^.lst f/\c.length+f.length<=sizeLine/\∀p,H p=p_->Q (.ref p)^A5 H p^.lst (c++f)) (dO λi j P=>i.length+j.length<=sizeLine/\P^.lst (i++j)):=by
 intro U M H d e x y P Q m v n o w q;let#[i,j,rfl,rfl,w]:=Xy w;let#[a,r,rfl,_,s,g]:=n;let#[b,t,rfl,_,u,h]:=o;exact#[a,b,r,t,rfl,rfl,s,u,by rw[g.length,h.length];exact w.1,λp k=>q _ _ _ (A1 k) (C5 k^g.append h) w.2]
def Ej(a:Bool)(d e:D)(P:D->Prop):Prop:=match d,e with
 |.bl i,.bl j=>P^.bl (if a then !(i==j)else i==j)
 |.int i,.int j=>P^.bl (if a then !(i==j)else i==j)
 |.str i,.str j=>P^.bl (if a then !(i==j)else i==j)
 |_,_=>False
def Rv{a:Bool}{d e:D}{P:D->Prop}(w:Ej a d e P):(∃i j,d=.bl i/\e=.bl j/\P^.bl (if a then !(i==j)else i==j))\/(∃i j,d=.int i/\e=.int j/\P^.bl (if a then !(i==j)else i==j))\/∃i j,d=.str i/\e=.str j/\P^.bl (if a then !(i==j)else i==j):=by
 unfold Ej at w
 split at w
 .simp_all
 .simp_all
 .simp_all
 grind
def FO:Fo K .sh fJ^Ej r_:=by
 intro U M H d e x y P Q c f a b w q
 rcases Rv w with⟨i,j,rfl,rfl,w⟩|⟨i,j,rfl,rfl,w⟩|⟨i,j,rfl,rfl,w⟩
 .rw[a.bl,b.bl];exact#[rfl,q _ H _ .refl (by rw[NQ];rfl) w]
 .rw[a.int,b.int];exact#[rfl,q _ H _ .refl (by rw[JH];rfl) w]
 .rw[a.str.1,b.str.1];exact#[rfl,q _ H _ .refl (by rw[JG];rfl) w]
def PF:Fo K .sh fG^Ej q_:=by
 intro U M H d e x y P Q c f a b w q
 rcases Rv w with⟨i,j,rfl,rfl,w⟩|⟨i,j,rfl,rfl,w⟩|⟨i,j,rfl,rfl,w⟩
 .rw[a.bl,b.bl];exact#[rfl,q _ H _ .refl (by rw[NQ];rfl) w]
 .rw[a.int,b.int];exact#[rfl,q _ H _ .refl (by rw[JH];rfl) w]
 .rw[a.str.1,b.str.1];exact#[rfl,q _ H _ .refl (by rw[JG];rfl) w]
def Vj:D->Bool
 |.non=>q_
 |_=>r_
def Om{U M:Db->Prop}{H:Hp}{d:D}{x:V}(h:AtT K U M H d x):decide (x=.non)=Vj d:=by
 cases d with
 |non=>rw[h];rfl
 |bl b=>rw[h.bl];rfl
 |int i=>rw[h.int];rfl
 |str z=>rw[h.str.1];rfl
 |tup c=>let#[a,e,rfl,_]:=h.tup;rfl
 |lst c=>let#[a,e,rfl,_]:=h;rfl
 |dic f c=>let#[a,e,rfl,_]:=h;rfl
 |fdi f c=>let#[a,e,rfl,_]:=h;rfl
 |dit f c=>let#[a,e,rfl,_]:=h;rfl
def A7(d e:D)(P:D->Prop):Prop:=match d,e with
 |.lst a,.int i=>∃z,atI a i=P3 z/\P z
 |.tup a,.int i=>∃z,atI a i=P3 z/\P z
 |.str x,.int i=>∃c,atI x.cps.toList i=P3 c/\P^.str #[#[ c]]
 |_,_=>False
def Xz{d e:D}{P:D->Prop}(w:A7 d e P):(∃a i z,d=.lst a/\e=.int i/\atI a i=P3 z/\P z)\/(∃a i z,d=.tup a/\e=.int i/\atI a i=P3 z/\P z)\/∃x i c,d=.str x/\e=.int i/\atI x.cps.toList i=P3 c/\P^.str #[#[ c]]:=by
 unfold A7 at w
 split at w
 .simp_all
 .simp_all
 .simp_all
 grind
theorem Ats.atI{M:Db->Prop}{H:Hp}{a:s_ D}{b:s_ V}{i:Int}{z:D}(h:Ats K M H a b)(e:atI a i=P3 z):∃v,L2.atI b i=P3 v/\At K M H z v:=by
 unfold L2.atI at e ⊢;rw[h.length];cases q:Vg _ i with
 |none=>grind
 |some j=>
  rw[q]at e;exact h.get e
def Am:Fo K .sh (fH K) A7:=by
 intro U M H d e x y P Q n r f g w q
 rcases Xz w with⟨o,i,z,rfl,rfl,h,w⟩|⟨o,i,z,rfl,rfl,h,w⟩|⟨x,i,c,rfl,rfl,p,w⟩
 .let#[a,j,rfl,_,k,l]:=f
  let#[v,m,b]:=l.atI h;exact .inl #[a,j,i,v,rfl,g,.inl k,m,q v H z .refl b w]
 .let#[a,j,rfl,k,l]:=f.tup
  let#[v,m,b]:=l.atI h;exact .inr^.inl #[a,j,i,v,rfl,g,k.sq,m,q v H z .refl b w]
 .exact .inr^.inr #[x,i,c,f.str.1,g,f.str.2,p,q _ H (.str _) .refl #[rfl,by show 1<=16777216;decide] w]
def cutD{b:Type}(a:s_ b)(c d:t_ Int):s_ b:=(a.drop^HT.sIx a.length 0 c).take (HT.sIx a.length a.length d - HT.sIx a.length 0 c)
def Fx{R:V->D->Prop}{a:s_ V}{d:D}(h:Paired R a [d]):∃v,a=[v]/\R v d:=by
 cases h with
 |cons r t=>cases t;grind
def eN:D->t_ Nat
 |.str x=>P3 x.length
 |.tup a=>P3 a.length
 |.lst a=>P3 a.length
 |_=>p_
def C6(a:s_ D)(P:D->Prop):Prop:=∃d n,a=[d]/\eN d=P3 n/\P^.int (n:Int)
def CK:Eg K .sh (λe H Q=>∃x n,e=[x]/\ah K x H n/\Q (.int n) H) C6:=by
 intro U M H k l P Q i m j w q;let#[d,n,rfl,b,w]:=w;let#[v,rfl,c]:=Fx j;refine#[v,n,rfl,?_,q _ H (.int _) .refl rfl w];cases d with
 |str z=>cases b;rw[c.str.1];exact#[c.str.2,rfl]
 |tup e=>
  cases b;let#[a,f,rfl,g,h]:=c.tup;exact .inr #[f,g.sq,h.length.symm]
 |lst e=>
  cases b;let#[a,f,rfl,_,g,h]:=c;exact .inl #[f,.inl g,h.length.symm]
 |_=>cases b
def allB:s_ D->t_^s_ Bool
 |[]=>P3 []
 |.bl b::r=>(allB r).map (b::·)
 |_::_=>p_
theorem SI{M:Db->Prop}{H:Hp}:∀{d:s_ D}{a:s_ V}{c:s_ Bool},allB d=P3 c->Ats K M H d a->a=c.map V.bl
 |[],a,c,e,h=>by cases e;exact h
 |.bl b::r,a,c,e,h=>by
  let#[v,l,f,g,i]:=h;let#[j,k,rfl]:=iE.mp e;rw[f,SI k i,g];rfl
 |.non::r,a,c,e,h=>by cases e
 |.int _::r,a,c,e,h=>by cases e
 |.str _::r,a,c,e,h=>by cases e
 |.tup _::r,a,c,e,h=>by cases e
 |.lst _::r,a,c,e,h=>by cases e
 |.dic _ _::r,a,c,e,h=>by cases e
 |.fdi _ _::r,a,c,e,h=>by cases e
 |.dit _ _::r,a,c,e,h=>by cases e
def LQ(c:s_ D)(P:D->Prop):Prop:=∃a b,c=[.lst a]/\allB a=P3 b/\P^.bl^b.all id
def PL:Eg K .sh (λc H Q=>∃(p:Db) (b:s_ Bool),c=[.ref p]/\SqL K H p^b.map V.bl/\Q (.bl^b.all id) H) LQ:=by
 intro U M H j k P Q d l f w q;let#[c,b,rfl,e,w]:=w;let#[v,rfl,g]:=Fx f;let#[a,m,rfl,_,h,i]:=g
 have:=SI e i
 subst this;exact#[a,b,rfl,.inl h,q _ H (.bl _) .refl rfl w]
def Qn:s_ D->t_^s_ Str
 |[]=>P3 []
 |.str b::r=>(Qn r).map (b::·)
 |_::_=>p_
theorem SG{M:Db->Prop}{H:Hp}:∀{d:s_ D}{a:s_ V}{c:s_ Str},Qn d=P3 c->Ats K M H d a->a=c.map V.str
 |[],a,c,e,h=>by cases e;exact h
 |.str b::r,a,c,e,h=>by
  let#[v,l,f,g,i]:=h;let#[j,k,rfl]:=iE.mp e;rw[f,SG k i,g.1];rfl
 |.non::r,a,c,e,h=>by cases e
 |.int _::r,a,c,e,h=>by cases e
 |.bl _::r,a,c,e,h=>by cases e
 |.tup _::r,a,c,e,h=>by cases e
 |.lst _::r,a,c,e,h=>by cases e
 |.dic _ _::r,a,c,e,h=>by cases e
 |.fdi _ _::r,a,c,e,h=>by cases e
 |.dit _ _::r,a,c,e,h=>by cases e
def Ho(b:s_ D)(P:D->Prop):Prop:=match b with
 |[.lst a]=>P^.lst a
 |[.tup a]=>P^.lst a
 |_=>False
def Nd:Eg K .fr (λi H Q=>∃p c,i=[.ref p]/\(SqL K H p c\/SqT K H p c)/\∀l,H l=p_->Q (.ref l)^A5 H l^.lst c) Ho:=by
 intro U M H k m P Q j n h w q;unfold Ho at w
 split at w
 .let#[v,rfl,d]:=Fx h
  let#[a,e,rfl,_,f,g]:=d;exact#[a,e,rfl,.inl^.inl f,λl b=>q _ _ _ (A1 b) (C5 b g) w]
 .let#[v,rfl,d]:=Fx h
  let#[a,e,rfl,f,g]:=d.tup;exact#[a,e,rfl,.inr f.sq,λl b=>q _ _ _ (A1 b) (C5 b g) w]
 grind
end
def dH:D->String
 |.non=>"NoneType"
 |.bl _=>"bool"
 |.int _=>"int"
 |.str _=>"str"
 |.tup _=>"tuple"
 |.lst _=>"list"
 |.dic _ _=>"dict"
 |.fdi _ _=>"dict"
 |.dit _ _=>"dict"
def cH(t T:String):Bool:=t==T||(t=="bool"&&T=="int")
def El(T:String)(a:DW):DW:=λn b P=>a n b λd c=>P (.bl^cH (dH d) T) c
structure Wl (K:Frag) (T:String):Prop where
 ans:∀t∈["NoneType","bool","int","str","tuple","list","dict"],PySem.W.kitOne K (.type t)^.type T=P3^cH t T
def Wv{K:Frag}{M U:Db->Prop}{H:Hp}{d:D}{x:V}(h:AtT K U M H d x):GV K H x^.type^dH d:=by
 cases d with
 |non=>cases(h);exact .non
 |bl b=>cases h.bl;exact .bl b
 |int i=>cases h.int;exact .int i
 |str z=>cases h.str.1;exact .str z
 |tup e=>
  let#[a,f,rfl,c,j]:=h.tup;exact .tup c
 |lst e=>
  let#[a,f,rfl,_,c,j]:=h
  rcases c with c|⟨o,c⟩
  .exact .lst c
  .exact .frz c
 |dic g e=>
  let#[a,f,rfl,_,c,_]:=h;exact .dK c
 |fdi g e=>
  let#[a,f,rfl,#[o,_,c],_]:=h;exact .dF c
 |dit g e=>
  let#[a,f,rfl,_,c,_]:=h;exact .dT c
def Ww(d:D):dH d∈["NoneType","bool","int","str","tuple","list","dict"]:=by cases d <;>simp[dH]
def CA{X:Cx}{a:gZ}{o:Kd}{l:DW}{T:String}{b:Str}{p c pos:Pos}(r:Wl X.K T)(s:DE X a o l)(u:Gl X "isinstance")(x:X.mg "isinstance"=p_)(e:Gl X b)(f:X.mg b=p_)(g:bootBuiltins b=P3^.type T)
  (h:b ≠ "__name__":=by cbv) (i:(b==("__debug__":Str))=r_:=by cbv)
  (m:starEach [a,.Name b c] X.env=(r_,eval a X.env)::starEach [.Name b c] X.env:=by rfl) (j:starEach [.Name b c] X.env=[(r_,eval (.Name b c) X.env)]:=by rfl)
  (k:(backTo pos^starEach [.Name b c] X.env).any (·.1)=r_:=by rfl):DE X (.Call (.Name "isinstance" p) [a,.Name b c] [] pos) .sh^El T l:=by
 let#[t,y,z]:=s;have A:PE X (.Name b c)^tC^.ty T:=RT e f g rfl h i;exact#[_,EB O6 u x (by decide +kernel) (Bl y (Bl A Cb j) m) (by cbv) (by cbv) m k,λC M H n B Z P Q R w q=>z C M H n B Z _ _ R w λv D d E F G I p=>#[v,T,_,_,rfl,Wv^I.tpOf R.dom R.vM,r.ans _^Ww d,q _ D (.bl _) E F G rfl p]]
section
variable {K:Frag}{X:Cx}
def Yq(d e:D)(P:D->Prop):Prop:=match d,e with
 |.int i,.int j=>P^.int (i+j)
 |.str i,.str j=>i.length+j.length<=sizeLine/\P^.str (i++j)
 |.tup i,.tup j=>i≠[]/\i.length+j.length<=sizeLine/\P^.tup (i++j)
 |.lst i,.lst j=>i.length+j.length<=sizeLine/\P^.lst (i++j)
 |_,_=>False
def bo:R2:=λx y H Q=>∃l b a c,x=.ref l/\y=.ref b/\Rd H l^.lst a/\Rd H b^.lst c/\a.length+c.length<=sizeLine/\∀p,H p=p_->Q (.ref p)^A5 H p^.lst (a++c)
def bn:R2:=λx y H Q=>∃i j,x=.str i/\y=.str j/\i.length+j.length<=sizeLine/\Q (.str (i++j)) H
def bU(g:Str->Str->Bool):R2:=λx y H Q=>∃i j,x=.str i/\y=.str j/\Q (.bl^g i j) H
def U5(K:Frag):R2:=λx y H Q=>(Jr λi j=>.int (i+j)) x y H Q\/bn x y H Q\/U4 K x y H Q\/bo x y H Q
def op_addU:OpR X (binaryOp .Add)^U5 X.K:=op_add.or^(QL).or^op_catT.or^RZ
def Nf:Fo X.K .sh (U5 X.K) Yq:=λU M H d e x y P Q a b c f w q=>by
 unfold Yq at w
 split at w
 .exact .inl^Wd U M H _ _ x y P Q a b c f w q
 .exact .inr^.inl^Tp U M H _ _ x y P Q a b c f w q
 .exact .inr^.inr^.inl^To U M H _ _ x y P Q a b c f w q
 .exact .inr^.inr^.inr^MN U M H _ _ x y P Q a b c f w λv h z g r p=>q v h z g (r.shOf a^by grind) p
 grind
def cS(d e:D)(P:D->Prop):Prop:=match d,e with
 |.int i,.int j=>P^.bl (decide (i<j))
 |.str i,.str j=>P^.bl (decide (i.cps.toList<j.cps.toList))
 |_,_=>False
def ZX:R2:=λx y H Q=>(Jr λi j=>.bl (decide (i<j))) x y H Q\/bU (λi j=>decide (i.cps.toList<j.cps.toList)) x y H Q
def op_ltU:OpR X (compareOp .Lt) ZX:=op_lt.or Sw
def Yx:Fo X.K .sh ZX cS:=λU M H d e x y P Q a b c f w q=>by
 unfold cS at w
 split at w
 .exact .inl^We U M H _ _ x y P Q a b c f w q
 .exact .inr^aQ U M H _ _ x y P Q a b c f w q
 grind
def bh:R2:=Jr λi j=>.bl (decide (j<i))
def J5:OpR X (compareOp .Gt) bh:=Yk
def PK:Fo X.K .sh bh (f2 λi j=>.bl (decide (j<i))):=We
def bV:V->t_ Int->t_ Int->Hp->VK->Prop:=λx a b H Q=>∃z,x=.str z/\z.length<=sizeLine/\Q (.str^Txt.slice z a b) H
def sl_U:SlR X bV:=ZR
def Pl(w:DW):DW:=λn a P=>w n a λd b=>∃i,d=.int i/\P (.int (-i)) b
def Hu{a:gZ}{c:Kd}{b:DW}{pos:Pos}(h:DE X a c b):DE X (.UnaryOp .USub a pos) .sh^Pl b:=by
 let#[t,e,f]:=h;refine#[_,bw ZC e,λC M H n g Z P Q R w q=>?_];refine f C M H n g Z _ _ R w λv j d k l m o p=>?_;let#[i,rfl,p]:=p;exact#[i,KY o,q _ j (.int _) k l m rfl p]
def Got(P:gN)(w:gY)(K:Frag)(c:Str->t_ Ev)(a:gI)(x:Str)(k:Nat)(b:s_ Str)(e:Kd)(W:W2):Prop:=
 ∃f fd,CW P w K c a FV k f fd b^Tu K e W b.length/\c x=P3^.ref f/\keepIn K^.ref f=q_/\Binds K fd b []/\∀d n P,W d n P->d.length=b.length
def Bk{e:gZ}{a:s_ gZ}{k:Nat}{h:s_ Str}{g:Kd}{W:W2}{x:Str}{p pos:Pos}{b:T2}(G:Got X.prog X.w X.K X.mg X.base x k h g W)
  (i:Room k X.A) (j:Gl X x) (l:Y0 X (e::a) b)
  (c:(x==("__debug__":Str))=r_:=by cbv) (m:starEach (e::a) X.env=(r_,eval e X.env)::starEach a X.env:=by rfl) (d:(backTo pos^starEach a X.env).any (·.1)=r_:=by rfl):
  DE X (.Call (.Name x p) (e::a) [] pos) g (AZ W b):=by
 let#[f,fd,G,n,o,q,r]:=G;exact YE G r i j n o q l c m d
def Yh(b:Nat)(g:s_ D->D):W2:=λc n P=>∃a:s_ D,a.length=b/\c=a.map .sh/\P (g a) n
def Lp{a:Nat}{g:s_ D->D}{b:s_ Slot}{n:Nat}{P:D->Nat->Prop}(h:Yh a g b n P):b.length=a:=by
 let#[c,e,rfl,_]:=h
 grind
def NC:Wl K "int":=#[λt a=>by
 simp at a
 rcases a with rfl|rfl|rfl|rfl|rfl|rfl|rfl <;>kernel_rfl]
def Oi:Wl K "bool":=#[λt a=>by
 simp at a
 rcases a with rfl|rfl|rfl|rfl|rfl|rfl|rfl <;>kernel_rfl]
def NB:Wl K "str":=#[λt a=>by
 simp at a
 rcases a with rfl|rfl|rfl|rfl|rfl|rfl|rfl <;>kernel_rfl]
def kit_tuple:Wl K "tuple":=#[λt a=>by
 simp at a
 rcases a with rfl|rfl|rfl|rfl|rfl|rfl|rfl <;>kernel_rfl]
end
theorem HG{b:Type}(p:b->Bool):∀l:s_ b,allB (l.map λc=>.bl^p c)=P3^l.map p
 |[]=>rfl
 |a::l=>by
  rw[g9];unfold allB;rw[HG p l];rfl
def WO{a b:Bool}{P:D->Nat->Prop}{n:Nat}{k:(D->Nat->Prop)->Prop}(c:a=q_->P (.bl b) n->k P)(h:P (.bl (a&&b)) n):(match (.bl a:D)with|.bl q_=>k P|.bl r_=>P (.bl r_) n|_=>False):=by
 cases a with
 |false=>exact h
 |true=>grind
def Vt{P:gN}{w:gY}{K:Frag}{d:Str->t_ Ev}{a:gI}{x:Str}{st:gf}{f:Db}{fd:gy}{k:Nat}{c:s_ Str}{e:Kd}{W:W2}(F:Fun K x x st f fd)(m:d x=P3^.ref f)(b:Binds K fd c [])
  (h:∀g n P,W g n P->g.length=c.length) (ok:CW P w K d a FV k f fd c^Tu K e W c.length):Got P w K d a x k c e W:=#[f,fd,ok,m,F.kp,b,h]
def OE(K:Frag):Sp:=λc H Q _=>∃a b,c=[V.ref a]/\(jy (α:=Int) b<=63/\SqL K H a^b.map V.int)/\∀d,Q (.bl q_) d
def Mb(K:Frag):Sp:=λe H Q _=>∃a b,e=[V.ref a]/\(jy (α:=Int) b<=63/\SqL K H a^b.map V.int) /\
 ∀(c f:Db) (d:Hp),c≠f->d c=P3^.lst^b.map V.int->d f=P3^.lst [.ref c,.int 0,.int 0]->Q (.ref f) d
def ce{a:s_ Int}(h:a.length<=63):Oy (a.map V.int) p_^P3 63=a.map V.int:=by
 have e:HT.sIx (a.map V.int).length (a.map V.int).length^P3 63=a.length:=by
  rw[show(63:Int)=(63:Nat)from rfl,HT.sIx_nat,No,Nat.min_eq_right h]
 unfold Oy;rw[HT.sIx_none]
 grind
def cO{P:gN}{w:gY}{K:Frag}{I:Str->t_ Ev}{u:gI}{st N:gf}{B:s_ gf}{f:Db}{fd:gy}{C:s_ Str}{k n0:Nat}{O:Aa}(F:Fun K "law" "law" st f fd)
  (S:Ag ("_law_script"::"_law_feed_here"::C) ["_law_script"]^AI st) (J:BV st=N::B) (X:n0<=2 ^ 60)
  (Y:∀(n:Ev) (A:gc) (l:s_ Env) (s:Go) (H:Hp) (E:XK),Room k^A.deeper^envOfC "law" (AI st) s.heap.objs.size f n->
   PS (D1 FV P w K I u ("_law_script"::"_law_feed_here"::C) "law" (AI st) f n A l s H E).nox N (Pw (UR (Mb K) [] E0^RC (B6 0) W4)^L7 1))
  (Z:∀(n:Ev) (A:gc) (l:s_ Env) (s:Go) (H:Hp) (E:XK),Room k^A.deeper^envOfC "law" (AI st) s.heap.objs.size f n->
   Pe (D1 FV P w K I u ("_law_script"::"_law_feed_here"::C) "law" (AI st) f n A l s H E).nox .sh B O)
  (hW:O {nx:=λ_ _=>False,rt:=λd _=>d=.bl q_} n0 (.no::.fd::ZB C.length .no)):CW P w K I u FV (k+1) f fd ["_law_script"]^OE K:=by
 refine F.ok S (λvs H Q E h=>?_) λn A l s H vs Q E T h=>?_
 .let#[a,L,rfl,_]:=h
  rfl
 .let#[a,L,rfl,#[U,hS],q]:=h
  let#[t,t1,t2]:=Z n A l s H E T;refine#[SW (Pw (UR (Mb K) [] E0^RC (B6 0) W4)^L7 1) t,by rw[J];exact BQ (Y n A l s H E T) t1,?_];refine#[_,rfl,a,L,rfl,#[U,hS],λc g G D hc W=>?_]
  have y:∀(i:Nat) (x:Slot),(Slot.no::Slot.fd::ZB C.length Slot.no)[i]?=P3 x->Slot.no=x\/(Slot.fd=x/\i=1):=by
   intro i x m
   match i,m with
   |0,m=>exact .inl^gH m
   |1,m=>exact .inr #[gH m,rfl]
   |i+2,m=>
    rw[mi,mi,kg]at m
    split at m
    .exact .inl^gH m
    .cases m
  have R:Rel K #[λb=>b=g,P3 (g,c),λb=>b=g,λb=>b=g,G,[],[]] (λb=>b=g) G n0 (.no::.fd::ZB C.length .no)^(start ("_law_script"::"_law_feed_here"::C) [V.ref a]).set 1^P3^.ref g:=by
   refine#[by simp[L2.start],λ_ z=>z,λb z=>#[_,(congrArg G z).trans W],Ext.refl _ _,λb z=>by rw[←gH z],λ_ z=>z,λ_ z=>z,λb z=>?_,λi x m=>?_,λp M=>absurd M^by simp,λi d b m _=>?_,λi x b m o _=>?_,λi j x t b m o _ _ _ _=>?_,λp M=>absurd M^by simp]
   .have e:(g,c)=b:=gH z
    subst e;exact#[0,0,L,W,D,#[D,hc],U,by cbv,by lk]
   .rcases y i x m with e|⟨e,rfl⟩
    .rw[←e];trivial
    .rw[←e]
     exact#[(g,c),by simp[L2.start],rfl]
   .rcases y i _ m with e|⟨e,_⟩ <;>cases e
   .rcases y i x m with e|⟨e,_⟩ <;>(rw[←e]at o;cases o)
   .rcases y i x m with e|⟨e,_⟩ <;>(rw[←e]at o;cases o)
  refine t2 _ _ G n0 _ _ {nx:=λ_ _=>False,rt:=λd _=>d=.bl q_} _ R #[λ_ _ _ _ _ _ z=>z.elim,λv H2 d n' _ _ r p=>?_,λ_ _ _ _ _ _ z=>z.elim,λ_ _ _ _ _ _ z=>z.elim] hW;have e:d=.bl q_:=p;subst e;have e2:v=.bl q_:=r;subst e2;exact q H2
end Dp
namespace L2
section
variable {X:Cx}
theorem GX:∀{a:s_ Ev}{b:s_ Str},StrsAre a b->Vals (b.map V.str) a
 |_,_,.nil=>.nil
 |_,_,.cons x t r=>.cons #[t,rfl]^GX r
def Uz(K:Frag):s_ V->Hp->VK->Prop:=λc H Q=>∃(p:Db) (b:s_ Str),c=[.ref p]/\SqL K H p^b.map V.str/\b.length<64/\∀(a:s_ Str) (l:Db),a.Perm b->sortedS a=q_->H l=p_->Q (.ref l)^A5 H l^.lst^a.map V.str
def Qj:De X (.builtin "sorted")^Uz X.K:=by
 intro y s Z H A B Q I r h;let#[p,C,rfl,f,g,q]:=h;let#[u,rfl,i]:=vals1 r;cases i;let#[j,c,k,D]:=I.list f;have a:=c.length;rw[No]at a;refine sorted_strs k.isList (Pz c) (by lk) λl m n d t=>?_;let#[e,v]:=sortedAll_at _ _ _;have w:=d.length_eq;have x:=I.hok.fresh^g_ _;refine#[.ref _,_,I.laid (λb o z=>sortedAll_old z) (g_ _) (show ObjOk _ _ _ _ _^.lst _ from#[?_,_,e,GX n,?_]),rfl,q _ _ d t x]
 .grind
 .exact v
end
end L2
namespace Dp
open L2
section
variable {K:Frag}
def BL(b:s_ D)(P:D->Prop):Prop:=match b with
 |[.lst a]=>P^.tup a
 |[.tup a]=>P^.tup a
 |_=>False
def CJ:Eg K .sh (λj H Q=>∃p d,j=[.ref p]/\((SqL K H p d/\∀l,H l=p_->Q (.ref l)^A5 H l^.tup d)\/(SqT K H p d/\Q (.ref p) H))) BL:=by
 intro U M H k m P Q e n h w q;unfold BL at w
 split at w
 .let#[v,rfl,f]:=Fx h
  let#[a,b,rfl,_,c,g]:=f;exact#[a,b,rfl,.inl #[.inl c,λl i=>q _ _ (.tup _) (A1 i) (Ce e i g) w]]
 .let#[v,rfl,f]:=Fx h
  let#[a,b,rfl,c,g]:=f.tup;exact#[a,b,rfl,.inr #[c.sq,q _ H (.tup _) .refl #[a,b,rfl,c,g] w]]
 grind
theorem Ats.strs{M:Db->Prop}{H:Hp}:∀{a:s_ Str},(∀x∈a,x.length<=sizeLine)->Ats K M H (a.map D.str)^a.map V.str
 |[],_=>rfl
 |x::r,h=>#[_,_,rfl,#[rfl,h x Op],Ats.strs λy b=>h y^TM _ b]
theorem Ats.strs_le{M:Db->Prop}{H:Hp}:∀{b:s_ Str}{c:s_ V},Ats K M H (b.map D.str) c->∀x∈b,x.length<=sizeLine
 |[],_,_=>λx a=>by cases a
 |y::r,c,h=>λx a=>by
  let#[v,t,e,d,f]:=h
  rcases T0.mp a with rfl|a
  .exact d.2
  .exact Ats.strs_le f x a
def Vx(d:s_ D)(P:D->Prop):Prop:=∃(c:s_ D) (b:s_ Str),d=[.lst c]/\Qn c=P3 b/\b.length<64/\∀a:s_ Str,a.Perm b->sortedS a=q_->P^.lst^a.map .str
theorem SH:∀{c:s_ D}{a:s_ Str},Qn c=P3 a->c=a.map .str
 |[],a,h=>by cases h;rfl
 |.str b::r,a,h=>by
  let#[t,e,rfl]:=iE.mp h;rw[g9,←SH e]
 |.non::r,a,h=>by cases h
 |.int _::r,a,h=>by cases h
 |.bl _::r,a,h=>by cases h
 |.tup _::r,a,h=>by cases h
 |.lst _::r,a,h=>by cases h
 |.dic _ _::r,a,h=>by cases h
 |.fdi _ _::r,a,h=>by cases h
 |.dit _ _::r,a,h=>by cases h
def YK:Eg K .fr (Uz K) Vx:=by
 intro U M H p r P Q h s i w q;let#[t,j,rfl,e,b,w]:=w;let#[v,rfl,c]:=Fx i;let#[a,u,rfl,_,k,d]:=c
 have:=SG e d
 subst this;have m:=SH e;subst m;exact#[a,j,rfl,.inl k,b,λn l f o g=>q _ _ _ (A1 g) (C5 g^Ats.strs λx c=>d.strs_le x^f.mem_iff.mp c)^w _ f o]
end
section
variable {X:Cx}{e:Expr}{es:s_ Expr}{pos:Pos}
def da(X:Cx)(h:s_ gZ)(b:s_ D->s_ Slot->(s_ Slot->Prop)->Prop):Prop:=∃g,c6 X h g/\∀(C:Fm) (M:Db->Prop) (H:Hp) (n:Nat) (a:s_ Slot) (Z:L2.St) (c:s_ D) (d:s_ V) (P:s_ Slot->Prop) (Q:L2.St->Hp->Prop),Rel X.K C M H n a Z->Ats X.K M H c d->b c a P->
 (∀e f,Rel X.K C M H n e f->P e->Q f H)->g d Z H Q
def BZ:s_ D->s_ Slot->(s_ Slot->Prop)->Prop:=λa b P=>a=[]/\P b
def AX(b:BW)(bs:s_ D->s_ Slot->(s_ Slot->Prop)->Prop):s_ D->s_ Slot->(s_ Slot->Prop)->Prop:=λa c P=>match a with
 |d::r=>b d c λe=>bs r e P
 |[]=>False
def B5:da X [] BZ:=#[_,RR,λC M H n a Z b c P Q R h w q=>by
 let#[rfl,w]:=w;exact#[h,q a Z R w]]
def Ar{b:BW}{bs:s_ D->s_ Slot->(s_ Slot->Prop)->Prop}(c:DG X e b)(f:da X es bs)(i:(assignEach (e::es) X.env).map (·.2)=assign e X.env::(assignEach es X.env).map (·.2):=by rfl):da X (e::es)^AX b bs:=by
 let#[g,j,k]:=c;let#[y,l,m]:=f;refine#[_,Gu j l i,λC M H n o Z p z P Q R h w q=>?_];cases p with
 |nil=>exact w.elim
 |cons d r=>
  let#[v,a,e,s,t]:=h;exact#[v,a,e,k C M H n o Z d v _ _ R s w λA B u x=>m C M H n _ _ r a _ _ u t x q]
def CF(k:Nat)(bs:s_ D->s_ Slot->(s_ Slot->Prop)->Prop):BW:=λd b P=>match d with
 |.tup a=>a.length=k/\bs a b P
 |_=>False
def Ci{bs:s_ D->s_ Slot->(s_ Slot->Prop)->Prop}{k:Nat}{j:Nat}(f:X.calm=q_)(h:da X es bs)(i:(assignEach es X.env).length=k:=by rfl)(b:(assignEach es X.env).findIdx? (·.1)=p_:=by rfl):DG X (.Tuple es j pos)^CF k bs:=by
 let#[g,l,m]:=h;refine#[_,VG f l i b,λC M H n o Z d v P Q R h w q=>?_];cases d with
 |tup p=>
  let#[a,c,rfl,r,e]:=h;exact#[a,c,rfl,r.sq,by rw[e.length];exact w.1,m C M H n o Z p c P Q R e w.2 q]
 |_=>exact w.elim
end
end Dp
namespace L2
mutual
def RV(H:Hp):kU->V->Prop
 |.none,v=>v=.non
 |.bool b,v=>v=.bl b
 |.int i,v=>v=.int i
 |.str x,v=>v=.str x
 |.tuple xs,v=>∃a vs,v=.ref a/\H a=P3^.tup vs/\RVs H xs vs
 |.list xs,v=>∃a vs,v=.ref a/\Rd H a^.lst vs/\RVs H xs vs
 |.dict _,_=>False
def RVs(H:Hp):s_ kU->s_ V->Prop
 |[],vs=>vs=[]
 |x::xs,vs=>∃v r,vs=v::r/\RV H x v/\RVs H xs r
end
section
variable {X:Cx}{zH:s_ (Addr×Obj)}{Z:L2.St}{H:Hp}{s:Shared}
mutual
theorem RV.reads(I:Inv X zH Z H s):∀{d:kU}{v:V}{u:Ev},RV H d v->RelV v u->∃as,Reads s.heap u d as
 |.none,v,u,h,r=>by
  cases(show v=.non from h);cases(show u=gh from r);exact#[_,.none]
 |.bool b,v,u,h,r=>by
  cases(show v=.bl b from h);cases(show u=lF b from r);exact#[_,.bool b]
 |.int i,v,u,h,r=>by
  cases(show v=.int i from h);let#[t,rfl]:=r;exact#[_,.int i t]
 |.str x,v,u,h,r=>by
  cases(show v=.str x from h);let#[t,rfl]:=r;exact#[_,.str x t]
 |.tuple xs,v,u,h,r=>by
  let#[a,vs,rfl,hq,hs]:=h;cases r;let#[its,rv,#[o,e,c,n,d],_]:=I.tuple (X:=X) (xs:=vs)^.inl^.inl hq;let#[as,ra]:=RVs.reads I hs rv;exact#[_,.tuple e c d ra]
 |.list xs,v,u,h,r=>by
  let#[a,vs,rfl,hq,hs]:=h;cases r;let#[its,rv,pl,_]:=I.list (X:=X) (xs:=vs)^.inl hq;let#[o,e,c,n,d]:=pl.isList;let#[as,ra]:=RVs.reads I hs rv;exact#[_,.list e c d ra]
 |.dict _,v,u,h,r=>h.elim
theorem RVs.reads(I:Inv X zH Z H s):∀{ds:s_ kU}{vs:s_ V}{us:s_ Ev},RVs H ds vs->Vals vs us->∃as,ReadsAll s.heap us ds as
 |[],vs,us,h,r=>by
  cases(show vs=[]from h);cases r;exact#[_,.nil]
 | d::ds,vs,us,h,r=>by
  let#[v,w,rfl,h1,h2]:=h;cases r with
  |cons r1 r2=>
   let#[as,a1]:=RV.reads I h1 r1;let#[bs,a2]:=RVs.reads I h2 r2;exact#[_,.cons a1 a2]
end
end
theorem RV.noDict{H:Hp}:∀(d:kU) (v:V),RV H d v->d.hasDict=r_
 | d,v,h=>by
  have k:∀(n:Nat),(∀(d:kU) (v:V),sizeOf d<=n->RV H d v->d.hasDict=r_)/\∀(c:s_ kU) (e:s_ V),sizeOf c<=n->RVs H c e->mO c=r_:=by
   intro n
   induction n with
   |zero=>
    refine#[λd v h _=>?_,λc e h _=>?_]
    .cases d <;>simp at h
    .cases c <;>simp at h
   | succ n j=>
    refine#[λd v h f=>?_,λc e h f=>?_]
    .cases d with
     |tuple g=>
      let#[a,e,_,_,l]:=f;simp only[j8]
      grind
     |list g=>
      let#[a,e,_,_,l]:=f;simp only[j8]
      grind
     |dict m=>exact(show False from f).elim
     |none=>simp only[j8]
     |bool b=>simp only[j8]
     |int i=>simp only[j8]
     |str x=>simp only[j8]
    .cases c with
     |nil=>simp only[mO]
     |cons x g=>
      let#[v,w,_,o,p]:=f;simp only[mO,j.1 x v (by simp at h;lk) o,j.2 g w (by simp at h;lk) p,Bool.or_false]
  exact(k^sizeOf d).1 d v (Re _) h
section
variable {X:Cx}
def Ye:s_ V->Hp->VK->Prop:=λa H Q=>∃x d,a=[x]/\RV H d x/\d.showable=q_/\d.depth<=100/\d.shown.length<=sizeLine/\Q (.str d.shown) H
def MF{k:Nat}(g:Room k X.A):De X (.builtin "repr") Ye:=by
 intro B s Z H C D Q I r h;let#[x,d,rfl,c,j,E,l,q]:=h;let#[u,rfl,f]:=vals1 r;have F:=g.un;cases d with
 |none=>
  cases(show x=.non from c);cases(show u=gh from f);exact PySem.P.repr_of_none #[.str _,H,I.tok _,#[_,rfl],q]
 |bool b=>
  cases(show x=.bl b from c);cases(show u=lF b from f);refine PySem.P.repr_of_bool #[.str _,H,I.tok _,#[_,rfl],?_]
  assumption
 |int i=>
  cases(show x=.int i from c);let#[t,rfl]:=f;refine PySem.P.repr_of_int (by simpa [PyData.showable]using j) #[.str _,H,I.tok _,#[_,rfl],q]
 |str z=>
  cases(show x=.str z from c);let#[t,rfl]:=f;exact PySem.P.repr_of_str #[.str _,H,I.tok _,#[_,rfl],q] l
 |tuple p=>
  let#[v,m]:=RV.reads I c f;let#[a,w,rfl,_]:=id c;cases f;refine repr_of_reads' m j (PyData.noDict_hsm^RV.noDict _ _ c) g.gd (by lk) (λ_ _ e=>e) (λy u n o=>#[.str _,H,I.kept (t':=n) o,#[_,rfl],q]) l
 |list p=>
  let#[v,m]:=RV.reads I c f;let#[a,w,rfl,_]:=id c;cases f;refine repr_of_reads' m j (PyData.noDict_hsm^RV.noDict _ _ c) g.gd (by lk) (λ_ _ e=>e) (λy u n o=>#[.str _,H,I.kept (t':=n) o,#[_,rfl],q]) l
 |dict _=>exact(show False from c).elim
def bi:R2:=λx y H Q=>∃d e,RV H d x/\RV H e y/\d.canLay0=q_/\e.canLay0=q_/\d.depth<=100/\Q (.bl^iL d e) H
def VP{k:Nat}(a:Room k X.A):OpR X (compareOp .Eq) bi:=by
 intro n s Z H x y v u Q I b c h;let#[d,e,f,g,i,j,o,q]:=h;let#[p,l]:=RV.reads I f b;let#[r,m]:=RV.reads I g c;have t:=a.un;have w:min _ e.depth<=d.depth:=Nat.min_le_left _ _;exact PySem.SeqAt.compareEq_reads l m i j (by lk) #[.bl _,H,I,rfl,q]
def XG(b:Bool):R2:=λx y H Q=>∃d a,RV H d x/\(RV H (.list a) y\/RV H (.tuple a) y)/\d.canLay0=q_/\jY a=q_/\d.depth<=100/\Q (.bl (if b then !(a.any λy=>iL y d)else a.any λy=>iL y d)) H
def QJ{k:Nat}(i:Room k X.A):OpR X (compareOp .In)^XG r_:=by
 intro o s Z H x y v u Q I j c h;let#[d,l,m,a,e,f,p,q]:=h;let#[r,g]:=RV.reads I m j;have t:=i.un;have w:min (iS l) _<=d.depth:=k8 _ _
 rcases a with a|a
 .let#[n,b]:=RV.reads I a c
  exact PySem.SeqAt.in_list_reads b g f e (by lk) #[.bl _,H,I,rfl,q]
 .let#[n,b]:=RV.reads I a c
  exact PySem.SeqAt.in_tuple_reads b g f e (by lk) #[.bl _,H,I,rfl,q]
def Hc{k:Nat}(i:Room k X.A):OpR X (compareOp .NotIn)^XG q_:=by
 intro o s Z H x y v u Q I j c h;let#[d,l,m,a,e,f,p,q]:=h;let#[r,g]:=RV.reads I m j;have t:=i.un;have w:min (iS l) _<=d.depth:=k8 _ _
 rcases a with a|a
 .let#[n,b]:=RV.reads I a c
  exact PySem.SeqAt.notIn_list_reads b g f e (by lk) #[.bl _,H,I,rfl,q]
 .let#[n,b]:=RV.reads I a c
  exact PySem.SeqAt.notIn_tuple_reads b g f e (by lk) #[.bl _,H,I,rfl,q]
end
end L2
namespace Dp
open L2
mutual
def toPy:D->kU
 |.non=>.none
 |.bl b=>.bool b
 |.int i=>.int i
 |.str x=>.str x
 |.tup ds=>.tuple^Bq ds
 |.lst ds=>.list^Bq ds
 |.dic _ _=>.dict []
 |.fdi _ _=>.dict []
 |.dit _ _=>.dict []
def Bq:s_ D->s_ kU
 |[]=>[]
 |d::ds=>toPy d::Bq ds
end
mutual
def F1:D->Bool
 |.tup ds=>Dv ds
 |.lst ds=>Dv ds
 |.dic _ _=>r_
 |.fdi _ _=>r_
 |.dit _ _=>r_
 |_=>q_
def Dv:s_ D->Bool
 |[]=>q_
 |d::ds=>F1 d&&Dv ds
end
def FY(a:s_ D):Bq a=a.map toPy:=by
 induction a with
 |nil=>rfl
 |cons d r b=>rw[Bq,b,g9]
section
variable {K:Frag}{M:Addr->Prop}{H:Hp}
mutual
theorem At.rv:∀{d:D}{v:V},At K M H d v->F1 d=q_->RV H (toPy d) v
 |.non,v,h,_=>h
 |.bl b,v,h,_=>h
 |.int i,v,h,_=>h
 |.str x,v,h,_=>h.1
 |.tup ds,v,h,n=>by
  let#[a,vs,e,hn,hs]:=h;exact#[a,vs,e,hn,Ats.rv hs n]
 |.lst ds,v,h,n=>by
  let#[a,vs,e,hn,hs]:=h;exact#[a,vs,e,.inl hn.2,Ats.rv hs n]
 |.dic ks ds,v,h,n=>by cases n
 |.fdi ks ds,v,h,n=>by cases n
 |.dit ks ds,v,h,n=>by cases n
theorem Ats.rv:∀{ds:s_ D}{vs:s_ V},Ats K M H ds vs->Dv ds=q_->RVs H (Bq ds) vs
 |[],vs,h,_=>h
 |d::ds,vs,h,n=>by
  let#[v,r,e,h1,h2]:=h;have n':(F1 d&&Dv ds)=q_:=n;rw[gP]at n';exact#[v,r,e,At.rv h1 n'.1,Ats.rv h2 n'.2]
end
def AtT.rv{U:Db->Prop}{d:D}{v:V}(h:AtT K U M H d v)(n:F1 d=q_):RV H (toPy d) v:=by
 cases d with
 |lst c=>
  let#[a,g,e,_,j,k]:=h;exact#[a,g,e,j,Ats.rv k n]
 |dic f c=>cases n
 |fdi f c=>cases n
 |dit f c=>cases n
 |non=>exact h
 |bl b=>exact h
 |int i=>exact h
 |str x=>exact h.1
 |tup c=>exact At.rv h n
def OF(d:D):Prop:=F1 d=q_/\(toPy d).showable=q_/\(toPy d).depth<=100/\(toPy d).shown.length<=sizeLine
def UX(d:D):Str:=(toPy d).shown
def Vy(a:s_ D)(P:D->Prop):Prop:=∃d,a=[d]/\OF d/\P^.str^UX d
def Wc:Eg K .sh Ye Vy:=by
 intro U M H f g P Q b h c w q;let#[d,rfl,a,w]:=w;let#[v,rfl,e]:=Fx c;exact#[v,_,rfl,e.rv a.1,a.2.1,a.2.2.1,a.2.2.2,q _ H (.str _) .refl #[rfl,a.2.2.2] w]
def Dw(d:D):Prop:=F1 d=q_/\(toPy d).canLay0=q_/\(toPy d).depth<=100
def E_(d e:D):Bool:=iL (toPy d)^toPy e
def aB(d e:D)(P:D->Prop):Prop:=Dw d/\Dw e/\P^.bl^E_ d e
def Yy:Fo K .sh bi aB:=λU M H d e x y P Q a f b c w q=>
 #[_,_,b.rv w.1.1,c.rv w.2.1.1,w.1.2.1,w.2.1.2.1,w.1.2.2,q _ H (.bl _) .refl rfl w.2.2]
def D9:D->t_^s_ D
 |.lst a=>P3 a
 |.tup a=>P3 a
 |_=>p_
def NI(a:Bool)(d e:D)(P:D->Prop):Prop:=Dw d/\Dw e/\∃b,D9 e=P3 b/\P^.bl (if a then !(b.any λy=>E_ y d)else b.any λy=>E_ y d)
def Kv{c:Bool}:Fo K .sh (XG c)^NI c:=λU M H d e x y P Q k m i j w q=>by
 let#[b,f,g,h,w]:=w;have a:∀g:s_ D,(g.map _).any (λy=>iL y _)=g.any λy=>E_ y d:=λg=>by rw[List.any_map];rfl
 cases e with
 |lst l=>
  cases h;exists _,_,i.rv b.1,.inl^j.rv f.1,b.2.1,by simpa [toPy,PyData.canLay0]using f.2.1,b.2.2;rw[FY,a];exact q _ H (.bl _) .refl rfl w
 |tup l=>
  cases h;exists _,_,i.rv b.1,.inr^j.rv f.1,b.2.1,by simpa [toPy,PyData.canLay0]using f.2.1,b.2.2;rw[FY,a];exact q _ H (.bl _) .refl rfl w
 |_=>cases h
def Qb(d e:D)(P:D->Prop):Prop:=Dw d/\Dw e/\P^.bl (!E_ d e)
end
end Dp
namespace L2
def bZ:R2:=λx y H Q=>∃d e,RV H d x/\RV H e y/\d.canLay0=q_/\e.canLay0=q_/\d.depth<=100/\Q (.bl (!PyData.eqv d e)) H
def J0{X:Cx}{k:Nat}(a:Room k X.A):OpR X (compareOp .NotEq) bZ:=by
 intro n s Z H x y v u Q I b c h;let#[d,e,f,g,i,j,o,q]:=h;let#[p,l]:=RV.reads I f b;let#[r,m]:=RV.reads I g c;have t:=a.un;have w:min _ e.depth<=d.depth:=Nat.min_le_left _ _;exact PySem.SeqAt.compareNe_reads l m i j (by lk) #[.bl _,H,I,rfl,q]
end L2
namespace Dp
open L2
def PD{K:Frag}:Fo K .sh bZ Qb:=λU M H d e x y P Q a f b c w q=>
 #[_,_,b.rv w.1.1,c.rv w.2.1.1,w.1.2.1,w.2.1.2.1,w.1.2.2,q _ H (.bl _) .refl rfl w.2.2]
end Dp
namespace L2
def kOf:Key->V
 |.inl i=>.int i
 |.inr x=>.str x
def dM:Key->Key->Bool
 |.inl i,.inl j=>decide (i<j)
 |.inr x,.inr y=>decide (x.cps.toList<y.cps.toList)
 |_,_=>r_
def Lk:Key->Key->Bool
 |.inl _,.inl _=>q_
 |.inr _,.inr _=>q_
 |_,_=>r_
def Fn:s_ Key->s_ Key->Bool
 |[],[]=>r_
 |[],_::_=>q_
 |_::_,[]=>r_
 |x::a,y::b=>if x=y then Fn a b else dM x y
def CN:s_ Key->s_ Key->Bool
 |x::a,y::b=>Lk x y&&CN a b
 |_,_=>q_
def V2{A:gc}{s:Go}{x y:Key}{u v:Ev}(a:RelV (kOf x) u)(b:RelV (kOf y) v):∃e,SeqAt.EqAt A s u v e/\(e=q_↔x=y):=by
 cases x with
 |inl i=>
  cases y with
  |inl j=>exact#[_,NM a b rfl rfl,by simp[kOf,cV]]
  |inr z=>exact#[_,NM a b rfl rfl,by simp[kOf,cV]]
 |inr z=>
  cases y with
  |inl j=>exact#[_,NM a b rfl rfl,by simp[kOf,cV]]
  |inr c=>exact#[_,NM a b rfl rfl,by simp[kOf,cV]]
def Uw(A:gc)(s:Go){x y:Key}{u v:Ev}(b:RelV (kOf x) u)(c:RelV (kOf y) v)(d:Lk x y=q_)(a:gN)(w:gY)(E:Ev->Go->Prop)(Q:Ev->Go->Prop)(h:Q (.bool^dM x y) s):
  wpAny (model a w) A (richCompare .Lt u v) Q E s:=by
 cases x with
 | inl i=>
  cases y with
  |inl j=>
   let#[t,rfl]:=b;let#[e,rfl]:=c;exact mr h
  |inr z=>cases d
 | inr z=>
  cases y with
  |inl j=>cases d
  |inr f=>
   let#[t,rfl]:=b;let#[e,rfl]:=c;exact PySem.P.lt_str h
section
open PySem.SeqAt
open PySem.AutoSeq1 (wpAny_loadPart')
open PySem.MeetsSeq PySem.MeetsSeq2 PySem.MeetsSeq3
def Fp(l b:Db)(items items2:Array Ev)(n n2:Nat)(dd dd2:t_ Db)(sl sl2:Array^t_ Ev)(ns ms:s_ Key)(hi:Vals (ns.map kOf) items.toList)(hj:Vals (ms.map kOf) items2.toList)(hsame:CN ns ms=q_):
  Meets (ir.«tuple.__lt__» #[[.ref l,.ref b],[]])
   (λ_ R s=>s.heap.get? l=P3 {cls:=.type "tuple",dict:=dd,data:=.seq items n,slots:=sl}/\s.heap.get? b=P3 {cls:=.type "tuple",dict:=dd2,data:=.seq items2 n2,slots:=sl2} /\
    R (.ok^.ret^.bool^Fn ns ms) s):=
 .of_wp λprog w A R s h=>by
  let#[hp,g,d,tk,os]:=s;let#[hl,hb,h]:=h
  have f2:=AutoSeq1.sub_tuple_tuple;have z1:items.size=ns.length:=by have:=hi.length;rw[No]at this;rw[this];simp
  have z2:items2.size=ms.length:=by have:=hj.length;rw[No]at this;rw[this];simp
  wp_walk using iM hl,iM hb,wpAny_forIn_list _ (λrest b s'=>b.1=p_/\s'=#[hp,g,d,tk,os]/\∃(vs ws:s_ Ev) (ns' ms':s_ Key),rest=vs.zip ws /\
   Vals (ns'.map kOf) vs/\Vals (ms'.map kOf) ws/\CN ns' ms'=q_/\ns'.length+items2.size=ms'.length+items.size/\R (.ok^.ret^.bool^Fn ns' ms') #[hp,g,d,tk,os]) _
  case turn=>
   rintro⟨y,x⟩ rest b s' ⟨hb',rfl,vs,ws,ns',ms',hz,hvi,hwi,hsm,hlen,hR⟩;cases ns' with
   |nil=>cases hvi;rw[List.zip_nil_left]at hz;cases hz
   | cons a ns'=>
    cases ms' with
    |nil=>cases hwi;rw[List.zip_nil_right]at hz;cases hz
    | cons c ms'=>
     rw[g9]at hvi hwi;cases hvi with
     | cons ra hvi'=>
      cases hwi with
      | cons rc hwi'=>
       rw[kW]at hz;injection hz with hyx hrest
       injection hyx with hy hx
       subst hy hx;have hR':R (.ok^.ret^.bool (if a=c then Fn ns' ms' else dM a c)) #[hp,g,d,tk,os]:=hR;have hsm':(Lk a c&&CN ns' ms')=q_:=hsm;rw[gP]at hsm';simp only[gB]at hlen;let#[e,he,hiff]:=V2 (A:=A.in1) (s:=#[hp,g,d,tk,os]) ra rc;refine Ch^he prog w _ _ ?_;cases e with
       |true=>
        rw[if_pos (hiff.mp rfl)]at hR'
        wp_walk
        exact#[rfl,rfl,_,_,_,_,hrest,hvi',hwi',hsm'.2,by lk,hR']
       |false=>
        rw[if_neg λq=>absurd (hiff.mpr q) gR]at hR';have hri:=Uw A.in1 #[hp,g,d,tk,os] ra rc hsm'.1 prog w
        wp_walk using hri
        exact#[_,rfl,by simpa using hR']
  case fin=>
   rintro⟨b1,b2⟩ s' ⟨hb',rfl,vs,ws,ns',ms',hz,hvi,hwi,hsm,hlen,hR⟩;simp only at hb';subst hb'
   have hv:Fn ns' ms'=decide (items.size<items2.size):=by
    cases ns' with
    | nil=>
     cases ms' with
     |nil=>
      simp only[hX]at hlen;exact(decide_eq_false^by lk).symm
     |cons c u=>
      simp only[hX,gB]at hlen;exact(decide_eq_true^by lk).symm
    | cons a t=>
     cases ms' with
     |nil=>
      simp only[hX,gB]at hlen;exact(decide_eq_false^by lk).symm
     |cons c u=>
      rw[g9]at hvi hwi;cases hvi;cases hwi;rw[kW]at hz;cases hz
   rw[hv]at hR
   wp_walk
   exact#[_,rfl,by simpa [Builtin.Tuple.tupleCompareSizes]using hR]
  case h=>
   exact#[rfl,rfl,items.toList,items2.toList,ns,ms,rfl,hi,hj,hsame,by lk,h]
end
section
variable {X:Cx}
def ba(K:Frag):R2:=λx y H Q=>∃a b c d,x=.ref a/\y=.ref b/\SqT K H a^c.map kOf/\SqT K H b^d.map kOf/\CN c d=q_/\Q (.bl^Fn c d) H
def Zn(m:X.A.units<cLine):OpR X (compareOp .Lt)^ba X.K:=by
 intro T s Z H x y v u Q I o p h;let#[a,b,r,t,rfl,rfl,w,z,d,q]:=h;cases o;cases p;let#[B,C,D,_]:=I.tuple w;let#[i,E,G,_]:=I.tuple z;let#[#[J,L,j,M],k,N,n,O]:=id D;let#[#[l,P,e,R],c,f,S,g]:=id G;subst N O f g
 exact richCompare_meets_room (op:=.Lt) #[_,k,rfl] #[_,c,rfl] PySem.F.slot_tuple_lt PySem.F.entry_tuple_lt (PySem.F.args_tuple_lt_2 _ _) (Fp a b _ _ n S L _ M _ r t C E d)
  #[k,c,#[(λx=>nomatch x),#[.bl _,H,I,rfl,q]]] m
end
def ItAt(a:Bool)(h:gI)(it l:Db)(k:Nat):Prop:=match a with
 |true=>h.IsListIter it l k
 |false=>h.IsTupleIter it l k
def SqAt(b:Bool)(h:gI)(l:Db)(a:Array Ev):Prop:=match b with
 |true=>h.IsList l a
 |false=>h.IsTuple l a
section
variable {κ:Bool}{h h':Heap}{it l b:Addr}{k:Nat}{items:Array Value}
def ItAt.mv(x:ItAt κ h it l k)(e:∀o,h.get? it=P3 o->h'.get? it=P3 o):ItAt κ h' it l k:=by
 cases κ with
 |true=>let#[o,a,r]:=x;exact#[o,e o a,r]
 |false=>let#[o,a,r]:=x;exact#[o,e o a,r]
def SqAt.mv(x:SqAt κ h l items)(e:∀o,h.get? l=P3 o->h'.get? l=P3 o):SqAt κ h' l items:=by
 cases κ with
 |true=>let#[o,a,r]:=x;exact#[o,e o a,r]
 |false=>let#[o,a,r]:=x;exact#[o,e o a,r]
def ItAt.eb(x:ItAt κ h it l k)(a:mw b h h')(n:it≠b):ItAt κ h' it l k:=x.mv λo e=>a it o n e
def SqAt.eb(x:SqAt κ h l items)(a:mw b h h')(n:l≠b):SqAt κ h' l items:=x.mv λo e=>a l o n e
def ItAt.lies(x:ItAt κ h it l k):∃o,h.get? it=P3 o/\∀v,o.data≠.cell v:=by
 cases κ with
 |true=>let#[o,a,_,d]:=x;simp_all
 |false=>let#[o,a,_,d]:=x;simp_all
def SqAt.lies(x:SqAt κ h l items):∃o,h.get? l=P3 o:=by
 cases κ with
 |true=>let#[o,a,_]:=x;grind
 |false=>let#[o,a,_]:=x;grind
end
section
variable {prog:Program}{w:World}{A:Around}{E:Value->Shared->Prop}{s:Shared}
def Fh{f:Bool}{c l:Db}{i:Nat}{a:Array Ev}{x:Ev}{Q:Ev->Go->Prop}(d:ItAt f s.heap c l i)(n:SqAt f s.heap l a)(hx:a[i]?=P3 x)
  (p:∀h,ItAt f h c l (i+1)->jf c s.heap h->Q x {s with heap:=h}):wpAny (model prog w) A (iP^.ref c) Q E s:=by
 cases f with
 |true=>exact wpAny_nextOf_list_item d n hx p
 |false=>
  have b:s.heap.IsTupleIter c l i:=d;have j:s.heap.IsTuple l a:=n;let#[o,g,r,e]:=id b;let#[t,k,_,u,m]:=j
  unfold iP;refine Ch^iC (name:=ik "__next__") b.typeIs jV^iN jV b.typeIs lz ?_^lh _;show wpAny (model prog w) _ (field (.ref c) 0 >>=_) _ _ s;refine Ch (gj g e (x:=.ref l) rfl ?_)
  show wpAny (model prog w) _ (if(gE l==gh)=q_ then _ else _) _ _ s;rw[if_neg (show ¬((gE l==gh)=q_)from gR)]
  show wpAny (model prog w) _ (field (.ref c) 1 >>=_) _ _ s;refine Ch (gj g e (x:=.int i 0) rfl ?_)
  show wpAny (model prog w) _ (seqItems?^.ref l >>=_) _ _ s;refine Ch^iY k m ?_;simp only[jX,hx]
  refine Ch^jN g e (by simp)^Rs #[x,rfl,Rs^p _ (show Heap.IsTupleIter _ c l (i+1)from ?_) (lX ..)];exact#[_,g7 _ g^j7^io e _,(Obj.cls_mapFields ..).trans r,by(rw[io e];simp[rawInt])]
def G3{g:Bool}{f l:Db}{i:Nat}{b:Array Ev}{Q:Ev->Go->Prop}(r:A.handled=p_)(d:ItAt g s.heap f l i)(t:SqAt g s.heap l b)(hx:b[i]?=p_)
  (u:∀h e,mw f s.heap h->(∃o,h.get? e=P3 o/\o.cls=.type "StopIteration")->E (.ref e) {s with heap:=h}):wpAny (model prog w) A (iP^.ref f) Q E s:=by
 cases g with
 |true=>exact wpAny_nextOf_list_end r d t hx u
 |false=>
  have c:=d;have j:s.heap.IsTuple l b:=t;let#[o,k,y,n]:=id c;let#[z,p,_,B,q]:=j
  refine Ch^iC c.typeIs jV^iN jV c.typeIs lz ?_^lh _;show wpAny (model prog w) _ (field (.ref f) 0 >>=_) _ _ s;refine Ch (gj k n (x:=.ref l) rfl ?_)
  refine Ch (gj k n (x:=.int i 0) rfl ?_);refine Ch^iY p q ?_;simp only[jX,hx]
  refine Ch^kF^Ch^jN k n (by simp) ?_;refine Ch ?_;refine Ch (m:=firstArgMember _ _)^iX (a:=gh) (by first|rfl|omega) ?_;refine hZ ?_^by size_fits
  simp only[raiseNew];refine Ch^wpAny_handled ?_;first|grind|rw[r]
  refine Ch^Rs^wpAny_throw ?_;exact u _ _ (((lX ..).extBut.push _).push _) #[_,UF _ rfl,rfl]
structure aw (z TI TO i1 i2 l1 l2:Db):Prop where
 TIz:TI≠z
 TOz:TO≠z
 i1z:i1≠z
 i2z:i2≠z
 TOi1:TO≠i1
 TOi2:TO≠i2
 i12:i1≠i2
 l1z:l1≠z
 l1TO:l1≠TO
 l1i1:l1≠i1
 l1i2:l1≠i2
 l2z:l2≠z
 l2TO:l2≠TO
 l2i1:l2≠i1
 l2i2:l2≠i2
def T4{S T:Bool}{z TI TO p q J K:Db}{k:Nat}{xs ys:Array Ev}{x y a b:Ev}{Q:Ev->Go->Prop}(D:aw z TI TO p q J K)
  (L:j4 s.heap z TI TO .none) (W:ip s.heap TI (.ref p)^.ref q) (X:ip s.heap TO a b) (h1:ItAt S s.heap p J k) (h2:ItAt T s.heap q K k) (Y:SqAt S s.heap J xs) (Z:SqAt T s.heap K ys) (hx:xs[k]?=P3 x) (hy:ys[k]?=P3 y)
  (hQ:∀r,j4 r z TI TO^rawInt s.heap.objs.size->ip r TO x y->ItAt S r p J (k+1)->ItAt T r q K (k+1)->ip r s.heap.objs.size x y->r.objs.size=s.heap.objs.size+1->(∀c o,c≠z->c≠TO->c≠p->c≠q->s.heap.get? c=P3 o->r.get? c=P3 o)->Q (.ref s.heap.objs.size) {s with heap:=r}):
  wpAny (model prog w) A (ir.«zip.__next__» #[[.ref z],[]]) (λa0 s'=>∃v,a0=.done^.ret v/\Q v s') E s:=by
 show wpAny (model prog w) A (field (.ref z) 2 >>=_) _ _ _;refine Ch (gj L rfl (x:=.bool r_) rfl ?_)
 show wpAny (model prog w) A (field (.ref z) 3 >>=_) _ _ _;refine Ch (gj L rfl (x:=.ref TI) rfl ?_);refine Ch (iY W rfl ?_)
 show wpAny (model prog w) A (iu^.ref z >>=_) _ _ _;refine Ch ?_;unfold iu
 refine Ch (gj L rfl (x:=.none) rfl (Rs ?_));simp only[if_true];refine Ch^kF ?_;refine Ch (gj L rfl (x:=.ref TO) rfl ?_)
 refine Ch^jS L (by simp) λha C d=>?_;replace C:j4 ha z TI TO .ellipsis:=C;refine Ch ?_;simp only[List.zipIdx_cons,List.zipIdx_nil,lI,List.forIn_nil]
 refine Ch^Ch^k6 ?_;show wpAny (model prog w) _ (iP^.ref p >>=_) _ _ _
 refine Ch^Fh (h1.eb d.extBut D.i1z) (Y.eb d.extBut D.l1z) hx λhb a1 h=>Rs ?_;have t:ip hb TO a b:=h.extBut _ _ D.TOi1^d.extBut _ _ D.TOz X;refine Ch (iY t rfl ?_);refine Ch (lL t λhc j i=>?_)
 replace j:ip hc TO x b:=j;refine Ch^jz^Rs ?_;refine Ch^Ch^k6 ?_;show wpAny (model prog w) _ (iP^.ref q >>=_) _ _ _
 refine Ch^Fh (((h2.eb d.extBut D.i2z).eb h.extBut D.i12.symm).eb i.extBut D.TOi2.symm) (((Z.eb d.extBut D.l2z).eb h.extBut D.l2i1).eb i.extBut D.l2TO) hy λhd a2 l=>Rs ?_;have u:ip hd TO x b:=l.extBut _ _ D.TOi2 j;refine Ch (iY u rfl ?_);refine Ch (lL u λf g m=>?_)
 replace g:ip f TO x y:=g;refine Ch^jz^Rs^Rs ?_;refine Ch (iY g rfl ?_);refine Ch^wpAny_newTuple ?_
 have M:f.objs.size=s.heap.objs.size:=by rw[m.1,l.1,i.1,h.1,d.1]
 have N:j4 f z TI TO .ellipsis:=m.extBut _ _ D.TOz.symm^l.extBut _ _ D.i2z.symm^i.extBut _ _ D.TOz.symm^h.extBut _ _ D.i1z.symm C;have a3:∀c o,c≠z->c≠TO->c≠p->c≠q->s.heap.get? c=P3 o->f.get? c=P3 o:=λc o F U c3 c4 e=>m.extBut _ _ U^l.extBut _ _ c4^i.extBut _ _ U^h.extBut _ _ c3^d.extBut _ _ F e;have a4:ItAt S f p J (k+1):=((a1.eb i.extBut D.TOi1.symm).eb l.extBut D.i12).eb m.extBut D.TOi1.symm;have a5:ItAt T f q K (k+1):=a2.eb m.extBut D.TOi2.symm;have B:z<f.objs.size:=Uf N;show wpAny (model prog w) _ (kX (.ref z)^.ref f.objs.size >>=_) _ _ _;refine Ch ?_;unfold kX
 have a6:j4 (f.push {cls:=.type "tuple",data:=.seq #[ x,y]}) z TI TO .ellipsis:=FM _ N;refine Ch^jS a6 (by simp) λhg G H=>?_;replace G:j4 hg z TI TO^rawInt f.objs.size:=G;refine jS G (by simp) λO n I=>?_;replace n:j4 O z TI TO^rawInt f.objs.size:=n;have V:∀c o,c≠z->f.get? c=P3 o->O.get? c=P3 o:=λc o F e=>I.extBut _ _ F^H.extBut _ _ F^FM _ e;have P:ip O f.objs.size x y:=I.extBut _ _ (jC B)^H.extBut _ _ (jC B) (UF _ rfl);have R:O.objs.size=f.objs.size+1:=by rw[I.1,H.1,iq]
 rw[M]at n P R;refine Rs #[_,rfl,?_];show Q (.ref f.objs.size) _;rw[M]
 exact hQ O n (V _ _ D.TOz g) (a4.mv λo e=>V _ o D.i1z e) (a5.mv λo e=>V _ o D.i2z e) P R λc o F U c3 c4 e=>V c o F^a3 c o F U c3 c4 e
def Ws{U V:Bool}{z TI TO p q G H:Db}{k:Nat}{I J:Array Ev}{a b:Ev}{Q:Fin->Go->Prop}(W:A.handled=p_)(D:aw z TI TO p q G H)
  (r:j4 s.heap z TI TO .none) (K:ip s.heap TI (.ref p)^.ref q) (L:ip s.heap TO a b) (X:ItAt U s.heap p G k) (h2:ItAt V s.heap q H k) (t:SqAt U s.heap G I) (M:SqAt V s.heap H J) (u:I[k]?=p_\/J[k]?=p_)
  (Y:∀N e,(∀c o,c≠z->c≠TO->c≠p->c≠q->s.heap.get? c=P3 o->N.get? c=P3 o)->(∃o,N.get? e=P3 o/\o.cls=.type "StopIteration")->E (.ref e) {s with heap:=N}):
  wpAny (model prog w) A (ir.«zip.__next__» #[[.ref z],[]]) Q E s:=by
 show wpAny (model prog w) A (field (.ref z) 2 >>=_) _ _ _;refine Ch (gj r rfl (x:=.bool r_) rfl ?_)
 show wpAny (model prog w) A (field (.ref z) 3 >>=_) _ _ _;refine Ch (gj r rfl (x:=.ref TI) rfl ?_);refine Ch (iY K rfl ?_)
 show wpAny (model prog w) A (iu^.ref z >>=_) _ _ _;refine Ch ?_;unfold iu
 refine Ch (gj r rfl (x:=.none) rfl (Rs ?_));simp only[if_true];refine Ch^kF ?_;refine Ch (gj r rfl (x:=.ref TO) rfl ?_)
 refine Ch^jS r (by simp) λha l d=>?_;replace l:j4 ha z TI TO .ellipsis:=l;refine Ch ?_;simp only[List.zipIdx_cons,List.zipIdx_nil,lI,List.forIn_nil]
 refine Ch^Ch^k6 ?_;show wpAny (model prog w) _ (iP^.ref p >>=_) _ _ _
 cases O:I[k]? with
 |none=>
  refine Ch^G3 W (X.eb d.extBut D.i1z) (t.eb d.extBut D.l1z) O λP e f R=>?_;let#[S,g,j]:=R;have v:j4 P z TI TO .ellipsis:=f _ _ D.i1z.symm l;have n:e≠z:=λx=>by subst x;rw[v]at g;cases g;simp at j
  exact jS v (by simp) λZ _ i=>Y Z e (λc o y _ T _ x=>i.extBut _ _ y^f _ _ T^d.extBut _ _ y x) #[S,i.extBut _ _ n g,j]
 | some x=>
  have hy:J[k]?=p_:=by
   rcases u with h|h
   .rw[O]at h;cases h
   .exact h
  refine Ch^Fh (X.eb d.extBut D.i1z) (t.eb d.extBut D.l1z) O λP a1 f=>Rs ?_;have m:ip P TO a b:=f.extBut _ _ D.TOi1^d.extBut _ _ D.TOz L;refine Ch (iY m rfl ?_);refine Ch^lL m λZ a0 i=>?_
  refine Ch^jz^Rs ?_;refine Ch^Ch^k6 ?_;show wpAny (model prog w) _ (iP^.ref q >>=_) _ _ _
  refine Ch^G3 W (((h2.eb d.extBut D.i2z).eb f.extBut D.i12.symm).eb i.extBut D.TOi2.symm) (((M.eb d.extBut D.l2z).eb f.extBut D.l2i1).eb i.extBut D.l2TO) hy λhd e B R=>?_;let#[S,g,j]:=R;have C:j4 hd z TI TO .ellipsis:=B _ _ D.i2z.symm^i.extBut _ _ D.TOz.symm^f.extBut _ _ D.i1z.symm l;have n:e≠z:=λx=>by subst x;rw[C]at g;cases g;simp at j
  exact jS C (by simp) λhf _ F=>Y hf e (λc o y c2 T c4 x=>F.extBut _ _ y^B _ _ c4^i.extBut _ _ c2^f.extBut _ _ T^d.extBut _ _ y x) #[S,F.extBut _ _ n g,j]
end
def Z5(a:Bool):String:=match a with
 |true=>"list_iterator"
 |false=>"tuple_iterator"
def IX(a:Bool)(l:Db):Obj:={cls:=.type^Z5 a,data:=.fields #[ .ref l,.int 0 0]}
abbrev zA(a:Bool)(h:gI)(b:Db):gI:=h.push^IX a b
abbrev zB(a b:Bool)(h:gI)(c d:Db):gI:=(zA a h c).push^IX b d
abbrev zC(a c:Bool)(h:gI)(b d:Db):gI:=(zB a c h b d).push {cls:=.type "tuple",data:=.seq #[ .ref h.objs.size,.ref (zA a h b).objs.size]}
abbrev zD(a b:Bool)(h:gI)(c d:Db):gI:=(zC a b h c d).push {cls:=.type "tuple",data:=.seq #[ .none,.none]}
abbrev zE(a b:Bool)(h:gI)(c d:Db):gI:=(zD a b h c d).push {cls:=.type "zip",data:=.fields #[ .none,.bool r_,.bool r_,.ref (zB a b h c d).objs.size,.ref (zC a b h c d).objs.size]}
def Xg(zX zW:Bool)(l1 l2:Db)(xs ys:Array Ev):Meets (ir.«zip.__new__» #[[.type "zip",.ref l1,.ref l2],[]])
  (λ_ R s=>SqAt zX s.heap l1 xs/\SqAt zW s.heap l2 ys/\R (.ok^.ret^.ref (zD zX zW s.heap l1 l2).objs.size) {s with heap:=zE zX zW s.heap l1 l2}):=
 .of_wp λprog w A R s h=>by
  let#[hp,g,d,tk,os]:=s;let#[hl1,hl2,h]:=h
  have hsub:=sub_zip;have hL2:SqAt zW (zA zX hp l1) l2 ys:=hl2.mv λo e=>FM _ e;cases zX with
  | true=>
   have g1:mx (j1 #[hp,g,d,tk,os]) l1 xs:=hl1;cases zW with
   |true=>
    have g2:mx (j1 #[hp.push {cls:=.type "list_iterator",data:=.fields #[ .ref l1,.int 0 0]},g,d,tk,os]) l2 ys:=hL2
    wp_walk using iZ g1,iZ g2
    exact#[_,rfl,h]
   |false=>
    have g2:md (j1 #[hp.push {cls:=.type "list_iterator",data:=.fields #[ .ref l1,.int 0 0]},g,d,tk,os]) l2 ys:=hL2
    wp_walk using iZ g1,ii g2
    exact#[_,rfl,h]
  | false=>
   have g1:md (j1 #[hp,g,d,tk,os]) l1 xs:=hl1;cases zW with
   |true=>
    have g2:mx (j1 #[hp.push {cls:=.type "tuple_iterator",data:=.fields #[ .ref l1,.int 0 0]},g,d,tk,os]) l2 ys:=hL2
    wp_walk using ii g1,iZ g2
    exact#[_,rfl,h]
   |false=>
    have g2:md (j1 #[hp.push {cls:=.type "tuple_iterator",data:=.fields #[ .ref l1,.int 0 0]},g,d,tk,os]) l2 ys:=hL2
    wp_walk using ii g1,ii g2
    exact#[_,rfl,h]
def KU(a:Bool)(h:gI)(l:Db):ItAt a (h.push^IX a l) h.objs.size l 0:=by
 cases a with
 |true=>exact#[_,UF _ rfl,rfl,rfl]
 |false=>exact#[_,UF _ rfl,rfl,rfl]
section
variable {prog:Program}{w:World}{A:Around}{E:Value->Shared->Prop}{s:Shared}
def NW{b f:Bool}{a d:Db}{t u:Array Ev}{Q:Ev->Go->Prop}(i:SqAt b s.heap a t)(j:SqAt f s.heap d u)
  (h:∀g,j4 g (s.heap.objs.size+4) (s.heap.objs.size+2) (s.heap.objs.size+3) .none->ip g (s.heap.objs.size+2) (.ref s.heap.objs.size)^.ref (s.heap.objs.size+1)->ip g (s.heap.objs.size+3) .none .none->
   ItAt b g s.heap.objs.size a 0->ItAt f g (s.heap.objs.size+1) d 0->(∀c o,s.heap.get? c=P3 o->g.get? c=P3 o)->Q (.ref (s.heap.objs.size+4)) {s with heap:=g}):
  wpAny (model prog w) A (call (.type "zip") [.ref a,.ref d]) Q E s:=by
 refine callType_new F.called_zip (by cbv) (F.typeCall_zip_2 _ _) (F.newCall_zip_2 _ _) (λk=>F.args_object_init_3 k _ _) F.entry_zip_new (Xg b f a d t u) #[i,j,?_];have l:(zA b s.heap a).objs.size=s.heap.objs.size+1:=iq ..;have m:(zB b f s.heap a d).objs.size=s.heap.objs.size+2:=by rw[iq,l]
 have n:(zC b f s.heap a d).objs.size=s.heap.objs.size+3:=by rw[iq,m]
 have p:(zD b f s.heap a d).objs.size=s.heap.objs.size+4:=by rw[iq,n]
 have q:(zE b f s.heap a d).get? (zD b f s.heap a d).objs.size=P3 _:=UF _ rfl;have v:(zE b f s.heap a d).get? (zC b f s.heap a d).objs.size=P3 _:=FM _ (UF _ rfl);have x:(zE b f s.heap a d).get? (zB b f s.heap a d).objs.size=P3 _:=FM _^FM _ (UF _ rfl);have y:ItAt f (zE b f s.heap a d) (zA b s.heap a).objs.size d 0:=(KU f (zA b s.heap a) d).mv λo e=>FM _^FM _^FM _ e;have z:ItAt b (zE b f s.heap a d) s.heap.objs.size a 0:=(KU b s.heap a).mv λo e=>FM _^FM _^FM _^FM _ e;rw[p]at q;rw[n]at v;rw[m]at x;rw[l]at y;have r:=h (zE b f s.heap a d) (by rw[j4,q,m,n]) (by rw[ip,x,l]) v z y λc o e=>FM _^FM _^FM _^FM _^FM _ e;exists#[_,by rw[p];exact q,rfl];rw[p];exact r
def LO{i j:Bool}{z TI TO e f g h:Db}{k:Nat}{q r:Array Ev}{x y a b:Ev}{Q:t_ Ev->Go->Prop}(D:aw z TI TO e f g h)
  (t:j4 s.heap z TI TO .none) (l:ip s.heap TI (.ref e)^.ref f) (m:ip s.heap TO a b) (v:ItAt i s.heap e g k) (B:ItAt j s.heap f h k) (n:SqAt i s.heap g q) (p:SqAt j s.heap h r) (hx:q[k]?=P3 x) (C:r[k]?=P3 y)
  (G:∀d,j4 d z TI TO^rawInt s.heap.objs.size->ip d TO x y->ItAt i d e g (k+1)->ItAt j d f h (k+1)->ip d s.heap.objs.size x y->d.objs.size=s.heap.objs.size+1->(∀c o,c≠z->c≠TO->c≠e->c≠f->s.heap.get? c=P3 o->d.get? c=P3 o)->Q (P3^.ref s.heap.objs.size) {s with heap:=d}):
  wpAny (model prog w) A (pyNext^.ref z) Q E s:=by
 have u:s.TypeIs (.ref z) "zip":=#[_,t,rfl];unfold pyNext
 exact Ch (jK (iC (name:=ik "__next__") u lM (iN lM u F.entry_zip_next
  (T4 D t l m v B n p hx C λd H I J K L M N=>Rs^G d H I J K L M N) (F.args_zip_next_1 _))))
def M8{r t:Bool}{z TI TO g h i j:Db}{k:Nat}{u v:Array Ev}{a b:Ev}{Q:t_ Ev->Go->Prop}(B:A.handled=p_)(D:aw z TI TO g h i j)
  (x:j4 s.heap z TI TO .none) (l:ip s.heap TI (.ref g)^.ref h) (m:ip s.heap TO a b) (C:ItAt r s.heap g i k) (G:ItAt t s.heap h j k) (n:SqAt r s.heap i u) (p:SqAt t s.heap j v) (f:u[k]?=p_\/v[k]?=p_)
  (H:∀q,(∀c o,c≠z->c≠TO->c≠g->c≠h->s.heap.get? c=P3 o->q.get? c=P3 o)->Q p_ {s with heap:=q}):wpAny (model prog w) A (pyNext^.ref z) Q E s:=by
 have y:s.TypeIs (.ref z) "zip":=#[_,x,rfl];unfold pyNext;refine Ch^jK^iC (name:=ik "__next__") y lM^iN lM y F.entry_zip_next (Ws B D x l m C G n p f λq e I J=>?_)^F.args_zip_next_1 _;let#[o,K,L]:=J;exact Ch^kG (T:="StopIteration") (b:=q_) #[o,K,L] isSubtype_stop^Rs^H _ I
end
section
variable {X:Cx}{zH:s_ (Addr×Obj)}{Z:L2.St}{H:Hp}{s:Shared}{h':Heap}
def Inv.turnedL{t':Nat}{ch:s_ Db}(I:Inv X zH Z H s)(d:∀b∈ch,FU X zH H b)(k:∀b o,b∉ch->s.heap.get? b=P3 o->h'.get? b=P3 o):Inv X zH Z H {s with heap:=h',toks:=t'}:=by
 have f:∀b u,H b=P3 u->b∉ch:=λb u e z=>by rw[(d b z).1]at e;cases e
 refine I.step (λb g=>?_) (λb o _ _ a e _=>k b o a e) (λb o _ _ a e _=>#[_,k b o a e]) (λ_ _ _ _ n=>n) (λb o a e=>#[o,k b o a e]) (λ_ _ e=>e) (λ_ _ _ e=>e) (λb y e=>#[#[],by rw[e];simp]) (λm h=>?_) (λb u e=>(I.hok b u e).stay (λc v a q=>k c v (a.elim (λz=>by grind) λz=>f c _ z) q) (λ_ q=>q) λ_ _ q=>q) I.bare
 .let#[A,i,B,j,l,p]:=d b g
  exact#[j,i,l,p]
 .let#[o,t,w,x,r]:=h
  exact#[o,t,w,k _ o (λz=>(d _ z).2.1 rfl) x,r]
def Inv.turnLaid{t':Nat}{ch:s_ Db}{a:Db}{o:HO}(I:Inv X zH Z H s)(h:∀b∈ch,FU X zH H b)(k:∀b o,b∉ch->s.heap.get? b=P3 o->h'.get? b=P3 o)(j:s.heap.objs.size<=a)(new:ObjOk X.prog X.w (A5 H a o) h' a o):
  Inv X zH Z (A5 H a o) {s with heap:=h',toks:=t'}:=by
 have i:∀b u,H b=P3 u->b∉ch:=λb u e z=>by rw[(h b z).1]at e;cases e
 have l:H a=p_:=I.hok.fresh j;have f:∀b u,H b=P3 u->A5 H a o b=P3 u:=λb u e=>by rw[AS^A6 e l];exact e
 refine I.step (g':=s.gens) (d':=s.drawn) (ch:=ch) (λb g=>?_) (λb o _ _ d e _=>k b o d e) (λb o _ _ d e _=>#[o.slots,k b o d e]) (λb u _ e n=>?_) (λb o d e=>#[o,k b o d e]) (λb p e=>f _ _ e) (λb o u e=>f _ _ e) (λb F e=>#[#[],by rw[f _ _ e];simp]) (λm t=>?_) (λb u e=>?_) I.bare
 .let#[G,x,J,y,A,B]:=h b g
  exact#[y,x,A,B]
 .rw[AS^gO^gW (Uf e) j];exact n
 .let#[o,C,D,E,r]:=t
  exact#[o,C,D,k _ o (λz=>(h _ z).2.1 rfl) E,r]
 .by_cases g:b=a
  .subst g;rw[Af]at e;cases e;exact new
  .rw[AS g]at e
   exact(I.hok b u e).stay (λc v d q=>k c v (d.elim (λz=>by grind) λz=>i c _ z) q) (λc q=>f _ _ q) λc p q=>f _ _ q
end
def SqK(c:Bool)(K:Frag)(H:Hp)(a:Db)(b:s_ V):Prop:=match c with
 |true=>SqL K H a b
 |false=>SqT K H a b
def SqK.at{c:Bool}{X:Cx}{e:s_ (Db×Obj)}{Z:L2.St}{H:Hp}{s:Go}{a:Db}{d:s_ V}(I:Inv X e Z H s)(h:SqK c X.K H a d):∃b:s_ Ev,Vals d b/\SqAt c s.heap a b.toArray:=by
 cases c with
 |true=>let#[b,r,f,_]:=I.list h;exact#[_,r,f.isList]
 |false=>let#[b,r,p,_]:=I.tuple h;exact#[_,r,p]
def ay (K:Frag) (e f:Bool) (a b:Db) (c d:s_ V):It:=
  #[λi H=>SqK e K H a c ∧ SqK f K H b d ∧ i < c.length ∧ i < d.length,λi H x g=>∃ T p q,x=.ref T ∧ H T=p_ ∧ g=A5 H T^.tup [p,q] ∧ c[i]?=P3 p ∧ d[i]?=P3 q,
   λi H=>SqK e K H a c ∧ SqK f K H b d ∧ (c.length ≤ i ∨ d.length ≤ i)]
structure cu (zX zW:Bool) (z TI TO i1 i2 a b:Db) (k:Nat) (h:gI):Prop where
 z:j4 h z TI TO .none
 ti:ip h TI (.ref i1) (.ref i2)
 to:∃a b,ip h TO a b
 i1:ItAt zX h i1 a k
 i2:ItAt zW h i2 b k
def UM{P:gN}{w:gY}{K:Frag}{es:s_ gZ}{j:Nat}{pos:Pos}(zX zW:Bool)(z TI TO g l a b:Db)(xs ys:s_ V)(D:aw z TI TO g l a b)(B:TI∉[z,TO,g,l]):
  Turn P w K (.Tuple es j pos) (ay K zX zW a b xs ys) [z,TI,TO,g,l] z (cu zX zW z TI TO g l a b) where
 mem:=by simp
 obj:=λi h d c f=>by
  simp only[T0,gJ,or_false]at f
  rcases f with rfl|rfl|rfl|rfl|rfl
  .exact#[_,d.z,λv q=>by cases q]
  .exact#[_,d.ti,λv q=>by cases q]
  .let#[a,b,e]:=d.to
   exact#[_,e,λv q=>by cases q]
  .exact d.i1.lies
  .exact d.i2.lies
 keep:=λi h h' d k=>by
  let#[p,q,e]:=d.to;exact#[k z (by simp) _ d.z,k TI (by simp) _ d.ti,#[p,q,k TO (by simp) _ e],d.i1.mv λo e=>k g (by simp) o e,d.i2.mv λo e=>k l (by simp) o e]
 item:=by
  intro X C F G f i zH s Z H E I r d J;subst C F G;let#[L,M,m,hj]:=J;let#[us,N,O]:=L.at I;let#[ws,R,S]:=M.at I;let#[u,hu,ru]:=N.get^On m;let#[v,hv,rv]:=R.get^On hj;let#[p,q,e]:=d.to;refine LO D d.z d.ti e d.i1 d.i2 O S (x:=u) (y:=v) (by simpa using hu) (by simpa using hv) λh' a1 a2 a3 a4 a5 a6 a7=>#[_,rfl,?_];refine wpAny_letOwnedTupleGo_zip a1 λT b1 n=>?_;have hT:H s.heap.objs.size=p_:=I.hok.fresh^Re _
  have t:∀c o,c∉[z,TO,g,l]->s.heap.get? c=P3 o->T.get? c=P3 o:=λc o f e=>by
   simp only[T0,gJ,or_false,not_or]at f;exact n.extBut _ _ f.1^a7 c o f.1 f.2.1 f.2.2.1 f.2.2.2 e
  have I2:Inv X zH Z (A5 H s.heap.objs.size^.tup [xs[i],ys[i]]) {s with heap:=T}:=by
   refine I.turnLaid (t':=s.toks) (ch:=[z,TO,g,l]) (λc f=>r c ?_) t (Re _) ?_
   .simp only[T0,gJ,or_false]at f ⊢
    rcases f with rfl|rfl|rfl|rfl <;>simp
   .have nT:s.heap.objs.size≠z:=jC^Uf d.z
    exact#[by show 2<=sizeLine;decide,[u,v],.cons ru^.cons rv .nil,#[_,n.extBut _ _ nT a5,rfl,_,rfl,rfl,rfl]]
  have U:ip T TI (.ref g)^.ref l:=t _ _ B d.ti;refine#[.ref s.heap.objs.size,_,I2,rfl,#[_,_,_,rfl,hT,rfl,On m,On hj],#[b1,U,#[_,_,n.extBut _ _ D.TOz a2],a3.eb n.extBut D.i1z,a4.eb n.extBut D.i2z],λc f=>?_];have W:H c=p_:=(r c f).1
  have Y:c≠s.heap.objs.size:=λz=>by
   obtain⟨o,ho,_⟩:∃o,s.heap.get? c=P3 o/\True:=by
    simp only[T0,gJ,or_false]at f
    rcases f with rfl|rfl|rfl|rfl|rfl
    .exact#[_,d.z,trivial]
    .exact#[_,d.ti,trivial]
    .exact#[_,e,trivial]
    .let#[o,q,_]:=d.i1.lies;exact#[o,q,trivial]
    .let#[o,q,_]:=d.i2.lies;exact#[o,q,trivial]
   rw[z]at ho;exact gv _^Uf ho
  rw[AS Y];exact W
 done:=by
  intro X C F G f i zH s Z H E I r d J;subst C F G;let#[L,M,m]:=J;let#[us,N,O]:=L.at I;let#[ws,R,S]:=M.at I;let#[p,q,e]:=d.to;have l1:=N.length;have l2:=R.length;refine M8 (I.ok.hd f) D d.z d.ti e d.i1 d.i2 O S (m.imp (λm=>by simp;lk) λm=>by simp;lk) λh' t=>#[rfl,?_];refine I.turnedL (t':=s.toks) (ch:=[z,TO,g,l]) (λc f=>r c ?_) λc o f e=>?_
  .simp only[T0,gJ,or_false]at f ⊢
   rcases f with rfl|rfl|rfl|rfl <;>simp
  .simp only[T0,gJ,or_false,not_or]at f
   exact t c o f.1 f.2.1 f.2.2.1 f.2.2.2 e
 self:=λA i s Q E d h=>wpAny_pyIter_zip d.z h
section
variable {X:Cx}
def Y5(n a b:Nat)(c:a<n)(d:b<n):aw (n+4) (n+2) (n+3) n (n+1) a b:=by
 constructor <;>(grind)
def Y4(n:Nat):(n+2)∉[n+4,n+3,n,n+1]:=by
 grind
def Y6(n c:Nat)(h:c∈[n+4,n+2,n+3,n,n+1]):n<=c:=by
 grind
def eS(K:Frag)(h:TA):TI:=λZ H R=>h Z H λi c=>∃d e a b f g,i=[.ref a,.ref b]/\SqK d K c a f/\SqK e K c b g/\R (ay K d e a b f g) c
def VD{m f:gZ}{G:s_ gZ}{j:Nat}{g:Pos}{y:TA}{p pos:Pos}(J:Gl X "zip")(L:X.mg "zip"=p_)(M:PA X [m,f] y)(N:starEach [m,f] X.env=[(r_,eval m X.env),(r_,eval f X.env)]:=by rfl)(i:starEach [f] X.env=[(r_,eval f X.env)]:=by rfl):
  PI X (.Tuple G j g) (.Call (.Name "zip" p) [m,f] [] pos) (eS X.K y):=by
 intro O s Z H R I h;refine Call_ (DX I J L boot_zip^h_ (thn (M pos O s Z H _ I h) λP d #[vs,Q,k,S,n]=>?_) (by rw[N,i])^by rw[i];rfl);let#[z,A,a,b,B,C,e,T,U,q]:=n;subst e;let#[u,v,rfl,V,W]:=vals2 S;cases V;cases W;let#[P,Y,n]:=T.at k;let#[ws,a0,E]:=U.at k;have la:a<d.heap.objs.size:=by let#[o,e]:=n.lies;exact Uf e
 have lb:b<d.heap.objs.size:=by let#[o,e]:=E.lies;exact Uf e
 refine NW n E λh' F r t w x hk=>?_;refine wpAny_pyIter_zip F ?_;have D:=Y5 d.heap.objs.size a b la lb;refine#[d.heap.objs.size+4,[d.heap.objs.size+4,d.heap.objs.size+2,d.heap.objs.size+3,d.heap.objs.size,d.heap.objs.size+1],_,ay X.K z A a b B C,Q,rfl,k.kept (t':=d.toks) hk,UM z A _ _ _ _ _ a b B C D^Y4 d.heap.objs.size,#[F,r,#[_,_,t],w,x],λc hc=>?_,q];have l:d.heap.objs.size<=c:=Y6 d.heap.objs.size c hc;exact k.fpOk l^k.hok.fresh l
end
end L2
namespace Dp
open L2
def Ds(a b:s_ D):s_ D:=i6 (λd e=>.tup [d,e]) a b
section
variable {K:Frag}
def Md{U g M:Db->Prop}{H:Hp}{d:D}{v:V}{l:s_ D}(h:AtT K g M H d v)(e:D9 d=P3 l)(m:∀a,U a->g a)(s:∀a,g a->M a):∃p a c,v=.ref a/\Ats K M H l c/\∀i f,Pres M H i f->Ext U H f->SqK p K f a c:=by
 cases d with
 |lst q=>
  cases e;let#[a,c,j,n,b,k]:=h;refine#[q_,a,c,j,k,λi f _ ex=>?_]
  rcases b with b|⟨o,b⟩
  .exact .inl^.inl^ex.keep b λz=>n^m a z
  .exact .inl^.inr #[o,ex.keep b λz=>n^m a z]
 |tup q=>
  cases e;let#[a,c,j,b,k]:=h;exact#[r_,a,c,j,k,λi f r _=>(b.pres r).sq]
 |_=>cases e
def P1{M:Db->Prop}{H:Hp}{d:D}{v:V}{l:s_ D}(h:At K M H d v)(e:D9 d=P3 l):∃m a b,v=.ref a/\Ats K M H l b/\∀f c,Pres M H f c->SqK m K c a b:=by
 cases d with
 |lst n=>
  cases e;let#[a,b,g,i,j]:=h;exact#[q_,a,b,g,j,λf c k=>(i.pres k).sq]
 |tup n=>
  cases e;let#[a,b,g,i,j]:=h;exact#[r_,a,b,g,j,λf c k=>(i.pres k).sq]
 |_=>cases e
def JJ{M:Db->Prop}{H:Hp}{l m:Bool}{a b:Db}{f g:s_ V}{h j:s_ D}(u:Ats K M H h f)(v:Ats K M H j g){i:Nat}{r:Db->Prop}{c:Hp}(w:Pres M H r c)(z:SqK l K c a f)(A:SqK m K c b g)(s:∀a,r a->∃o,c a=P3 o):
  (∀d,(Ds h j)[i]?=P3 d->(ay K l m a b f g).go i c/\∀x H2,(ay K l m a b f g).yld i c x H2->Grow c H2/\At K r H2 d x)/\((Ds h j).length<=i->(ay K l m a b f g).stop i c):=by
 have P:=u.length;have Q:=v.length;refine#[λd e=>?_,λF=>#[z,A,?_]]
 .unfold Ds at e
  rw[lB]at e;cases k:h[i]? with
  |none=>rw[k]at e;simp at e
  | some G=>
   cases n:j[i]? with
   |none=>rw[k,n]at e;simp at e
   |some I=>
    rw[k,n]at e;have t:D.tup [G,I]=d:=gH e;have R:i<h.length:=(gC.mp k).1;have S:i<j.length:=(gC.mp n).1;refine#[#[z,A,by lk,by lk],λx H2 y=>?_];let#[T,p,q,rfl,B,rfl,J,L]:=y;let#[U,C,N]:=(u.pres w).get k;let#[W,E,O]:=(v.pres w).get n;rw[J]at C;rw[L]at E;cases C;cases E;subst t;exact#[A1 B,Ce s B #[p,[q],rfl,N,q,[],rfl,O,rfl]]
 .unfold Ds at F
  grind
end
section
variable {X:Cx}{e1 e2:Expr}{es:s_ Expr}{j:Nat}{tpos p pos:Pos}{ws:Ef}
def T9(ws:Ef):Ef:=λn c P=>ws n c λf g=>∃d e a b,f=[d,e]/\D9 d=P3 a/\D9 e=P3 b/\P (Ds a b) g
def X6(z:Gl X "zip")(A:X.mg "zip"=p_)(B:ar X [e1,e2] ws)(D:starEach [e1,e2] X.env=[(r_,eval e1 X.env),(r_,eval e2 X.env)]:=by rfl)(c:starEach [e2] X.env=[(r_,eval e2 X.env)]:=by rfl):
  dC X (.Tuple es j tpos) (.Call (.Name "zip" p) [e1,e2] [] pos) (T9 ws):=by
 let#[t,E,F]:=B;refine#[_,VD z A E D c,λC M H n G Z P W R w q=>?_];refine F C M H n G Z _ _ R w λY f ds I m o J p=>?_;let#[d,e,xs,ys,rfl,K,L,p]:=p;cases J with
 | cons r g=>
  cases g with
  |cons N g=>
   cases g;have s:=R.step m o;let#[O,a,Q,rfl,S,u]:=Md (U:=C.U) r K R.uV s.vM;let#[T,b,h,rfl,V,v]:=Md (U:=C.U) N L R.uV s.vM;refine#[O,T,a,b,Q,h,rfl,u M f (Pres.refl _ _)^Ext.refl _ _,v M f (Pres.refl _ _)^Ext.refl _ _,q _ f _ I m o (λi x y k ex l=>JJ S V k (u x y k ex) (v x y k ex) l) p]
def WB(x:Gl X "zip")(y:X.mg "zip"=p_)(z:Y1 X [e1,e2] ws)(A:starEach [e1,e2] X.env=[(r_,eval e1 X.env),(r_,eval e2 X.env)]:=by rfl)(c:starEach [e2] X.env=[(r_,eval e2 X.env)]:=by rfl):
  DI X (.Tuple es j tpos) (.Call (.Name "zip" p) [e1,e2] [] pos) (T9 ws):=by
 let#[t,B,D]:=z;refine#[_,VD x y B A c,λC M H n E Z P W R w q=>?_];refine D C M H n E Z _ _ R w λY f ds F G I g p=>?_;let#[d,e,xs,ys,rfl,J,K,p]:=p;let#[v,r,rfl,g,v',L,rfl,N,O]:=g;cases(show L=[]from O);let#[Q,a,S,rfl,T,m]:=P1 g J;let#[U,b,h,rfl,V,o]:=P1 N K;exact#[Q,U,a,b,S,h,rfl,m M f^Pres.refl _ _,o M f^Pres.refl _ _,q _ f _ F G I (λi s u k l=>JJ T V k (m s u k) (o s u k) l) p]
def eP:D->t_ Key
 |.int i=>P3^.inl i
 |.str x=>P3^.inr x
 |_=>p_
def IW:s_ D->t_^s_ Key
 |[]=>P3 []
 |d::a=>match eP d,IW a with
  |some k,P3 b=>P3 (k::b)
  |_,_=>p_
theorem G0{K:Frag}{M:Db->Prop}{H:Hp}:∀{c:s_ D}{a:s_ V}{b:s_ Key},IW c=P3 b->Ats K M H c a->a=b.map kOf
 |[],a,b,e,h=>by cases e;exact h
 | d::c,a,b,e,h=>by
  let#[v,r,e1,l,m]:=h;unfold IW at e
  split at e
  .rename_i k n f g
   cases e;rw[e1,G0 g m]
   congr 1
   cases d with
   |int i=>cases f;exact l
   |str x=>cases f;exact l.1
   |_=>cases f
  .cases e
def EU(d e:D)(P:D->Prop):Prop:=match d,e with
 |.int i,.int j=>P^.bl (decide (i<j))
 |.str i,.str j=>P^.bl (decide (i.cps.toList<j.cps.toList))
 |.tup c,.tup f=>∃a b,IW c=P3 a/\IW f=P3 b/\CN a b=q_/\P^.bl^Fn a b
 |_,_=>False
def bb(K:Frag):R2:=λx y H Q=>ZX x y H Q\/ba K x y H Q
def DP{k:Nat}(a:Room k X.A):OpR X (compareOp .Lt)^bb X.K:=op_ltU.or^Zn a.units0
def FN:Fo X.K .sh (bb X.K) EU:=λU M H d e x y P Q c h f g w q=>by
 unfold EU at w
 split at w
 .exact .inl^Yx U M H _ _ x y P Q c h f g w q
 .exact .inl^Yx U M H _ _ x y P Q c h f g w q
 .let#[i,k,l,m,n,w]:=w
  let#[a,u,rfl,o,r]:=f.tup;let#[b,v,rfl,s,t]:=g.tup;have e1:=G0 l r;have e2:=G0 m t;subst e1 e2;exact .inr #[a,b,i,k,rfl,rfl,o.sq,s.sq,n,q _ H (.bl _) .refl rfl w]
 grind
end
end Dp
namespace L2
section
variable {prog:Program}{w:World}{A:Around}{E:Value->Shared->Prop}{s:Shared}
def N8{t f:Db}{a:Array Ev}{k l:Ev}{b e:t_ Int}{Q:Ev->Go->Prop}(c:kc s.heap t a)(n:s.heap.IsSliceOf f k l .none)(p:lH k b)(q:lH l e)
  (o:HT.sIx a.size 0 b=0/\HT.sIx a.size a.size e=a.size) (h:Q (.ref t) s):wpAny (model prog w) A (getItem (.ref t)^.ref f) Q E s:=by
 let#[r,g,i,u]:=id n;have j:s.TypeIs (.ref f) "slice":=#[r,g,i];unfold getItem
 (try with_reducible refine gw ?_);(first|refine Ch^Rs ?_|skip)
 refine Ch^mJ c.typeIs (by cbv)^Ch^iC (name:=ik "__getitem__") c.typeIs gk^iN gk c.typeIs lW ?_^lu _ _;show wpAny (model prog w) _ (kJ^.ref t >>=_) _ _ s;refine Ch^tupleItemsOf_ c^Ch^jQ j ?_;rw[if_pos^by cbv]
 refine Ch^HT.sliceApplied_gen n p q ?_;have d:(((HT.sIx a.size 0 b:Nat):Int)==0&&(1:Int)==1&&(HT.sIx a.size a.size e - HT.sIx a.size 0 b)==a.size)=q_:=by rw[o.1,o.2];simp
 show wpAny (model prog w) _ (if(((HT.sIx a.size 0 b:Nat):Int)==0&&(1:Int)==1&&(HT.sIx a.size a.size e - HT.sIx a.size 0 b)==a.size)=q_ then _ else _) _ _ s;rw[if_pos d];refine Ch (m:=mF _) ?_;unfold mF;refine Ch^jQ c.typeIs^Rs ?_;show wpAny (model prog w) _ (if((jp "tuple"==jp "tuple")=q_)then _ else _) _ _ s;rw[if_pos^by cbv]
 first
  |grind
  |exact Ch^kF^Rs #[_,rfl,Rs h]
  |grind
theorem Kb{b c:Type}{f g:b->t_ c}:∀{l:s_ b},(∀a∈l,f a=g a)->l.filterMap f=l.filterMap g
 |[],_=>rfl
 |a::l,h=>by
  rw[jl,jl,h a Op,Kb λx d=>h x^TM _ d]
def Uj(l:s_ Ev):∀(n:Nat),n<=l.length->((gi n).filterMap fun(k:Nat)=>l[n - 1 - k]?)=(l.take n).reverse:=by
 intro n
 induction n with
 |zero=>intro _;simp
 | succ n b=>
  intro h;have a:n<l.length:=h;rw[ko,jl];have c:l[n+1 - 1 - 0]?=P3 l[n]:=by rw[show n+1 - 1 - 0=n by lk,On a]
  simp only[c];rw[lr]
  have d:((fun(k:Nat)=>l[n+1 - 1 - k]?)∘Nat.succ)=fun(k:Nat)=>l[n - 1 - k]?:=by
   grind
  rw[d,b^by lk,List.take_add_one,On a,List.reverse_append];rfl
def Gn(a:Array Ev):((gi a.size).filterMap fun(k:Nat)=>a[(((a.size:Int) - 1)+(k:Int)*(-1)).toNat]?).toArray=a.toList.reverse.toArray:=by
 have h:=Uj a.toList _^Re _;rw[k9]at h
 have e:(gi a.size).filterMap (fun(k:Nat)=>a[((a.size - 1)+(k:Int)*(-1)).toNat]?)=(gi a.toList.length).filterMap λk=>a.toList[a.toList.length - 1 - k]?:=by
  refine Kb λk b=>?_;rw[show((a.size - 1)+(k:Int)*(-1)).toNat=a.size - 1 - k by lk];simp
 rw[e,h]
def PB{c:Db}{t:Tok}{n:Nat}{Q:Int×Int×Nat->Go->Prop}(e:s.heap.IsSliceOf c .none .none^.int (-1) t)(h:Q ((n:Int) - 1,-1,n) s):wpAny (model prog w) A (mE (.ref c)^pure (n:Int)) Q E s:=by
 let#[k,a,f,b]:=id e;refine Ch^Ch (gj a b (x:=.none) rfl (Ch (gj a b (x:=.none) rfl (Ch (gj a b (x:=.int (-1) t) rfl (Rs ?_))))));refine Ch^HT.slicePart_ (IsPart.int (-1) t) ?_;rw[if_neg^by cbv];show wpAny (model prog w) _ (match ja p_ p_ (-1) (n:Int)with|(d,g)=>pure (d,(-1:Int),ic d g (-1))) _ _ s;have i:ja p_ p_ (-1) (n:Int)=((n:Int) - 1,-1):=rfl;rw[i]
 have j:ic ((n:Int) - 1) (-1) (-1)=n:=by
  unfold ic
  grind
 show wpAny (model prog w) _ (pure _) _ _ s;rw[j];exact Rs h
def SU{t e:Db}{a:Array Ev}{n:Tok}{Q:Ev->Go->Prop}(d:kc s.heap t a)(l:s.heap.IsSliceOf e .none .none^.int (-1) n)(f:a.size<=sizeLine)
  (h:Q (.ref s.heap.objs.size) {s with heap:=s.heap.push {cls:=.type "tuple",data:=.seq a.toList.reverse.toArray}}):wpAny (model prog w) A (getItem (.ref t)^.ref e) Q E s:=by
 let#[o,g,i,p]:=id l;have j:s.TypeIs (.ref e) "slice":=#[o,g,i]
 have c:sizeOk^.seq a.toList.reverse.toArray:=by
  show a.toList.reverse.toArray.size<=sizeLine
  simpa using f
 unfold getItem
 (try with_reducible refine gw ?_);(first|refine Ch^Rs ?_|skip)
 refine Ch^mJ d.typeIs (by cbv)^Ch^iC (name:=ik "__getitem__") d.typeIs gk^iN gk d.typeIs lW ?_^lu _ _;show wpAny (model prog w) _ (kJ^.ref t >>=_) _ _ s;refine Ch^tupleItemsOf_ d^Ch^jQ j ?_;rw[if_pos^by cbv]
 refine Ch^PB l ?_;have k:¬(((a.size:Int) - 1==0&&(-1:Int)==1&&a.size==a.size)=q_):=by simp
 show wpAny (model prog w) _ (if((a.size:Int) - 1==0&&(-1:Int)==1&&a.size==a.size)=q_ then _ else _) _ _ s;rw[if_neg k,Gn]
 first
  |exact Ch (m:=im _)^hZ (Rs #[_,rfl,Rs h]) c
  |omega
  |grind
  |grind
def LP(a:Array Ev):slicePick a p_ p_^P3 (-1)=a.toList.reverse.toArray:=by
 unfold slicePick;have b:sliceBounds p_ p_ (P3 (-1)) _=((a.size:Int) - 1,-1,-1):=rfl;rw[b];simp only[sliceRange];rw[←Gn,lr]
 congr 1
 have c:(if -1 > 0 then if(a.size:Int) - 1 < -1 then(-1 - ((a.size:Int) - 1)+-1 - 1) / -1 else 0 else if(a.size:Int) - 1 > -1 then((a.size:Int) - 1 - -1 - -1 - 1) / - -1 else 0).toNat=a.size:=by
  grind
 rw[c];refine Kb λk _=>?_
 grind
end
section
variable {X:Cx}{e st:Expr}{te tst:TE}{pos p2:Pos}
def eG(K:Frag):V->Hp->VK->Prop:=λx H Q=>(∃a b,x=.ref a/\SqL K H a b/\∀p,H p=p_->Q (.ref p)^A5 H p^.lst b.reverse)\/∃a b,x=.ref a/\SqT K H a b/\∀p,H p=p_->Q (.ref p)^A5 H p^.tup b.reverse
def dq(K:Frag)(te tst:TE):TE:=λZ H Q=>te Z H λx a=>tst Z a λi H2=>i=.int (-1)/\eG K x H2 Q
def Zi(C:PE X e te)(k:PE X st tst):PE X (.Subscript e (.Slice p_ p_ (P3 st) p2) pos)^dq X.K te tst:=by
 intro j s Z H Q I h;refine Subscript_^thn (C j s Z H _ I h) λv D #[x,E,F,y,G]=>?_;refine wpAny_Slice ?_;rw[evalPart_none,evalPart_some];refine Rs^Rs^thn (k j D Z E _ F G) λN c #[i,J,L,M,l]=>?_;let#[rfl,l]:=l;let#[t,rfl]:=M;have d:Inv X j Z J {c with heap:=c.heap.push {cls:=.type "slice",data:=.fields #[ .none,.none,.int (-1) t]}}:=L.kept (t':=c.toks) λb z q=>FM _ q;have B:({c with heap:=c.heap.push {cls:=.type "slice",data:=.fields #[ .none,.none,.int (-1) t]}}:Go).heap.IsSliceOf c.heap.objs.size .none .none^.int (-1) t:=nL ..;show wpAny (model X.prog X.w) X.A (subscriptTail e (.Slice p_ p_ (P3 st) p2) v^.ref c.heap.objs.size) (EP X j Z Q) X.xe {c with heap:=c.heap.push {cls:=.type "slice",data:=.fields #[ .none,.none,.int (-1) t]}}
 rcases l with⟨a,m,rfl,n,q⟩|⟨a,m,rfl,n,q⟩
 .cases y
  let#[p,r,f,u]:=d.list n;have g:=r.length;refine tail_any (ops:=[.ref a,.ref c.heap.objs.size]) f.isList.typeIs mL.lookup ?_ (by with_unfolding_all rfl);refine wpAny_getItem_list_slice f.isList B .none .none (.int (-1) t) (by cbv) ?_ (by rw[f_];lk);rw[LP];refine#[.ref _,_,d.laid (t':=c.toks) (o:=.lst m.reverse) (λb z q=>FM _ q) (Re _) ?_,rfl,q _^d.hok.fresh^Re _];exact#[by rw[iQ];exact u,_,0,r.reverse,UF _ rfl]
 .cases y
  let#[p,r,f,u]:=d.tuple n;have g:=r.length;refine tail_any (ops:=[.ref a,.ref c.heap.objs.size]) f.typeIs gk.lookup ?_ (by with_unfolding_all rfl);refine SU f B (by rw[f_];lk) ?_;refine#[.ref _,_,d.laid (t':=c.toks) (o:=.tup m.reverse) (λb z q=>FM _ q) (Re _) ?_,rfl,q _^d.hok.fresh^Re _];exact#[by rw[iQ];exact u,_,r.reverse,IsTupN.new _ _]
def Yc(K:Frag):V->t_ Int->t_ Int->Hp->VK->Prop:=λx c d H Q=>∃a b,x=.ref a/\SqT K H a b/\(HT.sIx b.length 0 c=0/\HT.sIx b.length b.length d=b.length)/\Q (.ref a) H
def W7:SlR X^Yc X.K:=by
 intro k s Z H x v l m n o p Q I d e f g h;let#[a,t,rfl,i,u,q]:=h;cases d;let#[j,r,b,w]:=I.tuple i;have c:=r.length.symm;exact#[_,_,gk.lookup,b.typeIs,N8 b e f g (by grind) #[.ref a,H,I,rfl,q]]
end
section
variable {X:Cx}
def U3(K:Frag):R2:=λx y H Q=>∃a b c,x=.ref a/\y=.ref b/\SqT K H a []/\SqT K H b c/\Q (.ref b) H
def VQ:OpR X (binaryOp .Add)^U3 X.K:=by
 intro M s Z H x y v u Q I l m h;let#[a,b,N,rfl,rfl,o,p,q]:=h;cases l;cases m;let#[r,t,w,_]:=I.tuple o;let#[g,O,z,_]:=I.tuple p;cases t;let#[#[A,B,i,C],j,D,n,E]:=id w;let#[#[k,G,d,J],c,e,L,f]:=id z;subst D E e f;exact concat_meets #[_,j,rfl] #[_,c,rfl] mW seq_tuple_add PySem.F.slot_tuple_add PySem.F.entry_tuple_add (PySem.F.args_tuple_add_2 _ _) (tuple_addW0 a b _ _ n L B _ C _^by simp) #[j,c,#[.ref b,H,I,rfl,q]]
def bI(b:Bool):Int:=if b=q_ then 1 else 0
def dJ(g:Int->Int->Int):R2:=λx y H Q=>∃k j,x=.bl k/\y=.int j/\Q (.int^g (bI k) j) H
def fI(g:Int->Int->Int):R2:=λx y H Q=>∃i k,x=.int i/\y=.bl k/\Q (.int^g i^bI k) H
def op_add_bi:OpR X (binaryOp .Add) (dJ λi j=>i+j):=by
 intro c s Z H x y v u Q I a b h;let#[k,j,rfl,rfl,q]:=h;cases a;let#[t,rfl]:=b;exact PySem.IntBool.add_bool_int #[.int _,H,I.tok _,#[_,rfl],q]
def op_sub_bi:OpR X (binaryOp .Sub) (dJ λi j=>i - j):=by
 intro c s Z H x y v u Q I a b h;let#[k,j,rfl,rfl,q]:=h;cases a;let#[t,rfl]:=b;exact PySem.IntBool.sub_bool_int #[.int _,H,I.tok _,#[_,rfl],q]
def Su:OpR X (binaryOp .Sub) (fI λi j=>i - j):=by
 intro c s Z H x y v u Q I a b h;let#[i,k,rfl,rfl,q]:=h;let#[t,rfl]:=a;cases b;exact PySem.IntBool.sub_int_bool #[.int _,H,I.tok _,#[_,rfl],q]
def bg(c:Bool):R2:=λx y H Q=>∃a b,x=.bl a/\y=.bl b/\Q (.bl (if c then !(a==b)else a==b)) H
def Zo:OpR X (compareOp .Is)^bg r_:=by
 intro e s Z H x y v u Q I c d h;let#[a,b,rfl,rfl,q]:=h;cases c;cases d;exact is_bool #[.bl _,H,I,rfl,q]
end
end L2
namespace Dp
open L2
section
variable {K:Frag}{X:Cx}
def A2(d e:D)(P:D->Prop):Prop:=match d,e with
 |.int i,.int j=>P^.int (i+j)
 |.bl k,.int j=>P^.int (bI k+j)
 |.str i,.str j=>i.length+j.length<=sizeLine/\P^.str (i++j)
 |.tup i,.tup j=>i.length+j.length<=sizeLine/\P^.tup (i++j)
 |.lst i,.lst j=>i.length+j.length<=sizeLine/\P^.lst (i++j)
 |_,_=>False
def Yg(K:Frag):R2:=λx y H Q=>U5 K x y H Q\/(dJ λi j=>i+j) x y H Q\/U3 K x y H Q
def As:OpR X (binaryOp .Add)^Yg X.K:=op_addU.or^op_add_bi.or VQ
def A4:Fo X.K .sh (Yg X.K) A2:=λU M H d e x y P Q c h f g w q=>by
 unfold A2 at w
 split at w
 .exact .inl^Nf U M H (.int _) (.int _) x y P Q c h f g w q
 .rename_i k j
  exact .inr^.inl #[k,j,f,g,q _ H (.int _) .refl rfl w]
 .exact .inl^Nf U M H _ (.str _) x y P Q c h f g w q
 .rename_i i j
  cases i with
  |nil=>
   let#[a,r,rfl,n,o]:=f.tup;let#[b,l,rfl,m,p]:=g.tup;cases(o);exact .inr^.inr #[a,b,l,rfl,rfl,n.sq,m.sq,q _ H (.tup j) .refl #[b,l,rfl,m,p]^by grind]
  |cons s i=>exact .inl^Nf U M H _ (.tup j) x y P Q c h f g #[(by grind),w] q
 .exact .inl^Nf U M H (.lst _) (.lst _) x y P Q c h f g w q
 grind
def E9(d e:D)(P:D->Prop):Prop:=match d,e with
 |.int i,.int j=>P^.int (i - j)
 |.bl k,.int j=>P^.int (bI k - j)
 |.int i,.bl k=>P^.int (i - bI k)
 |_,_=>False
def Yb:R2:=λx y H Q=>(Jr λi j=>.int (i - j)) x y H Q\/(dJ λi j=>i - j) x y H Q\/(fI λi j=>i - j) x y H Q
def Dn:OpR X (binaryOp .Sub) Yb:=op_sub.or^op_sub_bi.or Su
def FL:Fo K .sh Yb E9:=λU M H d e x y P Q a f b c w q=>by
 unfold E9 at w
 split at w
 .exact .inl^Wd U M H _ _ x y P Q a f b c w q
 .rename_i k j
  exact .inr^.inl #[k,j,b,c,q _ H (.int _) .refl rfl w]
 .rename_i i k
  exact .inr^.inr #[i,k,b,c,q _ H (.int _) .refl rfl w]
 grind
def Z_(c:Bool)(d e:D)(P:D->Prop):Prop:=match d,e with
 |.bl a,.bl b=>P^.bl (if c then !(a==b)else a==b)
 |_,_=>False
def ci{c:Bool}:Fo K .sh (bg c)^Z_ c:=λU M H d e x y P Q f i g h w q=>by
 unfold Z_ at w
 split at w
 .rename_i a b
  exact#[a,b,g,h,q _ H (.bl _) .refl rfl w]
 grind
def Cg(d:D)(a b:t_ Int)(P:D->Prop):Prop:=match d with
 |.str z=>P^.str^Txt.slice z a b
 |.lst c=>P^.lst^cutD c a b
 |.tup c=>P^.tup^cutD c a b
 |_=>False
def bY(K:Frag):V->t_ Int->t_ Int->Hp->VK->Prop:=λx a b H Q=>bV x a b H Q\/bX K x a b H Q\/bW K x a b H Q\/Yc K x a b H Q
def D8:SlR X^bY X.K:=sl_U.or^sl_list.or^sl_tup.or W7
def R_{M:Db->Prop}{H:Hp}{a:s_ D}{b:s_ V}(c d:t_ Int)(h:Ats K M H a b):Ats K M H (cutD a c d)^Oy b c d:=by
 unfold cutD Oy;rw[h.length];exact(h.drop _).take _
def CV:fP K .sh (bY K) Cg:=by
 intro U M H d x c f P Q h n i w q;unfold Cg at w
 split at w
 .rename_i z
  exact .inl #[z,i.str.1,i.str.2,q _ H (.str^Txt.slice z c f) .refl #[rfl,gG (Txt.slice_le z c f) i.str.2] w]
 .rename_i l
  let#[a,b,rfl,_,j,g]:=i;exact .inr^.inl #[a,b,rfl,.inl j,λp k=>q _ _ (.lst _) (A1 k) ((C5 (U:=U) k^R_ c f g).shOf h^by grind) w]
 .rename_i l
  let#[a,b,rfl,j,g]:=i.tup
  by_cases m:HT.sIx b.length 0 c=0/\HT.sIx b.length b.length f=b.length
  .refine .inr^.inr^.inr #[a,b,rfl,j.sq,m,?_]
   have e:cutD l c f=l:=by
    unfold cutD;rw[←g.length,m.1,m.2,m6,Nat.sub_zero,g.length,k9]
   rw[e]at w;exact q _ H (.tup l) .refl #[a,b,rfl,j,g] w
  .exact .inr^.inr^.inl #[a,b,rfl,j.sq,m,λp k=>q _ _ (.tup _) (A1 k) (Ce h k^R_ c f g) w]
 grind
def Y9(f a:DW):DW:=λn c P=>f n c λd g=>a g c λi e=>i=.int (-1)/\match d with
 |.lst b=>P (.lst b.reverse) e
 |.tup b=>P (.tup b.reverse) e
 |_=>False
def WF{a st:gZ}{F m:Kd}{B c:DW}{pos b:Pos}(e:DE X a F B)(o:DE X st m c):DE X (.Subscript a (.Slice p_ p_ (P3 st) b) pos) .sh^Y9 B c:=by
 let#[t,G,I]:=e;let#[u,J,L]:=o;refine#[_,Zi G J,λC M H n D Z P Q R w q=>?_];refine I C M H n D Z _ _ R w λv N d O r S T p=>?_;have s:=R.step r S;have W:=T.tpOf R.dom R.vM;refine L C M N O D Z _ _ s p λi H2 z E f x Y b=>?_;have h:=s.step f x;have j:=W.pres (s.pres f) f R.uV;let#[rfl,b]:=b;exists KY Y;cases d with
 |lst y=>
  let#[a,k,rfl,_,e,A]:=j;refine .inl #[a,k,rfl,.inl e,λp l=>?_];have g:Grow H2^A5 H2 p^.lst k.reverse:=A1 l;exact q _ _ (.lst y.reverse) E ((r.trans f).trans g.ext) (x.grow g) ((C5 (U:=C.V) l A.reverse).shOf h.dom^by intro z;cases z) b
 |tup y=>
  let#[a,k,rfl,e,A]:=j.tup;refine .inr #[a,k,rfl,e.sq,λp l=>?_];have g:Grow H2^A5 H2 p^.tup k.reverse:=A1 l;exact q _ _ (.tup y.reverse) E ((r.trans f).trans g.ext) (x.grow g) (Ce h.dom l A.reverse) b
 |_=>exact b.elim
def cU:D->D->(D->Prop)->Prop:=dO λi j P=>i.length+j.length<=sizeLine/\P^.lst (i++j)
end
end Dp
namespace Nt
open L2 Dp
def Bt:W2:=λa n P=>∃m:Int,a=[.fd,.sh^.int m]/\1<=m/\m<1073741824/\1<=n/\∀r:Int,0<=r->r<m->P (.int r) (n - 1)
def cs(x:Str):s_ Nat:=x.cps.toList
def aL{x y:Str}(h:cs x=cs y):x=y:=by
 let#[a]:=x;unfold cs at h
 simp_all
def Yl(x:Str):Prop:=1<=x.length/\x.length<=8/\∀c∈cs x,97<=c/\c<=122
def rising(a:s_ Str):Prop:=a.Pairwise λx y=>cs x<cs y
def VY(a b:s_ Nat):ltCps a b=decide (a<b):=ltCps_eq a b
theorem IS:∀(l:s_ Str) (p:Str),risingS p l=q_->(p::l).Pairwise λa b=>¬cs b<cs a
 |[],p,_=>mj _ _
 |x::r,p,h=>by
  have c:(!ltCps _ _&&risingS x r)=q_:=h;rw[gP,mP,VY,decide_eq_false_iff_not]at c;have e:=IS r x c.2;refine iF.mpr #[λy d=>?_,e]
  rcases T0.mp d with rfl|d
  .exact c.1
  .exact List.le_trans c.1^(iF.mp e).1 y d
def K9{l:s_ Str}(h:sortedS l=q_)(nd:l.Nodup):rising l:=by
 have c:l.Pairwise λa b=>¬cs b<cs a:=by
  cases l with
  |nil=>simp_all
  |cons x r=>exact IS r x h
 exact(c.and nd).imp λ{a b} #[d,e]=>jb λf=>e^aL^List.le_antisymm d f
def Gm(a:Int)(n:Nat):(EA a n).length=n:=by unfold EA;grind
def Jl{a:Int}{n:Nat}{d:D}(h:d∈EA a n):∃k:Nat,k<n/\d=.int (a+k):=by
 let#[k,b,rfl]:=Tk.mp h;exact#[k,i_.mp b,rfl]
end Nt
namespace L2
def Zs{K:Frag}:PySem.W.specialIn K (.builtin "object.__class__") "__get__"=P3^P3^.builtin "getset_descriptor.__get__":=by kernel_rfl
def VS{K:Frag}:PySem.W.takesIn K^.builtin "object.__class__"=P3 q_:=by kernel_rfl
section
variable {K:Frag}{nm n1 n2:Str}{C U D U':Addr}
def XC.hd(c:XC K nm C U):PySem.W.hasDictIn K C=q_:=by
 let#[a,b,_,d,_]:=c.cls;unfold PySem.W.hasDictIn
 grind
def XC.mro(c:XC K nm C U)(v:Ev):PySem.W.mroIn K C v=P3^(gE C::gE U::Cw).contains v:=by
 let#[d,a,b,_]:=c.cls;unfold PySem.W.mroIn;rw[a,Option.bind_some,b];rfl
def XC.name(c:XC K n1 C U)(d:XC K n2 C U'):n1=n2:=by
 let#[f,g,_,_,h]:=c.cls;let#[a,b,_,_,e]:=d.cls
 grind
def XC.nameU(c:XC K n1 C U)(d:XC K n2 U U'):n2="ThinError":=by
 let#[q,N,i,j,b,k,f,l,m,n,o,p,r,s,e]:=c.up;let#[g,a,_,_,h]:=d.cls;unfold PySem.W.clsIn at a;rw[e]at a
 grind
def XC.ty(c:XC K nm C U):(PySem.W.clsIn K C).isSome=q_/\PySem.W.typeIn K^.ref C=P3^.type "type":=by
 let#[q,N,d,f,a,g,b,h,i,j,k,l,m,e]:=c.obj;refine#[by unfold PySem.W.clsIn;rw[e];rfl,?_];unfold PySem.W.typeIn
 simp_all
def XC.kit(c:XC K n1 C U)(d:XC K n2 D U')(h:n2 ≠ "ThinError"):PySem.W.kitOne K (.ref C)^.ref D=P3 (decide (n1=n2)):=by
 unfold PySem.W.kitOne
 by_cases e:C=D
 .subst e
  rw[c.name d];simp
 .have a:n1≠n2:=λz=>by
   subst z;have q:=c.at_.symm.trans d.at_
   grind
  have b:U≠D:=λz=>by subst z;exact h^c.nameU d
  rw[if_neg^by simp[e]];show(if((PySem.W.clsIn K D).isSome&&PySem.W.typeIn K _==P3 _)=q_ then PySem.W.subIn K _ _ else p_)=_;rw[if_pos^by rw[d.ty.1,d.ty.2];rfl];show PySem.W.mroIn K C^.ref D=_;rw[c.mro,Ig]
  grind
def XC.kitV(c:XC K n1 C U):PySem.W.kitOne K (.ref C)^.type "ValueError"=P3 q_:=by
 show PySem.W.mroIn K C _=_;rw[c.mro];simp[Cw]
end
section
variable {prog:Program}{w:World}{A:Around}{E:Value->Shared->Prop}{s:Shared}{K:Frag}{nm name:Str}{x C U:Addr}{ox:Obj}{od:t_ Obj}{tk:Tok}{fill expr:Bool}
def YT{Q:Ev->Go->Prop}(X:K.In s.heap)(c:XC K nm C U)(I:PySem.W.InstAt s.heap x ox C od)
  (h:wpAny (model prog w) A.in1 (ir.«object.__getattribute__» #[[.ref x,.str name tk],[]]) (λa d=>match a with|.done (.ret v)=>wpAny (model prog w) A (handedOut v) Q E d|_=>False) (λ_ _=>False) s):
  wpAny (model prog w) A (getAttrBy (.ref x) (.str name tk) fill expr) Q E s:=by
 have e:=PySem.F.excAttr_ValueError;have f:(jo "BaseException.__getattribute__"==jo "object.__getattribute__")=r_:=by decide +kernel
 have i:(onTheHeap^gE C&&jo "BaseException.__getattribute__"==jo "object.__getattribute__")=r_:=by rw[f];rfl
 have g:(expr&&onTheHeap^jo "BaseException.__getattribute__")=r_:=by cases expr <;>rfl
 have b:PySem.W.Looks (model prog w) s.heap (isInstance (.ref x)^.type "BaseException") q_:=by
  refine I.type.andThen^PySem.W.looks_mroIn X ?_;rw[c.mro];simp[Cw]
 refine gw^Ch^I.type.here^Ch^(PySem.W.looks_findIn X c.ga).here ?_;show wpAny _ _ (if(onTheHeap^gE C&&jo _==jo _)=q_ then _ else getAttrByItsOwn _ _ _ _ _ _) _ _ _;refine Ch^(PySem.W.looks_findIn X c.gt).here^Ch^jK^gw ?_;unfold callGetattribute boundAndCalled;rw[g,e.ga.bind^.ref x];refine Ch^Rs^jP^kE e.ga.plain PySem.F.entry_bexc_ga^@PySem.W.check_slot (model prog w) _ _ s _ "BaseException" "__getattribute__" (.ref x) [.str name tk] [] _ (by decide +kernel) (by decide +kernel) b (PySem.F.args_bexc_ga _ _)^gq h (λa d z=>?_) λ_ _ z=>z.elim
 rcases a with(_|_|_|_)|_ <;>first|exact z|exact z.elim
def Y7{v:Ev}{Q:Ev->Go->Prop}(X:K.In s.heap)(c:XC K nm C U)(I:PySem.W.InstAt s.heap x ox C od)(a:PySem.W.findObj K C od name=P3^.value v)(b:PySem.W.handedIn v=q_)(h:Q v {s with toks:=s.toks+1}):
  wpAny (model prog w) A (getAttr (.ref x) name expr) Q E s:=by
 refine Ch^wpAny_mkText^YT X c I ?_;refine Ch^Rs^Ch^Rs^Ch^PySem.W.Looks.here I.type^Ch^PySem.W.Looks.here (PySem.W.looks_find X I a)^Rs ?_;show wpAny _ _ _ _ _ _;rw[PySem.W.handedOut_of b];exact Rs h
def T5{g a v:Ev}{Q:t_ Ev->Go->Prop}(X:K.In s.heap)(c:XC K nm C U)(I:PySem.W.InstAt s.heap x ox C od)(b:PySem.W.findObj K C od name=P3^.bind g a)(d:PySem.W.handedIn v=q_)
  (h:∀{A:gc}{R:Ev->Go->Prop},R v {s with toks:=s.toks+1}->wpAny (model prog w) A (call g [a,.ref x,.ref C]) R (λ_ _=>False) {s with toks:=s.toks+1}) (q:Q (P3 v) {s with toks:=s.toks+1}):
  wpAny (model prog w) A (getAttr? (.ref x) name) Q E s:=by
 refine Ch^wpAny_mkText^Ch^jK^YT X c I ?_;unfold ir.«object.__getattribute__»;refine Ch^Rs^Ch^Rs^Ch^PySem.W.Looks.here I.type^Ch^PySem.W.Looks.here (PySem.W.looks_find X I b) ?_;refine Ch^gw^h^Rs ?_;show wpAny _ _ _ _ _ _;rw[PySem.W.handedOut_of d];exact Rs^Rs q
end
section
variable {K:Frag}{nm:Str}{C U:Addr}
def XC.kitX{a:Db}(c:XC K nm C U):PySem.W.KitX K (.ref a) (.ref C) (λh=>∃i b,PySem.W.InstAt h a i C b) where
 ty:=λ_ _ _ #[_,_,I]=>I.type
 it:=λ_ _ X _=>by
  let#[q,N,l,m,d,o,f,p,t,u,v,x,y,e]:=c.obj;intro L M O P k q;exact Ch (wpAny_loadPart (k _ _^X _ _ e)^Rs q)
 ne:=λh tp B D n R X g=>by
  let#[q,N,l,m,d,o,f,p,t,u,v,x,y,e]:=c.obj;refine h9.mpr λz=>?_;have F:C=tp:=Value.ref.inj^beq_iff_eq.mp z;subst F;have S:=congrArg Obj.data^gH^(X _ _ e).symm.trans g
  grind
 ca:=λ{j w A E Q s} X J k=>by
  let#[i,b,I]:=J
  have G:PySem.W.findObj K C b "__class__"=P3^.bind (.builtin "getset_descriptor.__get__")^.builtin "object.__class__":=by
   let#[T,H,_]:=c.cls;unfold PySem.W.findObj;rw[H,c.ca];simp[Zs,VS]
  exact T5 X c I G rfl (λr=>jP^PySem.W.class_get X I (c.mro _) r) k
end
section
variable {X:Cx}{zH:s_ (Addr×Obj)}{Z:St}{H:Hp}{s:Shared}{a C U d:Addr}{dx:t_ Addr}{u:HO}{nm f:Str}{fs:s_ (Str×V)}{v:V}{A:Around}{E:Value->Shared->Prop}
def XT.inst(e:XT C dx a u)(I:Inv X zH Z H s)(g:H a=P3 u)(hd:∀d,dx=P3 d->∃o,s.heap.get? d=P3 o):∃h b,PySem.W.InstAt s.heap a h C b:=by
 let#[j,k,rfl,l]:=e;let#[c,_]:=(I.hok a _ g);cases dx with
 |none=>exact#[_,p_,c,rfl,rfl,trivial]
 |some d=>
  let#[o,i]:=hd d rfl;exact#[_,P3 o,c,rfl,rfl,i]
def Xu{b:Bool}{Q:Ev->Go->Prop}(I:Inv X zH Z H s)(i:H a=P3 u)(j:XT C (P3 d) a u)(ed:H d=P3^.ext^XF d k)(c:XC X.K nm C U)(n:GW X.K C f)(l:k.lookup f=P3 v)
  (h:∀u e,Inv X zH Z H e->RelV v u->Q u e):wpAny (model X.prog X.w) A (getAttr (.ref a) f b) Q E s:=by
 let#[y,z,rfl,B]:=j;let#[m,_]:=(I.hok a _ i);let#[#[D,o,r,F,_],_]:=(I.hok d _ ed);let#[G,p,q]:=Lu o;let#[t,x,g]:=RelO.some_of (by rw[←l];exact r f);exact Y7 I.kIn c #[m,rfl,rfl,p] (PySem.W.findObj_own c.hd n rfl (by rw[q,x])) (TX g)^h t _ (I.tok _) g
end
def fY(K:Frag)(e:TE)(f:Str):TE:=λZ H Q=>e Z H λx b=>∃a C U d u g c v,x=.ref a/\b a=P3 u/\XT C (P3 d) a u/\b d=P3^.ext^XF d c/\XC K g C U/\GW K C f/\c.lookup f=P3 v/\Q v b
section
variable {X:Cx}{e:Expr}{f:Str}{pos:Pos}{ta:TE}
def bv(b:PE X e ta)(g:attributeBase e f X.env^eval e X.env=eval e X.env):PE X (.Attribute e f pos)^fY X.K ta f:=by
 intro w s Z H Q I h;refine YG g^thn (b _ s Z H _ I h) λu y #[x,i,j,k,a,C,U,d,z,A,B,v,ex,m,o,p,c,n,l,q]=>?_;subst ex;obtain rfl:u=gE a:=k;exact Xu j m o p c n l λD E r t=>#[v,i,r,t,q]
def O5:De X (.builtin "isinstance") (λi H Q=>∃a C U g u j y c b,i=[.ref a,y]/\H a=P3 u/\XT C g a u/\(∀d,g=P3 d->∃k,H d=P3^.ext^XF d k)/\XC X.K j C U/\(y=.ty c/\PySem.W.kitOne X.K (.ref C)^.type c=P3 b\/∃D,y=.ref D/\PySem.W.kitOne X.K (.ref C)^.ref D=P3 b)/\Q (.bl b) H):=by
 intro F s Z H i G Q I r h;let#[a,C,U,g,u,j,y,c,b,rfl,p,t,v,l,x,q]:=h;let#[z,m,rfl,A,n]:=vals2 r;cases(show z=gE a from A)
 have J:=t.inst I p λd e=>by
  let#[k,B]:=v d e;let#[#[L,#[o,_,_,M,_],_],_]:=(show ObjOk X.prog X.w H s.heap d _ from I.hok d _ B)
  grind
 rcases x with⟨rfl,e⟩|⟨D,rfl,e⟩
 .cases(show m=jp c from n)
  exact PySem.W.kia_one l.kitX I.kIn J e (by grind) λE=>#[.bl b,H,I.tok _,rfl,q]
 .cases(show m=gE D from n)
  exact PySem.W.kia_one l.kitX I.kIn J e (by grind) λE=>#[.bl b,H,I.tok _,rfl,q]
end
end L2
namespace Dp
open L2
def fM(M:Db->Prop)(H:Hp)(a:t_ Db)(b:s_ Str)(c:s_ V):Prop:=a=p_/\b=[]/\c=[]\/∃d,a=P3 d/\¬M d/\H d=P3^.ext^XF d^b.zip c
abbrev PX:=Str->s_ Str->s_ D->Nat->Prop
abbrev WX:=s_ Slot->Nat->(D->Nat->Prop)->PX->Prop
def LiftX(K:Frag)(F:t_ (Db×Db))(U M:Db->Prop)(H:Hp)(h:PX)(E:XK):Prop:=∀d C i b c e f a g,Ext U H a->FeedC K F M a g->XC K d C i->fM M a f b e->b.length=c.length->Ats K M a c e->h d b c g->E (.ref C) f a
def eE(K:Frag)(h:Kd)(W:WX)(i:Nat):Sp:=λb H Q E=>b.length=i/\∃(F:t_ (Db×Db)) (U c M:Db->Prop) (n:Nat) (e:s_ Slot) (P:D->Nat->Prop) (f:PX),ac K F U c M H n e b/\W e n P f /\
 (∀v a d g,Ext U H a->FeedC K F M a g->VR K c M H a h v d->P d g->Q v a)/\LiftX K F U M H f E
section
variable {K:Frag}{C:Fm}{M:Addr->Prop}{H:Hp}{n:Nat}{ρ:s_ Slot}{Z:L2.St}
def Rel.setS(R:Rel K C M H n ρ Z){i:Nat}{s:Slot}{o:t_ V}(x:s.owns=r_)(y:∀d,s≠.br d)(h:SlotOk K C.F C.V M H s o):Rel K C M H n (ρ.set i s)^Z.set i o:=by
 have b:∀(j:Nat) (t:Slot),(ρ.set i s)[j]?=P3 t->t.owns=q_->ρ[j]?=P3 t/\((Z.set i o)[j]?).getD p_=(Z[j]?).getD p_:=λj t q w=>by
  rcases Dt q with⟨_,_,rfl⟩|⟨f,q⟩
  .rw[x]at w;cases w
  .exact#[q,GB f]
 refine#[by rw[iz,iz];exact R.len,R.sub,R.dom,R.ext,R.fU,R.uV,R.vM,R.feed,λj s q=>?_,R.pin,λj e a q c=>?_,λj s a q o c=>?_,λj k s t a g m c r u v=>?_,λp z=>?_]
 .rcases Dt q with⟨rfl,A,rfl⟩|⟨f,q⟩
  .rw[P0^by rw[←R.len];exact A]
   exact h
  .rw[GB f]
   exact R.sl j s q
 .rcases Dt q with⟨_,_,e⟩|⟨f,q⟩
  .exact absurd e.symm^y _
  .rw[GB f]at c
   exact R.br0 j e a q c
 .let#[g,e]:=b j s q o
  rw[e]at c;exact R.new j s a g o c
 .let#[B,D]:=b j s g m
  let#[E,l]:=b k t c r;rw[D]at u;rw[l]at v;exact R.two j k s t a B m E r u v
 .let#[G,I,J,L]:=R.kept p z
  refine#[G,I,J,λj e q=>?_];let#[g,l]:=b j _ q rfl;rw[l];exact L j e g
end
def a_(c:Fm->Prop)(X:Cx)(d:Kd)(st:gf)(w:Aa):Prop:=∃t,PS X st t/\∀(C:Fm) (M:Db->Prop) (H:Hp) (n:Nat) (a:s_ Slot) (Z:L2.St) (b:E2) (E:Ends),c C->Rel X.K C M H n a Z->HK X.K C d b E->w b n a->t E Z H
def Pf(c:Fm->Prop)(X:Cx)(d:Kd)(st:s_ gf)(w:Aa):Prop:=∃t,PSs X st t/\∀(C:Fm) (M:Db->Prop) (H:Hp) (n:Nat) (a:s_ Slot) (Z:L2.St) (b:E2) (E:Ends),c C->Rel X.K C M H n a Z->HK X.K C d b E->w b n a->t E Z H
section
variable {Φ:Fm->Prop}{X:Cx}{κ:Kd}{st:Stmt}{rest:s_ Stmt}{u v:Aa}{wA:HM}{c:Expr}{pos p:Pos}
def aE(h:DS X κ st u):a_ Φ X κ st u:=let #[t,a,b]:=h;#[t,a,λC M H n c Z d E _=>b C M H n c Z d E]
def NN(h:Pe X κ rest u):Pf Φ X κ rest u:=let #[t,a,b]:=h;#[t,a,λC M H n c Z d E _=>b C M H n c Z d E]
def Hr(d:a_ Φ X κ st u)(e:Pf Φ X κ rest v):Pf Φ X κ (st::rest)^Ae u v:=by
 let#[t,f,g]:=d;let#[j,h,i]:=e;exact#[_,BQ f h,λC M H n a Z b E c R L w=>g C M H n a Z {b with nx:=v b} _ c R #[λM H n a Z R w=>i C M H n a Z b E c R L w,L.rt,L.bk,L.ct] w]
def FC(a:a_ Φ X κ st u):Pf Φ X κ [st] u:=by
 let#[t,b,c]:=a;exact#[t,Cy b,c]
def Qc{a b:s_ gf}(k:DT X c wA)(l:Pf Φ X κ a u)(m:Pf Φ X κ b v):a_ Φ X κ (.If c a b pos)^BH wA u v:=by
 let#[t,o,q]:=k;let#[A,r,s]:=l;let#[x,y,z]:=m;refine#[_,RO o r y,λC M H n d Z e E f R L w=>?_];refine q C M H n d Z _ _ R w λb g h i j p=>?_;cases b with
 |true=>exact s C M g h d Z e E f (R.step i j) L p
 |false=>exact z C M g h d Z e E f (R.step i j) L p
end
def dA(P:gN)(w:gY)(K:Frag)(b:Str->t_ Ev)(a:gI)(c:Str)(d:s_ Str)(k:Nat):Prop:=∃C U,XC K c C U/\b c=P3^.ref C /\
 ((d=[]/\PySem.W.findIn K (.ref C) "__init__"=P3^P3^.builtin "ValueError.__init__")\/∃e g f fd h i j,d=[e,g]/\PySem.W.findIn K (.ref C) "__init__"=P3^P3^.ref f/\PySem.W.typeIn K^.ref f=P3^.type "function"/\CW P w K b a FV k f fd [h,i,j]^JV C e g/\Binds K fd [h,i,j] [])
def MW(d:Str)(a:s_ Str)(b:Ef):E2->PX->Nat->s_ Slot->Prop:=λ_ e n g=>b n g λc f=>(a=[]/\c.length<=100/\e d [] [] f)\/(a.length=2/\c.length=2/\e d a c f)
abbrev Yz:=E2->PX->Nat->s_ Slot->Prop
def dY(X:Cx)(d:Kd)(st:gf)(w:Yz):Prop:=∃t,ax X st t/\∀(C:Fm) (M:Db->Prop) (H:Hp) (n:Nat) (a:s_ Slot) (Z:L2.St) (b:E2) (E:Ends) (R:XK) (c:PX),Rel X.K C M H n a Z->HK X.K C d b E->LiftX X.K C.F C.U M H c R->w b c n a->t E R Z H
def dB(X:Cx)(d:Kd)(st:s_ gf)(w:Yz):Prop:=∃t,af X st t/\∀(C:Fm) (M:Db->Prop) (H:Hp) (n:Nat) (a:s_ Slot) (Z:L2.St) (b:E2) (E:Ends) (R:XK) (c:PX),Rel X.K C M H n a Z->HK X.K C d b E->LiftX X.K C.F C.U M H c R->w b c n a->t E R Z H
def LiftX.step{K:Frag}{F:t_ (Db×Db)}{U M:Db->Prop}{H a:Hp}{b:PX}{E:XK}(h:LiftX K F U M H b E)(e:Ext U H a):LiftX K F U M a b E:=λc C d f g i j k l m=>h c C d f g i j k l^e.trans m
section
variable {X:Cx}{κ:Kd}{st:Stmt}{u v:Yz}{c e:Expr}{es:s_ Expr}{pos cpos p:Pos}{nm:Str}{ks:s_ Str}{k:Nat}{was:Ef}
def V8(a:dY X κ st u):dB X κ [st] u:=by
 let#[t,b,c]:=a;exact#[t,U9 b,c]
def Hq(G:dA X.prog X.w X.K X.mg X.base nm ks k)(D:Room (k+1) X.A)(I:Gl X nm)(ha:Y1 X (e::es) was)(a:(nm==("__debug__":Str))=r_:=by cbv)(J:starEach (e::es) X.env=(r_,eval e X.env)::starEach es X.env:=by rfl)(b:(backTo cpos^starEach es X.env).any (·.1)=r_:=by rfl)
  (c:(e::es).length<=sizeLine:=by cbv):dY X κ (.Raise (P3^.Call (.Name nm p) (e::es) [] cpos) p_ pos)^MW nm ks was:=by
 let#[C,U,h,N,G]:=G;let#[t,O,P]:=ha
 rcases G with⟨rfl,s⟩|⟨Q,S,f,fd,p0,p1,p2,rfl,s,hf,F,hb⟩
 .refine#[_,QE h s D.hd I N O a J b,λC0 M H n u Z D2 E R Pr r L l w=>?_]
  refine P C0 M H n u Z _ _ r w λT V W x i j m p=>?_
  rcases p with⟨_,c,p⟩|⟨z,_⟩
  .exact#[by rw[m.length,PySem.sizeLine_eq];lk,l nm C U [] [] [] p_ V x i j h (.inl #[rfl,rfl,rfl]) rfl rfl p]
  .cases z
 .refine#[_,QD h s hf F hb D I N O a J b,λC0 M H n u Z D2 E R Pr r L l w=>?_]
  refine P C0 M H n u Z _ _ r w λT V W x i j m p=>?_
  rcases p with⟨z,_⟩|⟨_,c,p⟩
  .cases z
  .have Y:=m.length
   rw[c]at Y
   match T,Y with
   | [y,B],_=>
    refine#[y,B,rfl,λd hd=>?_];have g:=A1 (o:=.ext^XF d [(Q,y),(S,B)]) hd
    have nd:¬M d:=λz=>by
     let#[o,q]:=(r.step i j).dom d z;rw[hd]at q;cases q
    exact l nm C U [Q,S] W [y,B] (P3 d) _ x (i.trans g.ext) (j.grow g) h (.inr #[d,rfl,nd,Af]) c.symm (m.pres g.pres) p
def GO{R:XK}{j:Fm->Prop}{b:PX}{k:t_ (Db×Db)}{l m:Db->Prop}{o:Hp}{w:Yz}(hx:Hz (Tt X.prog X.w) X R)(q:LiftX X.K k l m o b R)(c:∀C,j C->C.F=k/\C.U=l/\C.M0=m/\C.H0=o)(h:dY X κ st w):a_ j X κ st (λg=>w g b):=by
 let#[t,s,u]:=h;refine#[_,Sm hx s,λC M H n x Z g E y r L w=>?_];let#[rfl,rfl,rfl,rfl]:=c C y;refine u C M H n x Z g E R b r L (λnm A B ks D G I i J e f N xd O P p=>?_) w;have a:Pres M i _ i:=Pres.less r.sub;refine q nm A B ks D G I i J (r.ext.trans e) (f.pres a λ_ _ _ z=>z) N ?_ O (P.pres a) p
 rcases xd with z|⟨d,Q,S,T⟩
 .exact .inl z
 .exact .inr #[d,Q,λz=>S^r.sub d z,T]
def de(X:Cx)(e:gZ)(κ:Kd)(w:Nat->s_ Slot->(D->Nat->Prop)->PX->Prop):Prop:=∃t,c7 X e t/\∀(C:Fm) (M:Db->Prop) (H:Hp) (n:Nat) (b:s_ Slot) (Z:L2.St) (P:D->Nat->Prop) (Q:VK) (R:XK) (c:PX),Rel X.K C M H n b Z->LiftX X.K C.F C.U M H c R->w n b P c->
 (∀v a d f,Ext C.U H a->FeedC X.K C.F M a f->VR X.K C.V M H a κ v d->P d f->Q v a)->t R Z H Q
def al(P:gN)(w:gY)(K:Frag)(c:Str->t_ Ev)(a:gI)(x:Str)(k:Nat)(b:s_ Str)(κ:Kd)(W:WX):Prop:=
 ∃f fd,CW P w K c a (Tt P w) k f fd b^eE K κ W b.length/\c x=P3^.ref f/\keepIn K^.ref f=q_/\Binds K fd b []/\∀d n P e,W d n P e->d.length=b.length
def UH(W:WX)(was:T2):Nat->s_ Slot->(D->Nat->Prop)->PX->Prop:=λn a P b=>was n a λc d=>W c d P b
def WD{m:s_ Str}{h:Kd}{W:WX}{x:Str}{was:T2}(G:al X.prog X.w X.K X.mg X.base x k m h W)(o:Room k X.A)(s:Gl X x)(u:Y0 X (e::es) was)
  (c:(x==("__debug__":Str))=r_:=by cbv) (y:starEach (e::es) X.env=(r_,eval e X.env)::starEach es X.env:=by rfl) (g:(backTo pos^starEach es X.env).any (·.1)=r_:=by rfl):
  de X (.Call (.Name x p) (e::es) [] pos) h (UH W was):=by
 let#[f,fd,G,z,B,D,E]:=G;let#[t,F,I]:=u;refine#[_,VH G o s z B D F c y g,λC M H n J Z P Q R L r l w q=>?_];refine I C M H n J Z _ _ r w λvs H1 N O a i j p=>?_;have b:=r.step a i;exact#[(Paired.length j).trans^E _ _ _ _ p,_,_,_,M,O,N,P,L,#[b.dom,b.fU,b.uV,b.vM,i,j],p,λv H2 d S T U V Y=>q v H2 d S (a.trans T) U (VR.back a V) Y,l.step a]
abbrev aq:=E2->Str->s_ Str->s_ D->Nat->s_ Slot->Prop
def DH(X:Cx)(κ:Kd)(g:s_ kM)(w:aq):Prop:=∃t,PH X g t/\∀(C:Fm) (M:Db->Prop) (H:Hp) (n:Nat) (b:s_ Slot) (Z:L2.St) (c:E2) (E:Ends) (nm:Str) (d h:Db) (ks:s_ Str) (a:s_ D) (e:s_ V) (f:t_ Db),
 Rel X.K C M H n b Z->HK X.K C κ c E->XC X.K nm d h->fM M H f ks e->ks.length=a.length->Ats X.K M H a e->w c nm ks a n b->t E d f Z H
def bA(c:Yz)(d:aq):Aa:=λa n b=>c a (λnm ks e f=>d a nm ks e f b) n b
def aF{a:s_ gf}{b:kM}{c:s_ kM}{h:Yz}{i:aq}(d:X.stack=X.env::X.outer)(g:X.env.frame=P3 X.env.locals)(hx:∀e s,X.xe e s->False)(m:dB X κ a h)(o:DH X κ (b::c) i):
  DS X κ (.Try a (b::c) [] [] pos) (bA h i):=by
 let#[t,q,u]:=m;let#[K,x,y]:=o;exact#[_,Zd d g hx q x,λC M H n j Z k E r L w=>u C M H n j Z k E _ _ r L (λnm l z ks A B D F G e f I xd J c p=>#[l,rfl,y C M F G j Z k E nm l z ks A B D (r.step e f) L I xd J c p]) w]
def UC:aq:=λ_ _ _ _ _ _=>False
def aG:DH X κ [] UC:=#[_,Zf,λ_ _ _ _ _ _ _ _ _ _ _ _ _ _ _ _ _ _ _ _ _ w=>w.elim]
def UD(e:Str)(i:Nat)(h:Db->Aa)(j:aq):aq:=λb nm ks f n g=>if nm=e\/e="ThinError" then ∀a,h a {nx:=λc d=>b.nx c^d.set i .no,rt:=b.rt,bk:=λc d=>b.bk c^d.set i .no,ct:=λc d=>b.ct c^d.set i .no} n^g.set i^.ex a nm ks f else j b nm ks f n g
def X8{i:Nat}{f y:Str}{h:gf}{b:s_ gf}{x:s_ kM}{J:Db}{O:Db->Aa}{Y:aq}{np:Pos}(hN:X.N.Nodup)(hi:X.N[i]?=P3 y)(hl:X.env.scope.names.lookup y=P3 .local)(hg:Gl X f)(hm:X.mg f=P3^.ref J)(hK:nsIn X.K mainGlobals f=P3^P3^.ref J)
  (P:f="ThinError"/\a9 X.K J\/f ≠ "ThinError"/\∃U,XC X.K f J U) (Q:X.stack=X.env::X.outer) (R:X.env.frame=P3 X.env.locals)
  (S:∀a,Pe (X.hush^X.A.mark^P3^.ref a) κ (h::b)^O a) (hr:DH X κ x Y) (hd:(f==("__debug__":Str))=r_:=by cbv):
  DH X κ (.ExceptHandler (P3^.Name f np) (P3 y) (h::b) pos::x) (UD f i O Y):=by
 let#[th,b1,b2]:=hr;have T:∀a,∃t,PSs (X.hush^X.A.mark^P3^.ref a) (h::b) t/\∀(C:Fm) (M:Db->Prop) (H:Hp) (n:Nat) (B:s_ Slot) (Z:L2.St) (k:E2) (E:Ends),Rel X.K C M H n B Z->HK X.K C κ k E->O a k n B->t E Z H:=S;refine#[_,XR (ts:=λa=>(T a).choose) hN hi hl hg hm (P.elim (λz=>z.2) fun#[_,U,c]=>c.isX) Q R (λa=>(T a).choose_spec.1) b1 hd,λC M H n B Z k E nm Cc V ks ds vs dx r L m xd D x w=>#[nm,V,m,?_]];unfold UD at w
 by_cases e:nm=f\/f="ThinError"
 .rw [if_pos e]at w
  refine .inl #[?_,λa u fa xt=>?_]
  .rcases P with⟨z,_⟩|⟨z,U,c⟩
   .subst z
    have q:=m.atU.symm.trans hK;cases q;exact .inr rfl
   .rcases e with e|e
    .subst e
     have q:=m.at_.symm.trans hK;cases q;exact .inl rfl
    .exact absurd e z
  .have g:Grow H^A5 H a u:=A1 fa
   have r1:=r.step (g.ext)^r.feed.grow g;have na:¬M a:=λz=>by let#[o,q]:=r.dom a z;rw[fa]at q;cases q
   have nd:∀{d:Db}{o:HO},H d=P3 o->A5 H a u d=P3 o:=λ{d o} q=>g.all d o q;refine(T a).choose_spec.2 C M (A5 H a u) n (B.set i^.ex a nm ks ds) _ {nx:=λj l=>k.nx j^l.set i .no,rt:=k.rt,bk:=λj l=>k.bk j^l.set i .no,ct:=λj l=>k.ct j^l.set i .no} _ (r1.setS rfl (λ_ z=>by cases z) #[rfl,Cc,V,dx,u,vs,m,#[na,Af],xt,?_,D,x.pres g.pres]) #[λF G j l zZ I q=>?_,L.rt,λF G j l zZ I q=>?_,λF G j l zZ I q=>?_]^w a
   .rcases xd with z|⟨d,W,n1,h1⟩
    .exact .inl z
    .exact .inr #[d,W,n1,nd h1]
   .exact L.nx F G j _ _ (I.setS (s:=.no) rfl (λ_ z=>by cases z) trivial) q
   .exact L.bk F G j _ _ (I.setS (s:=.no) rfl (λ_ z=>by cases z) trivial) q
   .exact L.ct F G j _ _ (I.setS (s:=.no) rfl (λ_ z=>by cases z) trivial) q
 .rw[if_neg e]at w
  have W:nm≠f:=λz=>e^.inl z;have e2:f ≠ "ThinError":=λz=>e^.inr z
  rcases P with⟨z,_⟩|⟨_,U,c⟩
  .exact absurd z e2
  .refine .inr #[λz=>?_,λz=>?_,b2 C M H n B Z k E nm Cc V ks ds vs dx r L m xd D x w]
   .subst z
    exact W^m.name c
   .subst z
    exact e2^m.nameU c
end
end Dp
namespace L2
def HX(A:gc)(H:Hp):Prop:=∃a C b u,A.handled=P3^.ref a/\H a=P3 u/\XT C b a u
structure fN (P:gN) (w:gY) (K:Frag) (tg:gZ) (J:It) (fp:List Db) (it:Db) (tn:Nat->gI->Prop):Prop where
 mem:it∈fp
 obj:∀i h,tn i h->∀b∈fp,∃o,h.get? b=P3 o/\∀v,o.data≠.cell v
 keep:∀i h h',tn i h->(∀b∈fp,∀o,h.get? b=P3 o->h'.get? b=P3 o)->tn i h'
 item:∀(X:Cx),X.prog=P->X.w=w->X.K=K->HX X.A X.H₀->∀(i:Nat) (zH:List (Db×Obj)) (s:Go) (Z:St) (H:Hp) (E:Ev->Go->Prop),Inv X zH Z H s->(∀b∈fp,FU X zH H b)->tn i s.heap->J.go i H->
  wpAny (model P w) X.A (pyNext^.ref it) (λr s1=>∃u,r=P3 u /\
   wpAny (model P w) X.A (letOwnedTupleGo tg (.ref it) u) (λ_ s2=>∃x H',Inv X zH Z H' s2/\RelV x u/\J.yld i H x H'/\tn (i+1) s2.heap/\∀b∈fp,H' b=p_) E s1) E s
 done:∀(X:Cx),X.prog=P->X.w=w->X.K=K->HX X.A X.H₀->∀(i:Nat) (zH:List (Db×Obj)) (s:Go) (Z:St) (H:Hp) (E:Ev->Go->Prop),Inv X zH Z H s->(∀b∈fp,FU X zH H b)->tn i s.heap->J.stop i H->
  wpAny (model P w) X.A (pyNext^.ref it) (λr s1=>r=p_/\Inv X zH Z H s1) E s
 self:∀(A:gc) (i:Nat) (s:Go) (Q:Ev->Go->Prop) (E:Ev->Go->Prop),tn i s.heap->Q (.ref it) s->wpAny (model P w) A (pyIter^.ref it) Q E s
end L2
namespace Dp
open L2
end Dp
namespace L2
structure RoomH (k:Nat) (A:gc):Prop where
 dp:A.depth+3*k+5<recursionLimit
 un:A.units+16*k+200<cLine
 gd:A.guards=P3 []
def RoomH.mono{j k:Nat}{A:gc}(r:RoomH k A)(h:j<=k):RoomH j A:=#[by have:=r.dp;lk,by have:=r.un;lk,r.gd]
def RoomH.room{k:Nat}{A:gc}(r:RoomH k A):Room k {A with handled:=p_}:=#[rfl,r.dp,r.un,r.gd]
def Room.held{k:Nat}{A:gc}(r:Room k A)(e:t_ Ev):RoomH k^A.mark e:=#[r.dp,r.un,r.gd]
def RoomH.deeper{k:Nat}{A:gc}(r:RoomH (k+1) A)(a:Env):RoomH k^A.deeper a:=let q:=r.room.deeper a;#[q.dp,q.un,q.gd]
structure Pc (P:gN) (w:gY) (K:Frag) (mg:Str->Option Ev) (base:gI) (k:Nat) (f:Db) (fd:gy) (ps:List Str) (sp:Sp):Prop where
 len:∀vs H Q E,sp vs H Q E->vs.length=ps.length
 run:∀(A:gc) (outer:List Env) (s:Go) (H:Hp) (args:Args) (us:List Ev) (vs:List V) (Q:VK) (E:XK),RoomH k A->HX A H->Env0 P w K mg base A outer s H->lg s fd args^ps.zip us->Vals vs us->sp vs H Q E->
  codeAny (model P w) A (.call (.ref f) args) (CR FV outer P w H s Q E) s
def Fun.okH{P:gN}{w:gY}{K:Frag}{B:Str->t_ Ev}{g:gI}{x a:Str}{st:gf}{f:Db}{fd:gy}{N G:s_ Str}{k:Nat}{M:Sp}(F:Fun K x a st f fd)(S:Ag N G^AI st)(len:∀j H Q E,M j H Q E->j.length=G.length)
  (m:∀(d:Ev) (A:gc) (c:s_ Env) (s:Go) (H:Hp) (j:s_ V) (Q:VK) (E:XK),RoomH k^A.deeper^envOfC a (AI st) s.heap.objs.size f d->HX A H->M j H Q E->
   ∃t,PSs ((D1 FV P w K B g N a (AI st) f d A c s H E).hush^A.deeper^envOfC a (AI st) s.heap.objs.size f d) (BV st) t/\t {nx:=λ_ l=>Q .non l,rt:=Q} (start N j) H):Pc P w K B g (k+1) f fd G M:=by
 let#[oc,od,kV,a0,pm,an,d,ct,a1,rfl,lk,O]:=F.ex;refine#[len,λA c s H Y us j Q E Z hx i hb r C=>?_];have hl:=len _ _ _ _ C;have KX:K.In s.heap:=i.mod.kin.keeps λb o e=>(i.bs b o e).1;have R:s.heap.NoLimit:=i.mod.nolimit.keeps λb o e=>(i.bs b o e).1
 have p:∀y∈G.zip us,(AI st).names.lookup y.1=P3 .local\/((AI st).names.lookup y.1=P3 .cell/\((cellsFrom (s.heap.objs.size+1) (AI st).names []).lookup y.1).isSome=q_):=fun#[n,v] hy=>by
  rcases S.par n (jr hy).1 with q|q
  .exact .inl q
  .exact .inr #[q,PySem.W.cellsFrom_some _ _ _^.inl q]
 refine codeAny_call_function Z.room.depth (KX _ _ lk) rfl S.co S.gen rfl (PySem.W.codeRec_of KX O) (hb _ _ _ _ ?_);refine mC S.kind p λa2 he T x1=>?_;subst he;refine#[R.keeps x1.toInCall.keep,codeAny_func ?_];let#[t,ht,hq]:=m d A c s H j Q E (Z.deeper _) hx C;have I0:Inv (D1 FV P w K B g N a (AI st) f d {A with handled:=p_} c s H E) [] (start N j) H T:=L5 S rfl #[i.frames,i.mod,i.bs,i.bsz,i.funs,i.frf,i.hok,i.bare] hl r x1;have I:Inv ((D1 FV P w K B g N a (AI st) f d A c s H E).hush^A.deeper^envOfC a (AI st) s.heap.objs.size f d) [] (start N j) H T:=I0.hush (A:=A.deeper^envOfC a (AI st) s.heap.objs.size f d)^m_ i.frames;refine gq (ht [] T (start N j) H _ I hq) (λfl U z=>?_) λe U z=>g8 z
 have D:∀{L:St}{l:Hp}{v:V}{u:Ev},Inv ((D1 FV P w K B g N a (AI st) f d A c s H E).hush^A.deeper^envOfC a (AI st) s.heap.objs.size f d) [] L l U->RelV v u->Q v l->CE c P w H s Q u U:=
  λ{L l v u} J X q=>#[v,l,J.os,J.bare,J.base,J.hok,X,q]
 cases fl with
 |ret u=>
  let#[v,L,l,J,X,q]:=z;exact D J X q
 |next=>
  let#[L,l,J,q]:=z;exact D (v:=V.non) (u:=gh) J rfl q
 |brk=>
  let#[_,_,_,q]:=z;exact g8 q
 |cont=>
  let#[_,_,_,q]:=z;exact g8 q
section
variable {X:Cx}{k:Nat}{f:Addr}{fd:FuncData}{ps:s_ Str}{sp:Sp}{x:Str}{p pos:Pos}{e:Expr}{es:s_ Expr}{t:TA}
def ZP(A:gc)(sp:Sp)(t:TA):TE:=λZ H Q=>t Z H λb a=>HX A a/\sp b a Q E0
def VM(F:Pc X.prog X.w X.K X.mg X.base k f fd ps sp)(l:RoomH k X.A)(m:Gl X x)(n:X.mg x=P3^.ref f)(o:keepIn X.K^.ref f=q_)(v:Binds X.K fd ps [])
  (y:PA X (e::es) t) (d:(x==("__debug__":Str))=r_:=by cbv) (z:starEach (e::es) X.env=(r_,eval e X.env)::starEach es X.env:=by rfl) (g:(backTo pos^starEach es X.env).any (·.1)=r_:=by rfl):
  PE X (.Call (.Name x p) (e::es) [] pos) (ZP X.A sp t):=by
 intro B s Z H Q I h;refine hU^Dq I m n ?_ d;refine PySem.W.callWith_K (h₀:=X.base) I.ok.mod.kin o (thn (y pos B s Z H _ I h) λa i #[j,C,c,r,D,q]=>#[c.kIn,?_]) z g;have E:(a++[]).length=ps.length:=by rw[gK,←r.length];exact F.len _ _ _ _ q
 have G:Vals j (a++[]):=by grind
 refine jP^jg (F.run X.A X.stack i C #[a,[]] (a++[]) j Q E0 l D c.env0 (v i a c.kIn E) G q) λr L b=>?_;cases r with
 |error e=>exact g8 b
 |ok J=>
  cases J with
  |ret u=>exact c.after b
  |next=>exact g8 b
  |brk=>exact g8 b
  |cont=>exact g8 b
end
end L2
namespace Dp
open L2
section
variable {X:Cx}{e:Expr}{es:s_ Expr}{p p1 p2 pos:Pos}{i:Nat}{x f nm:Str}{κ:Kd}
def UK(i:Nat):Nat->s_ Slot->(Slot->Nat->Prop)->Prop:=λn b P=>match b[i]? with
 |some (.ex a nm c d)=>P (.ex a nm c d) n
 |_=>False
def cZ(i:Nat){x:Str}{pos:Pos}(d:X.N[i]?=P3 x:=by rfl)(e:Tz X.env.scope x:=by first|exact TW rfl|exact iI (TW rfl)|exact iI (iI rfl))(b:(x==("__debug__":Str))=r_:=by cbv)
  (c:(x==("__classdict__":Str))=r_:=by cbv):dD X (.Name x pos)^UK i:=by
 refine#[_,Ex d e b c,λC M H n l Z P Q R w q=>?_];unfold UK at w
 split at w
 .rename_i a nm g h b
  let#[j,k]:=R.sl i _ b;exact#[_,getD_some j,q _ H (.ex a nm g h) n (Ext.refl _ _) R.feed #[#[rfl,k],rfl] w]
 grind
def dE(i:Nat)(f:Str):DW:=λn a P=>match a[i]? with
 |some (.ex _ _ b c)=>∃d,(b.zip c).lookup f=P3 d/\P d n
 |_=>False
theorem JK{K:Frag}{M:Db->Prop}{H:Hp}{f:Str}{d:D}:∀{b:s_ Str}{c:s_ D}{a:s_ V},Ats K M H c a->(b.zip c).lookup f=P3 d->∃v,(b.zip a).lookup f=P3 v/\At K M H d v
 |[],c,a,h,e=>by simp at e
 |k::b,[],a,h,e=>by simp at e
 |k::b,j::c,a,h,e=>by
  let#[v,r,rfl,l,g]:=h;rw[kW,jM]at e ⊢
  split at e
  .grind
  .exact JK g e
def Yu(j:f∈(["word","number","row"]:s_ Str))(o:X.N[i]?=P3 x:=by rfl)(c:Tz X.env.scope x:=by first|exact TW rfl|exact iI (TW rfl)|exact iI (iI rfl))(e:(x==("__debug__":Str))=r_:=by cbv)
  (g:(x==("__classdict__":Str))=r_:=by cbv) (r:attributeBase (.Name x p) f X.env^eval (.Name x p) X.env=eval (.Name x p) X.env:=by rfl):DE X (.Attribute (.Name x p) f pos) .sh^dE i f:=by
 refine#[_,bv (Ex o c e g) r,λC M H n E Z P Q R w q=>?_];unfold dE at w
 split at w
 .rename_i a nm F G e
  let#[d,l,w]:=w;let#[s,k,U,I,u,J,b,#[m,t],y,z,L,A]:=R.sl i _ e
  rcases z with⟨_,rfl,_⟩|⟨B,rfl,O,h⟩
  .simp at l
  .let#[v,D,c]:=JK A l
   have m:GW X.K k f:=by
    simp only[T0,gJ,or_false]at j
    rcases j with rfl|rfl|rfl
    .exact b.nw
    .exact b.nn
    .exact b.nr
   exact#[.ref a,getD_some s,a,k,U,B,u,nm,_,v,rfl,t,y,h,b,m,D,q v H d n (Ext.refl _ _) R.feed c w]
 .exact w.elim
def MV(i:Nat)(cn:Str):DW:=λn a P=>match a[i]? with
 |some (.ex _ nm _ _)=>P (.bl (decide (nm=cn))) n
 |_=>False
def T_(i:Nat):DW:=λn a P=>match a[i]? with
 |some (.ex _ _ _ _)=>P (.bl q_) n
 |_=>False
def GP{cn:Str}{D U:Db}(s:cn ≠ "ThinError")(xd:XC X.K cn D U)(b:Gl X cn)(c:X.mg cn=P3^.ref D)(t:Gl X "isinstance")(y:X.mg "isinstance"=p_)(A:X.N[i]?=P3 x:=by rfl)(B:Tz X.env.scope x:=by first|exact TW rfl|exact iI (TW rfl)|exact iI (iI rfl))(e:(x==("__debug__":Str))=r_:=by cbv)
  (g:(x==("__classdict__":Str))=r_:=by cbv) (h:(cn==("__debug__":Str))=r_:=by cbv) (m:starEach [.Name x p1,.Name cn p2] X.env=(r_,eval (.Name x p1) X.env)::starEach [.Name cn p2] X.env:=by rfl) (j:starEach [.Name cn p2] X.env=[(r_,eval (.Name cn p2) X.env)]:=by rfl) (k:(backTo pos^starEach [.Name cn p2] X.env).any (·.1)=r_:=by rfl):
  DE X (.Call (.Name "isinstance" p) [.Name x p1,.Name cn p2] [] pos) .sh (MV i cn):=by
 refine#[_,EB O5 t y (by decide +kernel) (Bl (Ex A B e g) (Bl (XW (v:=.ref D) b c rfl h) Cb j) m) (by cbv) (by cbv) m k,λC M H n S Z P Q R w q=>?_];unfold MV at w
 split at w
 .rename_i a nm T V e
  let#[E,F,G,I,u,W,o,#[Y,J],L,O,hl,hs]:=R.sl i _ e;refine#[.ref a,getD_some E,a,F,G,I,u,nm,.ref D,"",_,rfl,J,L,λd r=>?_,o,.inr #[D,rfl,o.kit xd s],q _ H (.bl _) n (Ext.refl _ _) R.feed rfl w]
  rcases O with⟨z,_⟩|⟨dd,z,_,l⟩
  .grind
  .rw[z]at r;cases r;exact#[_,l]
 grind
def YB(c:Gl X "ValueError")(e:X.mg "ValueError"=p_)(r:Gl X "isinstance")(s:X.mg "isinstance"=p_)(t:X.N[i]?=P3 x:=by rfl)(y:Tz X.env.scope x:=by first|exact TW rfl|exact iI (TW rfl)|exact iI (iI rfl))(g:(x==("__debug__":Str))=r_:=by cbv)
  (h:(x==("__classdict__":Str))=r_:=by cbv) (m:starEach [.Name x p1,.Name "ValueError" p2] X.env=(r_,eval (.Name x p1) X.env)::starEach [.Name "ValueError" p2] X.env:=by rfl) (j:starEach [.Name "ValueError" p2] X.env=[(r_,eval (.Name "ValueError" p2) X.env)]:=by rfl) (k:(backTo pos^starEach [.Name "ValueError" p2] X.env).any (·.1)=r_:=by rfl):
  DE X (.Call (.Name "isinstance" p) [.Name x p1,.Name "ValueError" p2] [] pos) .sh (T_ i):=by
 refine#[_,EB O5 r s (by decide +kernel) (Bl (Ex t y g h) (Bl (RT (v:=.ty "ValueError") c e PyProof.Rows.Boot.«ValueError» rfl) Cb j) m) (by cbv) (by cbv) m k,λC M H n J Z P Q R w q=>?_];unfold T_ at w
 split at w
 .rename_i a nm K L g
  let#[A,B,D,E,u,O,o,#[S,F],G,I,T,U]:=R.sl i _ g;refine#[.ref a,getD_some A,a,B,D,E,u,nm,.ty "ValueError","ValueError",q_,rfl,F,G,λd b=>?_,o,.inl #[rfl,o.kitV],q _ H (.bl _) n (Ext.refl _ _) R.feed rfl w]
  rcases I with⟨z,_⟩|⟨V,z,_,l⟩
  .rw[z]at b;cases b
  .rw[z]at b;cases b;exact#[_,l]
 .exact w.elim
def am(P:gN)(w:gY)(K:Frag)(c:Str->t_ Ev)(a:gI)(x:Str)(k:Nat)(b:s_ Str)(κ:Kd)(W:W2):Prop:=
 ∃f fd,Pc P w K c a k f fd b^Tu K κ W b.length/\c x=P3^.ref f/\keepIn K^.ref f=q_/\Binds K fd b []/\∀d n P,W d n P->d.length=b.length
def UI(a:Db)(i:Nat)(W:W2)(b:T2):DW:=λn c P=>(∃nm d e,c[i]?=P3^.ex a nm d e)/\b n c λg h=>W g h P
def WI{a:Db}(i:Nat){k:Nat}{r:s_ Str}{W:W2}{b:T2}(s:X.A.handled=P3^.ref a)(G:am X.prog X.w X.K X.mg X.base x k r κ W)(y:RoomH k X.A)(z:Gl X x)(g:Y0 X (e::es) b)
  (h:(x==("__debug__":Str))=r_:=by cbv) (B:starEach (e::es) X.env=(r_,eval e X.env)::starEach es X.env:=by rfl) (j:(backTo pos^starEach es X.env).any (·.1)=r_:=by rfl):
  DE X (.Call (.Name x p) (e::es) [] pos) κ (UI a i W b):=by
 let#[f,fd,G,D,E,I,J]:=G;let#[t,L,N]:=g;refine#[_,VM G y z D E I L h B j,λC M H n O Z P Q R w q=>?_];let#[#[nm,ks,ds,S],w]:=w;refine N C M H n O Z _ _ R w λvs H1 T Y l m o p=>?_;have c:=R.step l m;let#[ea,Cc,U',dx,u,a0,xc,#[na,g],xt,_]:=c.sl i _ S;refine#[#[a,Cc,dx,u,s,g,xt],(Paired.length o).trans^J _ _ _ p,C.F,C.U,C.V,M,Y,T,P,#[c.dom,c.fU,c.uV,c.vM,m,o],p,λv H2 d n2 e2 f2 r2 p2=>?_];exact q v H2 d n2 (l.trans e2) f2 (VR.back l r2) p2
end
def eY{P:gN}{w:gY}{K:Frag}{u:Str->t_ Ev}{e:gI}{x b:Str}{st:gf}{f:Db}{fd:gy}{N g:s_ Str}{k:Nat}{l:Kd}{W:W2}{y:Aa}(F:Fun K x b st f fd)(S:Ag N g^AI st)(D:g.length<=N.length)
  (G:∀(c:Ev) (A:gc) (a:s_ Env) (s:Go) (H:Hp) (E:XK),RoomH k^A.deeper^envOfC b (AI st) s.heap.objs.size f c->HX A H->Pe ((D1 FV P w K u e N b (AI st) f c A a s H E).hush^A.deeper^envOfC b (AI st) s.heap.objs.size f c) l (BV st) y)
  (hW:∀j n i,j.length=g.length->W j n i->y {nx:=λn _=>l=.sh/\i .non n,rt:=i} n (j++ZB (N.length - g.length) .no)):
  Pc P w K u e (k+1) f fd g (Tu K l W g.length):=by
 refine F.okH S (λB H Q E h=>h.1) λc A a s H B Q E I J h=>?_;let#[hl,L,U,O,M,n,j,i,C,hw,q]:=h;let#[t,T,V]:=G c A a s H E I J;exists t,T;have el:B.length=j.length:=Paired.length C.2.2.2.2.2;have R:=HS (N:=N) C (by lk);refine V #[M,L,U,O,H,[],[]] M H n _ _ {nx:=λn _=>l=.sh/\i .non n,rt:=i} _ R #[λM1 m o zQ zK r p=>?_,λv m d o X Y Z p=>q v m d o X Y Z p,λ_ _ _ _ _ _ z=>z.elim,λ_ _ _ _ _ _ z=>z.elim] ?_
 .let#[hk,p]:=p
  subst hk;exact q .non m .non o r.ext (r.feed.pres (Pres.less r.sub) λ_ _ _ z=>z) rfl p
 grind
def fnX{P:gN}{w:gY}{K:Frag}{G:Str->t_ Ev}{e:gI}{x a:Str}{st:gf}{f:Db}{fd:gy}{N i:s_ Str}{k:Nat}{m:Kd}{W:WX}{wb:PX->Aa}(F:Fun K x a st f fd)(S:Ag N i^AI st)(J:i.length<=N.length)
  (L:∀(c:Ev) (A:gc) (b:s_ Env) (s:Go) (H:Hp) (E:XK) (g:PX) (o:t_ (Db×Db)) (U M:Db->Prop),LiftX K o U M H g E->Room k^A.deeper^envOfC a (AI st) s.heap.objs.size f c->
   Pf (λC=>C.F=o/\C.U=U/\C.M0=M/\C.H0=H) (D1 (Tt P w) P w K G e N a (AI st) f c A b s H E) m (BV st) (wb g))
  (hW:∀r n j g,r.length=i.length->W r n j g->wb g {nx:=λn _=>m=.sh/\j .non n,rt:=j} n (r++ZB (N.length - i.length) .no)):
  CW P w K G e (Tt P w) (k+1) f fd i (eE K m W i.length):=by
 let#[oc,od,kV,O,pm,an,c,ct,T,rfl,V,u]:=F.ex;refine Ym V u S (λX H Q E h=>h.1) λA b s H X Q E Y h=>?_;let#[hl,o,U,V',M,n,r,j,g,I,hw,q,l]:=h;let#[t,Z,t2]:=L c A _ s H E g o U M l Y;exists t,Z;have el:=Paired.length I.2.2.2.2.2;have R:=HS (N:=N) I (by lk);refine t2 _ M H n _ _ {nx:=λn _=>m=.sh/\j .non n,rt:=j} _ #[rfl,rfl,rfl,rfl] R #[λM1 y B zQ zK D p=>?_,λv y d B e1 f1 r1 p=>q v y d B e1 f1 r1 p,λ_ _ _ _ _ _ z=>z.elim,λ_ _ _ _ _ _ z=>z.elim] ?_
 .let#[hk,p]:=p
  subst hk;exact q .non y .non B D.ext (D.feed.pres (Pres.less D.sub) λ_ _ _ z=>z) rfl p
 grind
end Dp
namespace So
open PySem.W
section
variable {O:KeyOrd}{key:Nat->O.α}{N:Nat}{cmp:Nat->Nat->(Bool->Shared->Prop)->Shared->Prop}{s:Shared}{p p0:Array Nat}
def KN(O:KeyOrd)(key:Nat->O.α)(p:Array Nat)(i:Nat):O.α:=key^p.getD i 0
def Srt(O:KeyOrd)(key:Nat->O.α)(p:Array Nat)(k:Nat):Prop:=∀i j,i<=j->j<k->O.kle (KN O key p i)^KN O key p j
def c8(O:KeyOrd)(key:Nat->O.α)(p:Array Nat)(k:Nat):Prop:=∀i j,i<=j->j<k->O.kle (KN O key p j)^KN O key p i
def Y3(O:KeyOrd)(key:Nat->O.α)(N:Nat)(cmp:Nat->Nat->(Bool->Go->Prop)->Go->Prop)(s:Go):Prop:=∀(i j:Nat) (C:Bool->Go->Prop),i<N->j<N->C (O.blt (key i)^key j) s->cmp i j C s
def Bd(N:Nat)(p:Array Nat):Prop:=0<N/\∀x∈p,x<N
def Xv(p:Array Nat)(i:Nat):p.getD i 0=(p[i]?).getD 0:=by
 simp
def Bd.get(h:Bd N p)(i:Nat):p.getD i 0<N:=by
 rw[Xv];cases e:p[i]? with
 |none=>exact h.1
 |some x=>exact h.2 x^Array.mem_of_getElem? e
def Bd.perm{a:Array Nat}(h:Bd N p)(b:a.Perm p):Bd N a:=#[h.1,λx c=>h.2 x^b.mem_iff.mp c]
def FT{p q:Array Nat}{i j:Nat}(h:p[i]?=q[j]?):KN O key p i=KN O key q j:=by
 unfold KN
 simp_all
def MR{a d:Nat}(f:a<p.size)(hd:d<=a)(k:Nat):
  KN O key (bubble p a d) k=if k=a - d then KN O key p a else if a - d<k/\k<=a then KN O key p (k - 1)else KN O key p k:=by
 have e:=getElem?_bubble f d hd k
 by_cases b:k=a - d
 .rw[if_pos b]at e ⊢;exact FT e
 .rw[if_neg b]at e ⊢
  by_cases c:a - d<k/\k<=a
  .rw[if_pos c]at e ⊢;exact FT e
  .rw[if_neg c]at e ⊢;exact FT e
def H_{i j:Nat}(b:j<=p.size)(k:Nat):KN O key (kas_rev p i j) k=if i<=k/\k<j then KN O key p (i+j - 1 - k)else KN O key p k:=by
 have e:=getElem?_mirror_all (i:=i) b k
 by_cases a:i<=k/\k<j
 .rw[if_pos a]at e ⊢;exact FT e
 .rw[if_neg a]at e ⊢;exact FT e
def Bz{i j:Nat}(a:j<=p.size)(b:∀k,i<=k->k<j->KN O key p k=KN O key p (j - 1))(k:Nat):KN O key (kas_rev p i j) k=KN O key p k:=by
 rw[H_ a]
 grind
def CZ(p:Array Nat)(i j:Nat):(kas_rev p i j).Perm p:=mirror_perm _ _ _ _
def yes{c:Type}{a b:KasT c}{Q:c->Go->Prop}(h:a.kasWp cmp Q s):(if q_=q_ then a else b).kasWp cmp Q s:=by grind
def no{c:Type}{b a:KasT c}{Q:c->Go->Prop}(h:a.kasWp cmp Q s):(if r_=q_ then b else a).kasWp cmp Q s:=by grind
theorem Ql(q:Y3 O key N cmp s)(d:Bd N p){nrem:Nat}{G:Nat->Go->Prop}:∀(f n:Nat),1<=n->n+f=nrem->Srt O key p n->
  (∀m,n<=m->m<=nrem->Srt O key p m->(m=nrem\/O.klt (KN O key p m)^KN O key p (m - 1))->G m s)->(kas_asc p f n).kasWp cmp G s
 |0,n,_,e,b,h=>h n (Re _) (by lk) b^.inl^by lk
 | f+1,n,w,e,b,h=>by
  show cmp (p.getD n 0) (p.getD (n - 1) 0) (λc r=>(if c=q_ then KasT.ret n else kas_asc p f (n+1)).kasWp cmp G r) s;refine q _ _ _ (d.get n) (d.get _) ?_;cases a:O.blt (key^p.getD n 0)^key^p.getD (n - 1) 0 with
  |true=>exact yes^h n (Re _) (by lk) b^.inr a
  | false=>
   refine no^Ql q d f (n+1) (by lk) (by lk) (λi j g x=>?_) λm y t u v=>h m (by lk) t u v
   by_cases k:j<n
   .exact b i j g k
   .have l:j=n:=by lk
    subst l
    by_cases o:i=j
    .subst o;exact ig _
    .exact k_ (b i (j - 1) (by lk)^by lk) a
theorem JF(D:Y3 O key N cmp s){l:Nat}{G:Array Nat×Nat×Nat->Go->Prop}:∀(f:Nat) (p:Array Nat) (n q:Nat),p.Perm p0->Bd N p->l<=p.size->1<=n->n+f=l->c8 O key p n->q+1<=n->
  (∀i,n - (q+1)<=i->i<n->KN O key p i=KN O key p (n - 1))->
  (∀g m v,g.Perm p0->Bd N g->g.size=p.size->n<=m->m<=l->c8 O key g m->v+1<=m->(∀i,m - (v+1)<=i->i<m->KN O key g i=KN O key g (m - 1))->G (g,m,v) s)->(kas_desc f p n q).kasWp cmp G s
 |0,p,n,q,C,u,Q,Y,e,x,R,E,h=>h p n q C u rfl (Re _) (by lk) x R E
 | f+1,p,n,q,C,u,Q,Y,e,x,R,E,h=>by
  show cmp (p.getD n 0) (p.getD (n - 1) 0) (λc S=>(if c=q_ then(if q > 0 then kas_desc f (kas_rev p (n - (q+1)) n) (n+1) 0 else kas_desc f p (n+1) 0)
   else .ask (p.getD (n - 1) 0) (p.getD n 0) λd=>if d=q_ then .ret (p,n,q)else kas_desc f p (n+1) (q+1)).kasWp cmp G S) s
  refine D _ _ _ (u.get n) (u.get _) ?_;cases o:O.blt (key^p.getD n 0)^key^p.getD (n - 1) 0 with
  | true=>
   have Z:O.klt (KN O key p n)^KN O key p (n - 1):=o
   have r:∀T:Array Nat,(∀k,KN O key T k=KN O key p k)->c8 O key T (n+1):=by
    intro T W i j y hj;rw[W,W]
    by_cases z:j<n
    .exact x i j y z
    .have A:j=n:=by lk
     subst A
     by_cases B:i=j
     .subst B;exact ig _
     .exact k_ (ki Z)^x i (j - 1) (by lk)^by lk
   refine yes ?_;have U:n<=p.size:=by lk
   by_cases F:q > 0
   .rw[if_pos F]
    refine JF D f _ (n+1) 0 ((CZ _ _ _).trans C) (u.perm^CZ _ _ _) (by rw[kas_rev_size];exact Q) (by lk) (by lk) (r _^Bz U E) (by lk) (λi a b=>by congr 1;lk) λg m v H I J X K L M P=>h g m v H I (J.trans^kas_rev_size _ _) (by lk) K L M P
   .rw[if_neg F]
    exact JF D f _ (n+1) 0 C u Q (by lk) (by lk) (r _ λ_=>rfl) (by lk) (λi a b=>by congr 1;lk) λg m v H I J X K L M P=>h g m v H I J (by lk) K L M P
  | false=>
   refine no ?_;show cmp (p.getD (n - 1) 0) (p.getD n 0) (λd S=>(if d=q_ then KasT.ret (p,n,q)else kas_desc f p (n+1) (q+1)).kasWp cmp G S) s;refine D _ _ _ (u.get _) (u.get n) ?_;cases t:O.blt (key^p.getD (n - 1) 0)^key^p.getD n 0 with
   |true=>exact yes (h p n q C u rfl (Re _) (by lk) x R E)
   | false=>
    have w:KN O key p n=KN O key p (n - 1):=nH (O:=O) t o;refine no^JF D f p (n+1) (q+1) C u Q (by lk) (by lk) (λi j y hj=>?_) (by lk) (λi a b=>?_) λg m v H I J X K L M P=>h g m v H I J (by lk) K L M P
    .by_cases z:j<n
     .exact x i j y z
     .have A:j=n:=by lk
      subst A
      by_cases B:i=j
      .subst B;exact ig _
      .rw[w];exact x i (j - 1) (by lk)^by lk
    .rw[show n+1 - 1=n by lk]
     by_cases V:i=n
     .subst V;rfl
     .rw[w];exact E i (by lk)^by lk
def OA(e:Y3 O key N cmp s){n a:Nat}{G:Nat×Array Nat->Go->Prop}(f:p.Perm p0)(d:Bd N p)(r:a<=p.size)(g:1<=n)(t:n<=a)(k:c8 O key p n)
  (h:∀m b,b.Perm p0->Bd N b->b.size=p.size->1<=m->m<=a->Srt O key b m->G (m,b) s):(kas_tail3 n a p).kasWp cmp G s:=by
 unfold kas_tail3;rw[KasT.kasWp_bind];have c:n<=p.size:=by lk
 refine Ql e (d.perm^CZ _ _ _) _ n g (by lk) (λi j l u=>?_) λm v o q _=>h m _ ((CZ _ _ _).trans f) (d.perm^CZ _ _ _) (kas_rev_size _ _) (by lk) o q;rw[H_ c,H_ c,if_pos^by lk,if_pos^by lk];exact k _ _ (by lk)^by lk
def Ic(k:Y3 O key N cmp s){n c:Nat}{G:Nat×Array Nat->Go->Prop}(E:p.Perm p0)(F:Bd N p)(H:c<=p.size)(K:n+1<=c)(I:c8 O key p (n+1))
  (h:∀m d,d.Perm p0->Bd N d->d.size=p.size->1<=m->m<=c->Srt O key d m->G (m,d) s):(kas_descPart n c p).kasWp cmp G s:=by
 unfold kas_descPart;rw[KasT.kasWp_bind];refine JF (p0:=p0) k (c - (n+1)) p (n+1) 0 E F H (by lk) (by lk) I (by lk) (λi a b=>by grind) λd m l y z A L B C M D=>?_;have f:m<=d.size:=by lk
 show(if l > 0 then kas_tail3 m c^kas_rev d (m - (l+1)) m else kas_tail3 m c d).kasWp cmp G s
 by_cases g:l > 0
 .rw[if_pos g]
  refine OA k ((CZ _ _ _).trans y) (z.perm^CZ _ _ _) (by rw[kas_rev_size];lk) (by lk) B (λi j o J=>?_) λq e r t u v w x=>h q e r t (u.trans^(kas_rev_size _ _).trans A) v w x;rw[Bz f D,Bz f D];exact C i j o J
 .rw[if_neg g]
  exact OA k y z (by lk) (by lk) B C λq e r t u v w x=>h q e r t (u.trans A) v w x
def WM(y:Y3 O key N cmp s){nrem:Nat}{G:Nat×Array Nat->Go->Prop}(z:p.Perm p0)(e:Bd N p)(H:nrem<=p.size)(W:1<=nrem)
  (h:∀m o,o.Perm p0->Bd N o->o.size=p.size->1<=m->m<=nrem->Srt O key o m->G (m,o) s):(kas_count nrem p).kasWp cmp G s:=by
 unfold kas_count;rw[KasT.kasWp_bind];refine Ql (nrem:=nrem) y e (nrem - 1) 1 (Re _) (by lk) (λi j q I=>by have:i=j:=(by lk);subst this;exact ig _) λn r t b A=>?_
 by_cases f:n=nrem
 .rw[if_pos^by simpa using f]
  exact h n p z e rfl r t b
 .rw [if_neg^by simpa using f]
  have u:O.klt (KN O key p n)^KN O key p (n - 1):=A.resolve_left f
  by_cases v:n > 1
  .rw[if_pos v]
   show cmp (p.getD 0 0) (p.getD (n - 1) 0) (λc J=>(if c=q_ then KasT.ret (n,p)else kas_descPart n nrem^kas_rev p 0 n).kasWp cmp G J) s;refine y _ _ _ (e.get _) (e.get _) ?_;cases g:O.blt (key^p.getD 0 0)^key^p.getD (n - 1) 0 with
   |true=>exact yes (h n p z e rfl r t b)
   | false=>
    have d:O.kle (KN O key p (n - 1))^KN O key p 0:=g;have w:n<=p.size:=by lk
    have a:∀k,0<=k->k<n->KN O key p k=KN O key p (n - 1):=by
     intro k _ K;have L:=b 0 k (by lk) K;have M:=b k (n - 1) (by lk) (by lk);exact nH M^k_ d L
    refine no^Ic y ((CZ _ _ _).trans z) (e.perm^CZ _ _ _) (by rw[kas_rev_size];exact H) (by lk) (λi j q I=>?_) λP B Q R S T U V=>h P B Q R (S.trans^kas_rev_size _ _) T U V;rw[Bz w a,Bz w a]
    by_cases C:j<n
    .rw[a i (by lk)^by lk,a j (by lk) C];exact ig _
    .have D:j=n:=by lk
     subst D
     by_cases l:i=j
     .subst l;exact ig _
     .rw[a i (by lk)^by lk];exact ki u
  .rw[if_neg v]
   have x:n=1:=by lk
   subst x;refine Ic y z e H (by lk) (λi j q I=>?_) h
   by_cases l:i=j
   .subst l;exact ig _
   .have E:i=0:=by lk
    have F:j=1:=by lk
    subst E;subst F
    exact ki u
theorem Ju(m:Y3 O key N cmp s)(g:Bd N p){k:Nat}(j:Srt O key p k){G:Nat->Go->Prop}
  (h:∀l,l<=k->(∀i,i<l->O.kle (KN O key p i)^KN O key p k)->(∀i,l<=i->i<k->O.klt (KN O key p k)^KN O key p i)->G l s):∀(f l r:Nat),l<=r->r<=k->r - l<=f->
  (∀i,i<l->O.kle (KN O key p i)^KN O key p k)->(∀i,r<=i->i<k->O.klt (KN O key p k)^KN O key p i)->(kas_place p k f l r).kasWp cmp G s
 |0,l,r,n,d,t,b,c=>by
  have:l=r:=by lk
  subst this;exact h l d b c
 | f+1,l,r,n,d,t,b,c=>by
  unfold kas_place
  by_cases e:l≥r
  .rw[if_pos e]
   have:l=r:=by lk
   subst this;exact h l d b c
  .rw[if_neg e]
   refine m _ _ _ (g.get _) (g.get _) ?_;cases a:O.blt (key^p.getD k 0)^key^p.getD ((l+r) / 2) 0 with
   |true=>
    have o:O.klt (KN O key p k)^KN O key p ((l+r) / 2):=a;exact yes^Ju m g j h f l ((l+r) / 2) (by lk) (by lk) (by lk) b λi q u=>KeyOrd.klt_of_klt_of_kle o^j _ _ q u
   |false=>
    have o:O.kle (KN O key p ((l+r) / 2))^KN O key p k:=a;exact no^Ju m g j h f ((l+r) / 2+1) r (by lk) (by lk) (by lk) (λi q=>k_ (j i ((l+r) / 2) (by lk)^by lk) o) c
theorem EW(y:Y3 O key N cmp s){n:Nat}{G:Array Nat->Go->Prop}(h:∀r,r.Perm p0->Srt O key r n->G r s):∀(f:Nat) (p:Array Nat) (k:Nat),p.Perm p0->Bd N p->n<=p.size->k+f=n->Srt O key p k->(kas_bin f p k).kasWp cmp G s
 |0,p,k,t,u,z,e,d=>h p t^by rw[←e];exact d
 | f+1,p,k,t,u,z,e,d=>by
  rw[show kas_bin (f+1) p k=(kas_place p k k 0 k).bind λl=>kas_bin f (bubble p k (k - l)) (k+1)from rfl,KasT.kasWp_bind];refine Ju y u d (λl A v w=>?_) k 0 k (f8 _) (Re _) (by lk) (λi B=>by lk) λi a b=>by lk
  have g:k<p.size:=by lk
  refine EW y h f _ (k+1) ((bubble_perm _ _ _).trans t) (u.perm^bubble_perm _ _ _) (by rw[bubble_size];exact z) (by lk) λi j x C=>?_;rw[MR g^by lk,MR g^by lk,show k - (k - l)=l by lk]
  by_cases m:i=l
  .rw[if_pos m]
   by_cases c:j=l
   .rw[if_pos c];exact ig _
   .rw[if_neg c,if_pos^by lk]
    exact ki^w (j - 1) (by lk)^by lk
  .rw [if_neg m]
   by_cases o:l<i/\i<=k
   .rw[if_pos o,if_neg^by lk,if_pos^by lk]
    exact d (i - 1) (j - 1) (by lk)^by lk
   .rw[if_neg o]
    by_cases c:j=l
    .rw[if_pos c];exact v i^by lk
    .rw[if_neg c]
     by_cases q:l<j/\j<=k
     .rw[if_pos q]
      exact d i (j - 1) (by lk)^by lk
     .rw[if_neg q]
      exact d i j x^by lk
def sort_ok{n:Nat}(b:1<=n)(c:Y3 O key n cmp s){G:Array Nat->Go->Prop}(h:∀p,p.Perm^gg^gi n->Srt O key p n->G p s):(kas_sort n).kasWp cmp G s:=by
 unfold kas_sort;rw[KasT.kasWp_bind];have f:Bd n^gg^gi n:=#[b,λx k=>by grind];have g:(gg^gi n).size=n:=by simp
 refine WM c (mn _) f (by lk) b λm d e i l o q j=>?_
 by_cases a:m<n
 .rw[if_pos a,show max m 1=m by lk]
  exact EW c h _ d m e i (by lk) (by lk) j
 .rw[if_neg a]
  exact h d e^by grind
end
end So
namespace L2
open PySem.W
def Zt:Key->Key->Bool
 |.inl i,.inl j=>decide (i<j)
 |.inr x,.inr y=>decide (x.cps.toList<y.cps.toList)
 |.inl _,.inr _=>q_
 |.inr _,.inl _=>r_
def A9:s_ Key->s_ Key->Bool
 |[],[]=>r_
 |[],_::_=>q_
 |_::_,[]=>r_
 |x::a,y::b=>if x=y then A9 a b else Zt x y
theorem QT:∀x:Key,Zt x x=r_
 |.inl i=>decide_eq_false^Int.lt_irrefl i
 |.inr x=>decide_eq_false^je _
theorem TB:∀x y z:Key,Zt x y=q_->Zt y z=q_->Zt x z=q_
 |.inl i,.inl j,.inl k,a,b=>decide_eq_true^Int.lt_trans (of_decide_eq_true a)^of_decide_eq_true b
 |.inr i,.inr j,.inr k,a,b=>decide_eq_true^List.lt_trans (of_decide_eq_true a)^of_decide_eq_true b
 |.inl i,.inl j,.inr k,_,_=>rfl
 |.inl i,.inr j,.inr k,_,_=>rfl
 |.inl i,.inr j,.inl k,_,h=>by cases h
 |.inr i,.inl j,_,h,_=>by cases h
 |.inr i,.inr j,.inl k,_,h=>by cases h
theorem TC:∀x y:Key,Zt x y=r_->Zt y x=r_->x=y
 |.inl i,.inl j,c,d=>congrArg _^by have a:=of_decide_eq_false c;have b:=of_decide_eq_false d;lk
 |.inr x,.inr y,c,d=>by
  have e:=List.le_antisymm (of_decide_eq_false d)^of_decide_eq_false c;let#[u]:=x
  simp_all
 |.inl i,.inr j,h,_=>by cases h
 |.inr i,.inl j,_,h=>by cases h
theorem CS:∀x:s_ Key,A9 x x=r_
 |[]=>rfl
 |x::a=>by unfold A9;rw[if_pos rfl];exact CS a
theorem B_:∀x y z:s_ Key,A9 x y=q_->A9 y z=q_->A9 x z=q_
 |[],[],_,h,_=>by cases h
 |[],_::_,[],_,h=>by cases h
 |[],_::_,_::_,_,_=>rfl
 |_::_,[],_,h,_=>by cases h
 |_::_,_::_,[],_,h=>by cases h
 | x::f,y::g,z::i,a,b=>by
  unfold A9 at a b ⊢
  by_cases d:x=y
  .subst d
   rw[if_pos rfl]at a
   by_cases c:x=z
   .subst c
    rw[if_pos rfl]at b ⊢;exact B_ f g i a b
   grind
  .rw[if_neg d]at a
   by_cases c:y=z
   .grind
   .rw[if_neg c]at b
    have e:=TB x y z a b
    by_cases j:x=z
    .subst j
     rw[QT]at e;cases e
    grind
theorem Bv:∀x y:s_ Key,A9 x y=r_->A9 y x=r_->x=y
 |[],[],_,_=>rfl
 |[],_::_,h,_=>by cases h
 |_::_,[],_,h=>by cases h
 | x::c,y::d,a,b=>by
  unfold A9 at a b
  by_cases e:x=y
  .subst e
   rw[if_pos rfl]at a b;rw[Bv c d a b]
  .rw[if_neg e]at a
   rw[if_neg λz=>e z.symm]at b;exact absurd (TC x y a b) e
def Ss:KeyOrd:=#[s_ Key,A9,CS,B_,λa b c h=>by
 cases e:A9 a b with
 |true=>exact .inl rfl
 |false=>
  cases d:A9 b a with
  |true=>exact .inr^B_ b a c d h
  |false=>rw[←Bv a b e d];exact .inr h,Bv]
theorem Gx:∀x y:s_ Key,CN x y=q_->Fn x y=A9 x y
 |[],[],_=>rfl
 |[],_::_,_=>rfl
 |_::_,[],_=>rfl
 | x::b,y::c,h=>by
  have a:(Lk x y&&CN b c)=q_:=h;rw[gP]at a;unfold Fn A9
  by_cases e:x=y
  .rw[if_pos e,if_pos e];exact Gx b c a.2
  .rw[if_neg e,if_neg e]
   cases x with
   |inl i=>cases y with
    |inl j=>rfl
    |inr z=>cases a.1
   |inr i=>cases y with
    |inl j=>cases a.1
    |inr z=>rfl
section
variable {prog:Program}{w:World}{A:Around}{E:Value->Shared->Prop}{s:Shared}
theorem Vc{b:Bool}{Q:Bool->Go->Prop}{h j:Nat}:∀(a c:s_ Key) (k l:s_ Ev) (i:Nat),Vals (a.map kOf) k->Vals (c.map kOf) l->CN a c=q_->a.length+j=c.length+h->Q (Fn a c) s->
  KatLex prog w A b (decide (h<j)) Q (k.zip l) i s
 |[],[],k,l,i,o,p,_,g,q=>by
  cases o;cases p;refine kat_nil ?_;rw[show decide (h<j)=r_ from decide_eq_false^by simp only[hX]at g;lk];exact q
 |[],m::c,k,l,i,o,p,_,g,q=>by
  cases o;rw[List.zip_nil_left];refine kat_nil ?_;rw[show decide (h<j)=q_ from decide_eq_true^by simp only[hX,gB]at g;lk];exact q
 |n::a,[],k,l,i,o,p,_,g,q=>by
  cases p;rw[List.zip_nil_right];refine kat_nil ?_;rw[show decide (h<j)=r_ from decide_eq_false^by simp only[hX,gB]at g;lk];exact q
 | n::a,m::c,k,l,i,o,p,F,g,q=>by
  have d:(Lk n m&&CN a c)=q_:=F;rw[gP]at d;have f:Q (if n=m then Fn a c else dM n m) s:=q;cases o with
  | @cons _ u _ r t G=>
   cases p with
   | @cons _ v _ B C H=>
    rw[kW];have D:n=m->KatLex prog w A b (decide (h<j)) Q (r.zip B) (i+1) s:=λe=>Vc a c r B (i+1) G H d.2 (by simp only[gB]at g;lk) (by rw[if_pos e]at f;exact f);cases n with
    | inl x=>
     cases m with
     |inr y=>cases d.1
     | inl y=>
      let#[I,rfl]:=t;let#[J,rfl]:=C;refine kat_cons^wpAny_eqBool_int ?_
      by_cases e:x=y
      .rw[show(x==y)=q_ by simpa using e]
       exact kat_yes^D^by rw[e]
      .rw[show(x==y)=r_ by simpa using e]
       refine kat_no ?_;rw[if_neg λz=>e^Sum.inl.inj z]at f;cases K:(b&&i==0)with
       |true=>exact oneLt_int f
       |false=>exact kat_one _ _^mr (show PySem.W.BoolBack Q (.bool (decide (x<y))) s from f)
    | inr x=>
     cases m with
     |inl y=>cases d.1
     | inr y=>
      let#[I,rfl]:=t;let#[J,rfl]:=C;refine kat_cons^wpAny_eqBool_str ?_
      by_cases e:x=y
      .rw[show decide (x=y)=q_ by simpa using e]
       exact kat_yes^D^by rw[e]
      .rw[show decide (x=y)=r_ by simpa using e]
       refine kat_no ?_;rw[if_neg λz=>e^jA z]at f;cases K:(b&&i==0)with
       |true=>exact oneLt_str f
       |false=>exact kat_one _ _^PySem.P.lt_str (show PySem.W.BoolBack Q (.bool (decide (x.cps.toList<y.cps.toList))) s from f)
structure SM (h:gI) (ks:List Ev) (keys:List^List Key):Prop where
 at_:∀(i:Nat) (ns:List Key),keys[i]?=P3 ns->∃a o its n,ks[i]?=P3^.ref a/\h.get? a=P3 o/\o.cls=.type "tuple"/\o.data=.seq its n/\Vals (ns.map kOf) its.toList
 len:ks.length=keys.length
 same:∀x∈keys,∀y∈keys,CN x y=q_
 ne:∀x∈keys,x≠[]
def dG:Key->String
 |.inl _=>"int"
 |.inr _=>"str"
theorem firsts{h:gI}:∀(g:s_ Ev) (b:s_^s_ Key) (T:String),g.length=b.length->(∀(i:Nat) (u:s_ Key),b[i]?=P3 u->∃a o c n,g[i]?=P3^.ref a/\h.get? a=P3 o/\o.cls=.type "tuple"/\o.data=.seq c n/\Vals (u.map kOf) c.toList)->
  (∀x∈b,∃k r,x=k::r/\dG k=T)->∃j:s_ Ev,KatTups h g j/\j.length=b.length/\∀v∈j,typeOf v=pure^.type T
 |[],[],T,_,_,_=>#[[],trivial,rfl,λv l=>by cases l]
 |[],_::_,T,m,_,_=>by cases m
 |_::_,[],T,m,_,_=>by cases m
 | k::g,x::b,T,m,z,B=>by
  let#[j,F,G,H]:=firsts g b T (by simpa using m) (λi u e=>by
   let#[a,o,c,n,p,r]:=z (i+1) u (by simpa using e);exact#[a,o,c,n,by simpa using p,r]) λy I=>B y^TM _ I
  let#[a,o,c,n,p,J,K,L,q]:=z 0 x rfl;have p:k=.ref a:=by simpa using p
  subst p;let#[k,r,rfl,C]:=B x Op;rw[g9]at q;cases d:c.toList with
  |nil=>rw[d]at q;cases q
  | cons f M=>
   rw[d]at q;cases q with
   | cons D N=>
    refine#[f::j,KatTups.cons J K L (by rw[←Array.getElem?_toList,d];rfl) F,by rw[gB,gB,G],λv l=>?_]
    rcases T0.mp l with rfl|l
    .cases k with
     |inl i=>let#[t,rfl]:=D;subst C;rfl
     |inr i=>let#[t,rfl]:=D;subst C;rfl
    .exact H v l
def Lh{c:s_ Ev}{keys:s_^s_ Key}(K:SM s.heap c keys)(h2:2<=c.length){G:Array Nat->Go->Prop}(h:∀p,p.Perm^gg^gi c.length->So.Srt Ss (λi=>keys.getD i []) p c.length->G p s):
  wpAny (model prog w) A (keyKind' c.toArray) (λN P=>(kas_sort c.length).kasWp (kas_ask prog w A N c) G P) (λ_ _=>False) s:=by
 obtain⟨f,I,Q⟩:∃f I,keys=f::I:=by
  cases e:keys with
  |nil=>have:=K.len;rw[e]at this;simp only[hX]at this;lk
  |cons x r=>exact#[x,r,rfl]
 have J:f∈keys:=by rw[Q];exact Op
 obtain⟨m,R,S⟩:∃k r,f=k::r:=by
  cases e:f with
  |nil=>exact absurd e^K.ne f J
  |cons k r=>exact#[k,r,rfl]
 have y:∀x∈keys,∃k r,x=k::r/\dG k=dG m:=λx L=>by
  cases e:x with
  |nil=>exact absurd e^K.ne x L
  | cons k r=>
   exists k,r,rfl;have b:=K.same x L f J;rw[e,S]at b;have b:(Lk k m&&CN r R)=q_:=b;rw[gP]at b;cases k with
   |inl i=>cases m with
    |inl j=>rfl
    |inr j=>cases b.1
   |inr i=>cases m with
    |inl j=>cases b.1
    |inr j=>rfl
 let#[fs,z,B,T]:=firsts c keys (dG m) K.len K.at_ y;refine kat_kind z (by rw[B,←K.len];lk) (λv U=>by rw[T v U];exact Looks.now) (by simp) ?_;refine So.sort_ok (O:=Ss) (key:=λi=>keys.getD i []) (by lk) (λi j C V W X=>?_) h;have g:i<keys.length:=by rw[←K.len];exact V
 have l:j<keys.length:=by rw[←K.len];exact W
 let#[a,o,q,n,Y,Z,e3,e4,M]:=K.at_ i keys[i] (On g);let#[a',o',d,n',D,F,a0,H,t]:=K.at_ j keys[j] (On l);unfold kas_ask;rw[show c.getD i gh=.ref a by rw[gp,Y];rfl,show c.getD j gh=.ref a' by rw[gp,D];rfl];have b:=K.same _ (gn g) _^gn l;refine kat_lt Z e4 F H (Vc keys[i] keys[j] _ _ 0 M t b ?_ ?_)
 .have l1:=M.length
  have l2:=t.length;have l3:(keys[i].map kOf).length=keys[i].length:=No ..;have l4:(keys[j].map kOf).length=keys[j].length:=No ..;have l5:q.toList.length=q.size:=i5;have l6:d.toList.length=d.size:=i5;lk
 .rw[Gx _ _ b]
  have z:keys.getD i []=keys[i]:=by rw[gp,On g];rfl
  have B:keys.getD j []=keys[j]:=by rw[gp,On l];rfl
  have u:C (A9 (keys.getD i [])^keys.getD j []) s:=X;rw[z,B]at u;exact u
def Ga{v:Ev}{c:s_ (Str×Ev)}{Q:Ev->Go->Prop}(e:argsOk "sorted" #[[v],c])(f:∀x,argsOk "list.sort" #[[.ref x],c])
  (k:wpAny (model prog w) A.in1 (collect v) (λg a=>g.length<=sizeLine/\wpAny (model prog w) A.in1.in1 (ir.«list.sort» #[[.ref a.heap.objs.size],c]) (λb i=>b=.done^.ret .none/\Q (.ref a.heap.objs.size) i) E {a with heap:=a.heap.push^seqObj "list" g.toArray 0}) E s):
  wpAny (model prog w) A (call (.builtin "sorted") [v] c) Q E s:=call_function_entry_kw kind_sorted plain_sorted entry_sorted e^Ch^Rs^Ch^gq k (λg a h=>Ch^mG (Ch^gw^wpAny_call_entry_kw PyProof.Rows.slot_list_sort #[_,UF _ rfl,rfl] PyProof.Rows.entry_list_sort (gq h.2 (λb i j=>#[_,j.1,Rs #[_,rfl,j.2]]) λ_ _ x=>x)^f _) h.1) λ_ _ x=>x
def Dh(h:gI)(D:Db)(a:s_ Ev):gI:=((h.update D^hV λ_=>(#[]:Array Ev)).push^seqObj "tuple" a.toArray 0).push^seqObj "list" #[] 0
def HR{h:gI}{D:Db}{a:s_ Ev}{b:Db}{o:Obj}(c:b≠D)(e:h.get? b=P3 o):(Dh h D a).get? b=P3 o:=
 FM _ (FM _^(gF _ _^g0 c).trans e)
def JW{h:gI}{D:Db}{c:s_ Ev}{n:Nat}(d:h.get? D=P3^seqObj "list" c.toArray n):∃a,(Dh h D c).get? D=P3^seqObj "list" #[] a/\(h.update D^hV λ_=>(#[]:Array Ev)).get? D=P3^seqObj "list" #[] a:=by
 obtain⟨a,b⟩:∃a,(h.update D _).get? D=P3^seqObj _ _ a:=#[_,jw d _];exact#[a,FM _^FM _ b,b]
def Of{D:Db}{a:s_ Ev}{n:Nat}{P:PySem.Fin->Go->Prop}{G:Array Nat->Prop}(r:s.heap.get? D=P3^seqObj "list" a.toArray n)(t:a.length<64)
  (u:2<=a.length->wpAny (model prog w) A (keyKind' a.toArray) (λJ k=>(kas_sort a.length).kasWp (kas_ask prog w A J a) (λp v=>v={s with heap:=Dh s.heap D a}/\G p) k) (λ_ _=>False) {s with heap:=Dh s.heap D a})
  (L:a.length<2->G^gg^gi a.length) (l:∀(p:Array Nat) (y:gI) (c:Nat),p.size=a.length->G p->(∀b o,b≠D->s.heap.get? b=P3 o->y.get? b=P3 o)->y.get? D=P3^seqObj "list" (gg^p.toList.map λi=>a.getD i gh) c->P (.done^.ret .none) {s with heap:=y}):
  wpAny (model prog w) A (ir.«list.sort» #[[.ref D],[]]) P E s:=by
 let#[V,d,z]:=JW r
 have m:∀(p:Array Nat),p.size=a.length->G p->P (.done^.ret .none) {s with heap:=(Dh s.heap D a).update D^hV λ_=>gg^p.toList.map λi=>a.getD i gh}:=λp q B=>by
  obtain⟨C,F⟩:∃C,((Dh s.heap D a).update D^hV λ_=>gg^p.toList.map λi=>a.getD i gh).get? D=P3^seqObj "list" (gg^p.toList.map λi=>a.getD i gh) C:=#[_,jw d λ_=>gg^p.toList.map λi=>a.getD i gh];exact l p _ C q B (λb o K e=>(gF _ _^g0 K).trans^HR K e) F
 rw[list_sort_plain];refine Ch (lN r rfl ?_);refine Ch (jW r rfl ?_ (by rw[f_,gz];lk) (f8 _));refine Ch (lm z rfl ?_);refine Ch (wpAny_newTuple ?_^by show a.length<=_;rw[gz];lk);refine Ch^mG ?_^f8 _;refine gw ?_;show wpAny (model prog w) A _ P E {s with heap:=Dh s.heap D a}
 dsimp only
 by_cases H:a.length<2
 .have f:a.toArray.size<2:=by rw[f_];exact H
  rw[if_pos f,if_pos f];refine Ch^Rs ?_;rw[StateT.run_pure];refine Ch^Rs ?_
  dsimp only
  refine Ch (lm d rfl ?_);have h:(gg^gi a.length).size=a.length:=by simp
  have g:(arrOf^SortSt.mk' general' (a.toArray.zip a.toArray) #[] 7 p_).map (·.2)=gg ((gg^gi a.length).toList.map λi=>a.getD i gh):=by
   refine kat_snds rfl ?_;have e:=kas_range^a.toArray.zip a.toArray;rw[show(a.toArray.zip a.toArray).size=a.length by simp]at e;exact e.symm
  rw[g];refine Ch (jW d rfl ?_ (f8 _) (by rw[f_,No,i5,h,gz];lk));simp only[bne_self_eq_false,iA,if_false];exact Rs^m _ h^L H
 .have f:¬a.toArray.size<2:=by rw[f_];exact H
  rw[if_neg f,if_neg f];refine Ch^gq (u^by lk) (λJ W u=>?_) λ_ _ x=>x.elim
  refine Ch (gq (kat_run (Q:=λj k=>∃p:Array Nat,p.size=a.length/\arrOf j=p.map^kas_item^a.toArray.zip a.toArray/\failedOf j=p_/\k={s with heap:=Dh s.heap D a}/\G p)
   rfl (by lk) t (λN j k O R S T=>#[N,O,R,S,T]) u) ?_ λ_ _ e=>e)
  rintro⟨⟨⟩,j⟩ k ⟨p,q,I,U,rfl,B⟩
  dsimp only
  have g:=kat_snds rfl I;have h:(gg^p.toList.map λi=>a.getD i gh).size=a.length:=by rw[f_,No,i5,q]
  rw[g];refine Ch (lm d rfl ?_);refine Ch (jW d rfl ?_ (f8 _) (gG (mY h)^by rw[gz];lk));rw[U];simp only[bne_self_eq_false,iA,if_false];exact Rs^m p q B
def TD{D:Db}{f:Ev}{a:s_ Ev}{n:Nat}{P:PySem.Fin->Go->Prop}(U:s.heap.get? D=P3^seqObj "list" a.toArray n)(Y:a.length<64)(J:s_ Ev->Go->Prop)(h:Db)(M:h=s.heap.objs.size+1)
  (h0:∀r,(Dh s.heap D a).get? D=P3^seqObj "list" #[] r->J [] {s with heap:=Dh s.heap D a})
  (z:∀(d:s_ Ev) (g:Go) (e:Nat) (v:Ev),J d g->g.heap.get? h=P3^seqObj "list" d.toArray e->a[d.length]?=P3 v->wpAny (model prog w) A (call f [v]) (λk l=>l.heap.get? h=P3^seqObj "list" d.toArray e/\J (d++[k]) {l with heap:=l.heap.update h (hV (·.push k))}) (λ_ _=>False) g)
  (N:∀(r:Nat),(Dh s.heap D a).get? D=P3^seqObj "list" #[] r->∀(d:s_ Ev) (g:Go),J d g->d.length=a.length->g.heap.get? D=P3^seqObj "list" #[] r/\∃G:Array Nat->Prop,
   (2<=a.length->wpAny (model prog w) A (keyKind' d.toArray) (λκ O=>(kas_sort a.length).kasWp (kas_ask prog w A κ d) (λp l=>l=g/\G p) O) (λ_ _=>False) g)/\(a.length<2->G^gg^gi a.length) /\
   ∀(p:Array Nat) (V:gI) (c:Nat),p.size=a.length->G p->(∀b o,b≠D->b≠h->g.heap.get? b=P3 o->V.get? b=P3 o)->V.get? D=P3^seqObj "list" (gg^p.toList.map λi=>a.getD i gh) c->(∃o,V.get? h=P3 o)->P (.done^.ret .none) {g with heap:=V}):
  wpAny (model prog w) A (ksk_tree D f r_) P E s:=by
 let#[r,R,Z]:=JW U;have u:((s.heap.update D^hV λ_=>(#[]:Array Ev)).push^seqObj "tuple" a.toArray 0).objs.size=h:=by rw[size_push',Heap.size_update,M]
 have hD:D<s.heap.objs.size:=Uf U;have S:D≠h:=by rw[M];exact gO^iy hD
 have a0:(Dh s.heap D a).get? h=P3^seqObj "list" #[] 0:=by rw[←u];exact UF _ rfl
 unfold ksk_tree;refine Ch (lN U rfl ?_);refine Ch (jW U rfl ?_ (by rw[f_,gz];lk) (f8 _));refine Ch (lm Z rfl ?_);refine Ch (wpAny_newTuple ?_^by show a.length<=_;rw[gz];lk);refine Ch^mG ?_^f8 _;refine gw ?_;show wpAny (model prog w) A (ksk_rest D f r_ a.toArray r^.ref ((s.heap.update D^hV λ_=>(#[]:Array Ev)).push^seqObj "tuple" a.toArray 0).objs.size) P E {s with heap:=Dh s.heap D a};rw[u];unfold ksk_rest;refine Ch^kF ?_
 first
  |rw[List.forIn_toArray]
  |(rw[←Array.forIn_toList];simp only[List.toList_toArray])
  |rw[←Array.forIn_toList]
 refine Ch^ksk_fold (I:=λi g=>∃d e,jy d=i/\J d g/\g.heap.get? h=P3^seqObj "list" d.toArray e) a 0 _ #[[],0,rfl,h0 r R,a0] (λj x g hx hI=>?_) λg hI=>?_
 .let#[d,e,t,hJ,C]:=hI
  have hj:j<a.length:=(gC.mp hx).1;have t:d.length=j:=by lk
  refine Ch^jK^gq (z d g e x hJ C^by rw[t];exact hx) (λk l F=>?_) λ_ _ hF=>hF.elim;have ea:(gg d).push k=gg (d++[k]):=by simp
  obtain⟨H,K⟩:∃H,(l.heap.update h (hV (·.push k))).get? h=P3^seqObj "list" (gg (d++[k])) H:=#[_,by rw[←ea];exact jw F.1 (·.push k)]
  try dsimp only
  refine Ch (jW F.1 rfl ?_ (by rw[f_,gz];lk) (gG (mY (Array.size_push ..))^by rw[f_,gz];lk));exact Rs #[rfl,d++[k],H,by rw[XV,gD];lk,F.2,K]
 .let#[d,e,t,hJ,C]:=hI
  have t:d.length=a.length:=by lk
  let#[a5,G,g2,g1,g3]:=N r R d g hJ t
  try dsimp only
  refine Ch (lN C rfl ?_)
  have y:∀(W:SortSt) (p:Array Nat),p.size=a.length->G p->(arrOf W).map (·.2)=gg (p.toList.map λi=>a.getD i gh)->failedOf W=p_->wpAny (model prog w) A (ksk_tail D r_ r (.ref h) W) P E g:=λW p X hg T hf=>by
   have a6:(gg^p.toList.map λi=>a.getD i gh).size=a.length:=by rw[f_,No,i5,X]
   obtain⟨ck,a7⟩:∃ck,(g.heap.update h^hV λ_=>(#[]:Array Ev)).get? h=P3^seqObj "list" #[] ck:=#[_,jw C λ_=>#[]];have L:(g.heap.update h^hV λ_=>(#[]:Array Ev)).get? D=P3^seqObj "list" #[] r:=(gF _ _^g0 S).trans a5;obtain⟨H,K⟩:∃H,((g.heap.update h^hV λ_=>(#[]:Array Ev)).update D^hV λ_=>gg^p.toList.map λi=>a.getD i gh).get? D=P3^seqObj "list" (gg^p.toList.map λi=>a.getD i gh) H:=#[_,jw L λ_=>gg^p.toList.map λi=>a.getD i gh];unfold ksk_tail
   try dsimp only
   rw[T];refine Ch (jW C rfl ?_ (by rw[f_,gz];lk) (f8 _));refine Ch^jz ?_;refine Ch (lm L rfl ?_);refine Ch (jW L rfl ?_ (f8 _) (gG (mY a6)^by rw[gz];lk));rw[hf];simp only[bne_self_eq_false,iA,if_false];refine Rs^g3 p _ H X hg (λb o a8 a9 e=>(gF _ _^g0 a8).trans^(gF _ _^g0 a9).trans e) K #[_,(gF _ _ S).trans a7]
  unfold ksk_end
  try dsimp only
  simp only[iA,if_false]
  by_cases h2:a.length<2
  .have m:a.toArray.size<2:=by rw[f_];exact h2
   rw[if_pos m,if_pos m];refine Ch^Rs ?_;rw[StateT.run_pure];refine Ch^Rs ?_
   try dsimp only
   refine y _ (gg^gi a.length) (by simp) (g1 h2) (kat_snds t ?_) rfl;have er:=kas_range^d.toArray.zip a.toArray;rw[show(d.toArray.zip a.toArray).size=a.length by simp[t]]at er;exact er.symm
  .have m:¬a.toArray.size<2:=by rw[f_];exact h2
   rw[if_neg m,if_neg m];refine Ch^gq (g2^by lk) (λκ s0 C=>?_) λ_ _ x=>x.elim
   refine Ch (gq (kat_run (Q:=λq O=>∃p:Array Nat,p.size=a.length/\arrOf q=p.map^kas_item^d.toArray.zip a.toArray/\failedOf q=p_/\O=g/\G p)
    t (by lk) Y (λp' q O a1 a2 a3 a4=>#[p',a1,a2,a3,a4]) C) ?_ λ_ _ e=>e)
   rintro⟨⟨⟩,q⟩ O ⟨p,X,b0,hf,rfl,hg⟩
   try dsimp only
   exact y q p X hg (kat_snds t b0) hf
end
section
variable {X:Cx}{zH:s_ (Addr×Obj)}{Z:L2.St}{H:Hp}{s:Shared}{h':Heap}
structure Ts (X:Cx) (zH:List (Db×Obj)) (D:Db):Prop where
 new:X.s₀.heap.objs.size<=D
 loc:D≠X.env.locals
 cell:∀x c,X.env.cells.lookup x=P3 c->c≠D
 pin:∀p∈X.pn++zH,p.1≠D
 fs:D∉X.fs
def Inv.mine(I:Inv X zH Z H s){D:Db}(h:s.heap.objs.size<=D):Ts X zH D:=by
 refine#[gG I.sz h,λz=>?_,λx c e z=>?_,λp a z=>?_,I.nofs h]
 .have:=I.lt
  rw[←z]at this;exact absurd this^ke.mpr h
 .let#[v,o,b,_]:=I.cell x c e
  have:=Uf b
  rw[z]at this;exact absurd this^ke.mpr h
 .let#[e,_]:=I.pin p a
  have:=Uf e
  rw[z]at this;exact absurd this^ke.mpr h
structure KeysAt (K:Frag) (H:Hp) (vs:List V) (keys:List^List Key):Prop where
 len:vs.length=keys.length
 at_:∀(i:Nat) (ns:List Key),keys[i]?=P3 ns->∃a,vs[i]?=P3^.ref a/\SqT K H a (ns.map kOf)
 same:∀x∈keys,∀y∈keys,CN x y=q_
 ne:∀x∈keys,x≠[]
def MP(a:s_^s_ Key)(b:s_ Nat):Prop:=b.Perm^gi a.length/\∀i j,i<=j->j<a.length->A9 (a.getD (b.getD j 0) [])^a.getD (b.getD i 0) []=r_
def KeysAt.tups{d:s_ V}{f:s_ Ev}{c:s_^s_ Key}(I:Inv X zH Z H s)(r:Vals d f)(k:KeysAt X.K H d c){h':gI}(g:∀b o,s.heap.get? b=P3 o->h'.get? b=P3 o):SM h' f c:=by
 refine#[λi h e=>?_,r.length.symm.trans k.len,k.same,k.ne];let#[a,j,l]:=k.at_ i h e;let#[u,m,p]:=r.get j;cases p;let#[q,x,#[o,t,v,n,w],_]:=I.tuple l;exact#[a,o,_,n,m,g a o t,v,w,by grind]
theorem HQ:∀{a:s_ V}{b:s_ Ev},Vals a b->∀i:Nat,RelV (a.getD i .non)^b.getD i gh
 |_,_,.nil,i=>by simp[RelV]
 |_,_,.cons r t,0=>by simpa using r
 |_,_,.cons r t,i+1=>by simpa using HQ t i
theorem JO{f:Nat->V}{g:Nat->Ev}(h:∀i,RelV (f i)^g i):∀a:s_ Nat,Vals (a.map f)^a.map g
 |[]=>.nil
 |i::a=>.cons (h i)^JO h a
def getD_list(p:Array Nat)(i:Nat):p.getD i 0=p.toList.getD i 0:=by simp
def VO{a:s_^s_ Key}{n:Nat}{p:Array Nat}(c:a.length=n)(d:p.Perm^gg^gi n)(e:So.Srt Ss (λi=>a.getD i []) p n):MP a p.toList:=by
 subst c;refine#[Array.perm_iff_toList_perm.mp d,λi j b f=>?_];have h:=e i j b f;unfold So.KN at h;rw[getD_list,getD_list]at h;exact h
def Sa{z:gc}{A:Ev->Go->Prop}{d:s_ V}{f:s_ Ev}{keys:s_^s_ Key}{Q:VK}(I:Inv X zH Z H s)(r:Vals d f)(B:d.length<64)(k:KeysAt X.K H d keys)
  (q:∀(v:s_ Nat) (l:Db),MP keys v->H l=p_->Q (.ref l)^A5 H l^.lst^v.map λi=>d.getD i .non):
  wpAny (model X.prog X.w) z (ir.«list.sort» #[[.ref s.heap.objs.size],[]]) (λm C=>m=.done^.ret .none/\EP X zH Z Q (.ref s.heap.objs.size) C) A {s with heap:=s.heap.push^seqObj "list" f.toArray 0}:=by
 have x:=r.length;have t:keys.length=f.length:=k.len.symm.trans x;refine Of (G:=λp=>p.Perm _/\So.Srt Ss (λi=>keys.getD i []) p f.length) (n:=0) (UF _ rfl) (by lk) (λD=>?_) (λL=>#[mn _,λi j E M=>?_]) λp h' c N y g F=>#[rfl,?_]
 .refine Lh (keys:=keys) (k.tups I r λb o e=>?_) D λp a b=>#[rfl,a,b]
  exact HR (gO^Uf e)^FM _ e
 .have:i=j:=by lk
  subst this;exact ig _
 .have J:H s.heap.objs.size=p_:=I.fresh
  have u:(p.toList.map λi=>d.getD i .non).length=f.length:=by grind
  refine#[.ref s.heap.objs.size,A5 H s.heap.objs.size^.lst _,I.laid (t':=s.toks) (λb o e=>g b o (gO^Uf e)^FM _ e) (Re _) #[by rw[u,←x,gz];lk,_,c,JO (HQ r) p.toList,F],rfl,q _ _ (VO t y.1 y.2) J]
def O0{c:gN}{w:gY}{A:gc}{E:Ev->Go->Prop}{s:Go}{l:Db}{b:s_ Ev}{Q:s_ Ev->Go->Prop}(e:kc s.heap l b.toArray)
  (h:Q b {s with heap:=(s.heap.push^seqObj "list" #[] 0).update s.heap.objs.size (hV (·++b.toArray))}) (g:b.length<=sizeLine):
  wpAny (model c w) A (collect^.ref l) Q E s:=by
 let#[o,i,j,n,k]:=id e;unfold collect;refine Ch^wpAny_runValue^iB entry_proto_collect' ?_;show wpAny _ _ (do again (.builtin "list.__iadd__" #[[←newList [],.ref l],[]])) _ _ s;refine Ch^mG^Rs #[jv _ (by decide +kernel),iB entry_list_iadd' ?_];show wpAny _ _ (iT (.ref s.heap.objs.size) (.ref l)^.ref s.heap.objs.size) _ _ {s with heap:=s.heap.push^seqObj "list" #[] 0};unfold iT;have d:(s.heap.push^seqObj "list" #[] 0).get? l=P3 o:=FM _ i;refine Ch^jQ (T:="tuple") #[o,d,j] ?_;have m:(jp "tuple"==jp "tuple")=q_:=by rfl
 rw[if_pos^by rw[m];simp];refine Ch^lN d k ?_;refine Ch (lN (xs:=#[]) (n:=0) (UF _ rfl) rfl ?_);rw[if_neg^by simp];refine Ch (jW (xs:=#[]) (n:=0) (UF _ rfl) rfl ?_ (f8 _) (by show(#[]++b.toArray).size<=sizeLine+1;simp only[Array.size_append,f_,hX];lk));refine Rs ?_
 show wpAny (model c w) A (do
   let o ←load s.heap.objs.size
   match o.data with
   |.seq xs _=>pure xs.toList
   |_=>unsupported "internal:collect") Q E {s with heap:=(s.heap.push^seqObj "list" #[] 0).update s.heap.objs.size (hV (·++b.toArray))}
 refine Ch^wpAny_load (jw (UF _ rfl) _) ?_;show wpAny _ _ (pure ((#[]:Array Ev)++b.toArray).toList) Q E _;rw[show((#[]:Array Ev)++b.toArray).toList=b by simp];exact Rs h
def O3{h:gI}{g:Array Ev->Array Ev}{b:Db}{o:Obj}(e:h.get? b=P3 o):((h.push^seqObj "list" #[] 0).update h.objs.size^hV g).get? b=P3 o:=
 (gF _ _^g0^gO^Uf e).trans (FM _ e)
def O2{g:Bool}{k:gc}{l:Ev->Go->Prop}{p:Db}{c:s_ V}{Q:s_ Ev->Go->Prop}(I:Inv X zH Z H s)(h:SqK g X.K H p c)(q:∀i j,Vals c i->c.length<=sizeLine->Inv X zH Z H j->Q i j):
  wpAny (model X.prog X.w) k (collect^.ref p) Q l s:=by
 cases g with
 |true=>
  let#[d,r,f,a]:=I.list h;exact collect_list f.isList (q _ _ r a^I.kept λb o e=>O3 e)^by rw[←r.length];exact a
 |false=>
  let#[d,r,f,a]:=I.tuple h;exact O0 f (q _ _ r a^I.kept λb o e=>O3 e)^by rw[←r.length];exact a
def Uy(K:Frag):s_ V->Hp->VK->Prop:=λd H Q=>∃(e:Bool) (p:Db) (b:s_ V) (a:s_^s_ Key),d=[.ref p]/\SqK e K H p b/\b.length<64/\KeysAt K H b a /\
 ∀(c:s_ Nat) (l:Db),MP a c->H l=p_->Q (.ref l)^A5 H l^.lst^c.map λi=>b.getD i .non
def Cv:De X (.builtin "sorted")^Uy X.K:=by
 intro zH s Z H k d Q I r h;let#[l,p,m,b,rfl,e,a,f,q]:=h;let#[u,rfl,g]:=vals1 r;cases g;exact Ga (args_sorted1 _) (λx=>args_list_sort _)^O2 I e λd n c i j=>#[by rw[←c.length];exact i,Sa j c a f q]
end
end L2
namespace Dp
open L2
end Dp
namespace L2
def bj:R2:=λy x H Q=>∃a o,x=.ref a/\DGet H a y o/\Q (.bl o.isSome) H
def U1:R2:=λy x H Q=>∃a o,x=.ref a/\DGet H a y o/\Q (.bl (!o.isSome)) H
def U2:R2:=λx y H Q=>∃a v,x=.ref a/\DGet H a y^P3 v/\Q v H
def QK{X:Cx}{k:Nat}(b:Room k X.A):OpR X (compareOp .In) bj:=by
 intro f s Z H y x h u Q I c d #[a,i,ex,g,q];subst ex;obtain rfl:u=gE a:=d;exact em (IY b) I g c λj e=>#[.bl _,H,e,rfl,q]
def Cs{X:Cx}{k:Nat}(b:Room k X.A):OpR X (compareOp .NotIn) U1:=by
 intro f s Z H y x h u Q I c d #[a,i,ex,g,q];subst ex;obtain rfl:u=gE a:=d;exact YF (IY b) I g c λj e=>#[.bl _,H,e,rfl,q]
end L2
namespace Dp
open L2
def Bo:s_ Key->s_ D->Key->t_ D
 |a::b,d::c,k=>if a=k then P3 d else Bo b c k
 |_,_,_=>p_
section
variable {K:Frag}{X:Cx}
theorem GY{M:Db->Prop}{H:Hp}{k:Key}:∀{ks:s_ Key}{b:s_ D}{a:s_ V},Ats K M H b a->
  match Bo ks b k with
  |some z=>∃v,C2 (ks.zip a) k=P3 v/\At K M H z v
  |none=>C2 (ks.zip a) k=p_
 |[],b,a,h=>by exact rfl
 |c::ks,[],a,h=>by cases h;exact rfl
 | c::ks,d::b,a,h=>by
  let#[v,r,rfl,f,g]:=h;have i:=GY (k:=k) (ks:=ks) g;unfold Bo
  by_cases e:c=k
  .rw[if_pos e]
   refine#[v,?_,f];show C2 ((c,v)::ks.zip r) k=P3 v;rw[D6 e]
  .have:C2 ((c,v)::ks.zip r) k=C2 _ k:=D7 e
   simp_all
def keyOf:D->t_ Key
 |.int i=>P3^.inl i
 |.str x=>P3^.inr x
 |_=>p_
def EC{U M:Db->Prop}{H:Hp}{d:D}{v:V}{k:Key}(e:keyOf d=P3 k)(h:AtT K U M H d v):v=kV k:=by
 cases d with
 |int i=>cases e;exact h
 |str x=>cases e;exact h.str.1
 |_=>cases e
def MD:D->t_ (s_ Key×s_ D)
 |.dic a b=>P3 (a,b)
 |.fdi a b=>P3 (a,b)
 |_=>p_
def Kj{U M:Db->Prop}{H:Hp}{d:D}{x:V}{g:s_ Key}{i:s_ D}(e:MD d=P3 (g,i))(h:AtT K U M H d x):∃a b,x=.ref a/\Rd H a^.dK^g.zip b/\Ats K M H i b:=by
 cases d with
 |dic j k=>cases e;let#[a,b,rfl,_,c,_,f]:=h;exact#[a,b,rfl,.inl c,f]
 |fdi j k=>cases e;let#[a,b,rfl,#[o,_,c],_,f]:=h;exact#[a,b,rfl,.inr #[o,c],f]
 |_=>cases e
def JE{H:Hp}{a:Db}{b:s_ (Key×V)}{k:Key}(e:Rd H a^.dK b):DGet H a (kV k)^C2 b k:=.inl #[_,k,e,rfl,rfl]
def GJ(a:Bool)(e d:D)(P:D->Prop):Prop:=∃b c k,MD d=P3 (b,c)/\keyOf e=P3 k/\P^.bl (if a then !(Bo b c k).isSome else(Bo b c k).isSome)
def BR(d e:D)(P:D->Prop):Prop:=∃a b k z,MD d=P3 (a,b)/\keyOf e=P3 k/\Bo a b k=P3 z/\P z
def Wf:Fo K .sh bj^GJ r_:=λU M H e d y x P Q b o f g w q=>by
 let#[ks,i,k,j,l,w]:=w;let#[a,p,rfl,m,n]:=Kj j g;refine#[a,_,rfl,by rw[EC l f];exact JE m,q _ H (.bl _) .refl rfl ?_];have h:=GY (k:=k) (ks:=ks) n;cases c:Bo ks i k with
 |none=>simp_all
 |some z=>rw[c]at h w;let#[v,r,_]:=h;simp_all
def EK:Fo K .sh U1^GJ q_:=λU M H e d y x P Q b o f g w q=>by
 let#[ks,i,k,j,l,w]:=w;let#[a,p,rfl,m,n]:=Kj j g;refine#[a,_,rfl,by rw[EC l f];exact JE m,q _ H (.bl _) .refl rfl ?_];have h:=GY (k:=k) (ks:=ks) n;cases c:Bo ks i k with
 |none=>simp_all
 |some z=>rw[c]at h w;let#[v,r,_]:=h;simp_all
def aT:Fo K .sh U2 BR:=λU M H d e x y P Q b p c f w q=>by
 let#[ks,r,k,z,g,i,j,w]:=w;let#[a,s,rfl,l,m]:=Kj g c;have h:=GY (k:=k) (ks:=ks) m;rw[j]at h;let#[v,n,o]:=h;exact#[a,v,rfl,by rw[EC i f,←n];exact JE l,q v H z .refl o w]
variable {a b:Expr}{zS zO:Kd}{wa wb:DW}{pos:Pos}
def Bc{k:Nat}(g:Room k X.A)(h:DE X a zS wa)(i:DE X b zO wb)(j:YQ b:=by intro _ _;rfl):DE X (.Subscript a b pos) .sh^AU BR wa wb:=by
 let#[m,c,d]:=h;let#[o,e,f]:=i;exact#[_,I_ (IY g) c e j,λC M H n l Z P Q R w q=>EW aT d f C M H n l Z P Q R w q]
end
def UJ(i:Nat)(w:DW):Aa:=λe n c=>∃a:Int,c[i]?=P3^.sh^.int a/\w n c λd f=>∃b:Int,d=.int b/\e.nx f^c.set i^.sh^.int (a+b)
def X5{X:Cx}{h j:Kd}{e:gZ}{g:DW}{pos:Pos}{i:Nat}{x:Str}{c:Pos}(k:X.N.Nodup)(l:X.N[i]?=P3 x)(hx:Loc X.env.scope x)(m:DE X e j g)
  (o:X.fn x=q_\/X.env.scope.names.lookup x=P3 .local:=by first|exact .inl rfl|exact .inr rfl|assumption):DS X h (.AugAssign (.Name x c) .Add e pos)^UJ i g:=by
 let#[t,q,r]:=m;refine#[_,Ze k l hx q Z7 o,λC M H n s Z F E R L w=>?_];let#[a,u,w]:=w;let#[v,f,y]:=R.sl i _ u;cases(y);refine#[_,getD_some f,r C M H n s Z _ _ R w λv z d A f B D p=>?_];let#[b,rfl,p]:=p;exact#[a,b,rfl,KY D,L.nx M z A _ _ ((R.step f B).set (d:=.int _) rfl) p]
end Dp
namespace L2
open PySem.W
section
variable {X:Cx}{zH:s_ (Addr×Obj)}{Z:L2.St}{H:Hp}{s:Shared}{h':Heap}
def Inv.adopt2{D e:Db}{o:HO}(I:Inv X zH Z H s)(m:Ts X zH D)(h:H D=p_)(i:Ts X zH e)(j:H e=p_)(l:D≠e)(k:∀b u,b≠D->b≠e->s.heap.get? b=P3 u->h'.get? b=P3 u)(new:ObjOk X.prog X.w (A5 H D o) h' D o):Inv X zH Z (A5 H D o) {s with heap:=h'}:=by
 have a:∀b,b∉[D,e]->b≠D/\b≠e:=λb d=>#[λz=>d (by rw[z];exact Op),λz=>d^by rw[z];exact TM _ (Sc.mpr rfl)]
 refine I.step (g':=s.gens) (d':=s.drawn) (t':=s.toks) (ch:=[D,e]) (λb g=>?_) (λb u _ _ d q _=>k b u (a b d).1 (a b d).2 q) (λb u _ _ d q _=>#[u.slots,k b u (a b d).1 (a b d).2 q]) (λb u d q n=>?_)
  (λb u d q=>#[u,k b u (a b d).1 (a b d).2 q]) (λb p q=>?_) (λb u v q=>?_) (λb B q=>#[#[],?_]) (λC t=>?_) (λb u q=>?_) I.bare
 .rcases T0.mp g with rfl|g
  .exact#[.inr m.new,m.loc,m.cell,m.pin]
  .rw[Sc.mp g]
   exact#[.inr i.new,i.loc,i.cell,i.pin]
 .rw[AS (a b d).1];exact n
 .rw[AS^A6 q h];exact q
 .rw[AS^A6 q h];exact q
 .rw[AS^A6 q h,q];simp
 .let#[u,x,y,A,r]:=t
  exact#[u,x,y,k _ u (g0 m.loc) (g0 i.loc) A,r]
 .by_cases g:b=D
  .subst g;rw[Af]at q;cases q;exact new
  .rw[AS g]at q
   refine(I.hok b u q).stay (λc v d f=>k c v ?_ ?_ f) (λc f=>by rw[AS^A6 f h];exact f) λc p f=>by rw[AS^A6 f h];exact f
   .grind
   grind
def ZJ(K:Frag)(f:Sp)(g:TE):TE:=λZ H Q=>g Z H λx d=>∃(h:Bool) (l:Db) (c:s_ V) (a:s_^s_ Key) (J:s_ V->Hp->Prop),x=.ref l/\SqK h K d l c/\c.length<64/\J [] d /\
 (∀b H2 v,J b H2->c[b.length]?=P3 v->f [v] H2 (λk j=>J (b++[k]) j) E0) /\
 ∀b H2,J b H2->b.length=c.length->KeysAt K H2 b a/\∀(e:s_ Nat) (l:Db),MP a e->H2 l=p_->Q (.ref l)^A5 H2 l^.lst^e.map λi=>c.getD i .non
def VI{k:Nat}{f:Db}{fd:gy}{pn fn:Str}{sp:Sp}{te:TE}{e:gZ}{p fp kp pos:Pos}(F:CW X.prog X.w X.K X.mg X.base FV k f fd [pn] sp)(hr:Room (k+2) X.A)(hg:Gl X "sorted")(hm:X.mg "sorted"=p_)
  (a9:Gl X fn) (b0:X.mg fn=P3^.ref f) (hb:Binds X.K fd [pn] []) (he:PE X e te) (hs:starEach [e] X.env=[(r_,eval e X.env)]:=by rfl) (b1:(fn==("__debug__":Str))=r_:=by cbv):
  PE X (.Call (.Name "sorted" p) [e] [#[P3 "key",.Name fn fp,kp]] pos) (ZJ X.K sp te):=by
 intro zH s Z H Q I h;refine hU^DX I hg hm j2 ?_
 refine callWith_kw (thn (Bl he Cb hs pos zH s Z H (λC T=>∃x,C=[x]/\∃(κ:Bool) (l:Db) (C:s_ V) (keys:s_^s_ Key) (J:s_ V->Hp->Prop),x=.ref l/\SqK κ X.K T l C/\C.length<64/\J [] T /\
   (∀B H2 v,J B H2->C[B.length]?=P3 v->sp [v] H2 (λk H3=>J (B++[k]) H3) E0) /\
   ∀B H2,J B H2->B.length=C.length->KeysAt X.K H2 B keys/\∀(ix:s_ Nat) (l:Db),MP keys ix->H2 l=p_->Q (.ref l)^A5 H2 l^.lst^ix.map λi=>C.getD i .non) I ?first) λt s1 #[xs,T,I1,r1,q1]=>kws_cons^Dq I1 a9 b0 (kws_nil ?_) b1) (by rw[hs];rfl)^by rw[hs];rfl
 case first=>
  show te Z H _;refine cast (congrArg (te Z H) ?_) h
  funext x T
  refine propext #[λz=>#[x,rfl,z],fun#[y,e,z]=>?_];cases e;exact z
 let#[x,rfl,κ,l,C,keys,J,rfl,hq,b2,j0,U,a0]:=q1;let#[u,rfl,ru]:=vals1 r1;cases ru;show wpAny (model X.prog X.w) X.A (call (.builtin "sorted") [.ref l] [(ik "key",.ref f)]) _ _ s1;refine Ga (ksk_s1 _ _) (λx=>ksk_l1 _ _)^O2 I1 hq λt R r2 hz I2=>#[by rw[←r2.length];exact hz,?_];rw[ksk_t1];have hl:=r2.length;generalize W:R.heap.objs.size=D;have a1:(R.heap.push^seqObj "list" t.toArray 0).objs.size=D+1:=by rw[size_push',W]
 have a2:(R.heap.push^seqObj "list" t.toArray 0).get? D=P3^seqObj "list" t.toArray 0:=by rw[←W];exact UF _ rfl
 have mD:Ts X zH D:=I2.mine (by rw[W];exact Re _);have mK:Ts X zH (D+2):=I2.mine (by rw[W];exact me _ _);have nD:T D=p_:=I2.hok.fresh (by rw[W];exact Re _);have nK:T (D+2)=p_:=I2.hok.fresh (by rw[W];exact me _ _);have a3:D≠D+2:=gO^iy^Nat.lt_succ_self D;have S:∀b,Ts X zH b->b∉L8 X.stack:=λb m z=>(T0.mp^I2.stkSub b z).elim m.loc m.fs
 refine TD (s:={R with heap:=R.heap.push^seqObj "list" t.toArray 0}) (n:=0) a2 (by rw[←hl];exact b2)
  (λB N=>∃O E,Vals O B/\J O E/\Inv X zH Z E N/\E D=p_/\E (D+2)=p_/\N.heap.get? D=(Dh (R.heap.push^seqObj "list" t.toArray 0) D t).get? D) (D+2) (by show D+2=(R.heap.push _).objs.size+1;rw[a1]) (λe1 a4=>?_) (λB N e v Y hk hv=>?_) λe1 a4 B N Y L=>?_
 .refine#[[],T,.nil,j0,?_,nD,nK,rfl]
  exact I2.kept (t':=R.toks) λb o q=>HR (by rw[←W];exact gO^Uf q)^FM _ q
 .let#[O,E,rk,Y,I',n1,n2,P]:=Y
  have hi:B.length<t.length:=(gC.mp hv).1;have a5:C[O.length]?=P3 (C[O.length]'(by rw[rk.length];lk)):=On _;let#[u',e2,ru]:=r2.get a5;rw[rk.length,hv]at e2;cases e2;have b3:=U O E _ Y a5;have E1:Env0 X.prog X.w X.K X.mg X.base X.A.in1.in1 X.stack N E:=I'.env0.in1.in1;refine jP^jg (F.run X.A.in1.in1 X.stack N E #[[v],[]] [v] _ _ E0 (hr.in1).in1 E1 (by simpa using hb N [v] I'.kIn rfl) (.cons ru .nil) b3) λr g M=>?_;cases r with
  |error e=>exact g8 M
  | ok fl=>
   cases fl with
   |next=>exact g8 M
   |brk=>exact g8 M
   |cont=>exact g8 M
   | ret u=>
    let#[w',H3,os,a6,un,b4,b5,q3]:=id M
    obtain⟨oD,eD⟩:∃o,N.heap.get? D=P3 o:=by
     let#[c,hc,_]:=JW a2;exact#[_,P.trans hc]
    have kD:g.heap.get? D=P3 oD:=un.keep D oD eD n1 (S D mD) (by simp);have kK:g.heap.get? (D+2)=P3^seqObj "list" B.toArray e:=un.keep _ _ hk n2 (S _ mK) (by simp);have f1:H3 D=p_:=un.free D oD eD n1 (by simp);have f2:H3 (D+2)=p_:=un.free _ _ hk n2 (by simp);have I3:Inv X zH Z H3 g:=I'.call' os un b4 a6 (λb z=>absurd z^by simp);exists kK,O++[w'],H3,rk.append^.cons b5 .nil,q3,?_,f1,f2
    .exact I3.turned (t':=g.toks) (λb o hb q=>(gF _ _^g0 hb).trans q) f2 mK.loc (.inr mK.new) mK.cell mK.pin
    .show(g.heap.update (D+2) _).get? D=_
     rw[gF _ _^g0 a3,kD,←eD,P]
 .let#[O,E,rk,Y,I',n1,n2,P]:=Y
  let#[a7,q]:=a0 O E Y (by rw[rk.length,L,hl]);have b6:keys.length=t.length:=by rw[←a7.len,rk.length,L]
  refine#[P.trans a4,λp=>p.Perm^gg^gi t.length/\So.Srt Ss (λi=>keys.getD i []) p t.length,λh2=>?_,λh1=>#[mn _,λi j b9 hj=>?_],λp h' c hp hg a8 b7 _=>#[rfl,?_]]
  .have ts:=Lh (prog:=X.prog) (w:=X.w) (A:=X.A.in1.in1) (keys:=keys) (a7.tups I' rk λb o e=>e) (by lk) (G:=λp g=>g=N/\p.Perm^gg^gi t.length/\So.Srt Ss (λi=>keys.getD i []) p t.length) λp a b=>#[rfl,by rw[←L];exact a,by rw[←L];exact b]
   rw[L]at ts;exact ts
  .have:i=j:=by lk
   subst this;exact ig _
  .have b8:(p.toList.map λi=>C.getD i .non).length=t.length:=by rw[No,i5,hp]
   refine#[.ref D,A5 E D^.lst^p.toList.map λi=>C.getD i .non,I'.adopt2 mD n1 mK n2 a3 a8 #[by rw[b8,←hl,gz];lk,_,c,JO (HQ r2) p.toList,b7],rfl,q _ _ (VO b6 hg.1 hg.2) n1]
theorem OT{e f:Type}{F:e->f->Prop}:∀{c:s_ e}{d:s_ f}{j:Nat}{a:e}{b:f},Paired F c d->c[j]?=P3 a->d[j]?=P3 b->F a b
 |_,_,_,_,_,.nil,h,_=>by simp at h
 |_,_,0,_,_,.cons r t,g,i=>by
  grind
 |_,_,j+1,_,_,.cons r t,g,i=>OT (j:=j) t (by simp_all)^by simp_all
end
end L2
namespace Dp
open L2
section
variable {K:Frag}
def Rt(a:s_ D)(P:D->Prop):Prop:=match a with
 |[.int i,.int j]=>P^.int (if j<i then j else i)
 |_=>False
def aS:Eg K .sh (λa H Q=>∃i j,a=[.int i,.int j]/\Q (.int (if j<i then j else i)) H) Rt:=by
 intro U M H h k P Q b l c w q;unfold Rt at w
 split at w
 .rename_i i j
  cases c with
  | cons d e=>cases e with
   |cons f g=>
    cases g;cases d.int;cases f.int;exact#[i,j,rfl,q _ H (.int _) .refl rfl w]
 grind
end
end Dp
namespace L2
def GF(H:Hp)(L:s_ Db)(f:Db->Obj):Hp:=λb=>if b∈L then(H b).map^HO.frz^f b else H b
def ED{H:Hp}{L:s_ Db}{f:Db->Obj}{b:Db}(h:b∉L):GF H L f b=H b:=by unfold GF;rw[if_neg h]
def Ro{H:Hp}{L:s_ Db}{f:Db->Obj}{b:Db}{o:HO}(h:b∈L)(e:H b=P3 o):GF H L f b=P3^.frz (f b) o:=by unfold GF;grind
section
variable {X:Cx}{zH:s_ (Addr×Obj)}{Z:L2.St}{H:Hp}{s:Shared}
def Inv.frz{L:s_ Db}(I:Inv X zH Z H s)(k:∀b∈L,∃d,H b=P3^.dK d):∃f,Inv X zH Z (GF H L f) s:=by
 have a:∀(f:Db->Obj) b o,H b=P3 o->(∀d,o≠.dK d)->GF H L f b=P3 o:=λf b o e n=>by
  rw[ED λx=>by grind];exact e
 exists λb=>(s.heap.get? b).getD {cls:=.none,data:=.fields #[]};refine I.step (g':=s.gens) (d':=s.drawn) (t':=s.toks) (h':=s.heap) (ch:=[]) (λ_ z=>nomatch z) (λ_ _ _ _ _ e _=>e) (λb o _ _ _ e _=>#[o.slots,e]) (λb o _ e n=>?_) (λb o _ e=>#[o,e]) (λb l e=>a _ b _ e λ_ z=>by cases z) (λb o u e=>a _ b _ e λ_ z=>by cases z) (λb A e=>#[#[],by grind]) (λ_ h=>h) (λb u e=>?_) I.bare
 .unfold GF
  simp_all
 .by_cases g:b∈L
  .let#[d,i]:=k b g
   rw[Ro g i]at e;cases e;let#[z,y,m,r,p,t,v,j,c]:=(show ObjOk X.prog X.w H s.heap b^.dK d from I.hok b _ i);exact#[by rw[j];rfl,z,y,m,r,p,t,v,j,c]
  .rw[ED g]at e
   exact(I.hok b u e).stay (λ_ _ _ q=>q) (λc q=>a _ c _ q λ_ z=>by cases z) λc l q=>a _ c _ q λ_ z=>by cases z
def d_(t:TE):TE:=λZ H Q=>t Z H λv c=>∃L:s_ Db,(∀b∈L,∃a,c b=P3^.dK a)/\∀f:Db->Obj,Q v^GF c L f
def Zl{e:gZ}{t:TE}(h:PE X e t):PE X e^d_ t:=by
 intro zH s Z H Q I a;refine thn (h _ s Z H _ I a) λu g #[v,i,b,r,L,c,q]=>?_;let#[f,d]:=b.frz c;exact#[v,_,d,r,q f]
end
end L2
namespace Dp
open L2
def Ct:D->t_^s_ Key
 |.tup a=>IW a
 |_=>p_
def HL(c:D->t_^s_ Key)(f:s_ D):Prop:=f.Pairwise λa b=>∀d e,c a=P3 d->c b=P3 e->A9 e d=r_
def Keyed(a:D->t_^s_ Key)(b:s_ D):Prop:=(∀x∈b,∃k,a x=P3 k/\k≠[])/\∀x∈b,∀y∈b,∀c d,a x=P3 c->a y=P3 d->CN c d=q_
def range_getD(a:s_ D):(gi a.length).map (λi=>a.getD i .non)=a:=by
 apply List.ext_getElem
 .simp
 simp_all
def RY{kf:D->t_^s_ Key}{c:s_ D}{a:s_^s_ Key}{b:s_ Nat}(m:a.length=c.length)(r:∀(i:Nat) (x:D),c[i]?=P3 x->∃k,a[i]?=P3 k/\kf x=P3 k)(h:MP a b):
  (b.map λi=>c.getD i .non).Perm c/\HL kf (b.map λi=>c.getD i .non):=by
 let#[d,s]:=h;constructor
 .have:=d.map λi=>c.getD i D.non
  rw[m,range_getD]at this;exact this
 .unfold HL
  rw[List.pairwise_iff_getElem];intro i j n f l t u o p;rw[List.getElem_map]at o p;rw[No]at n f;have v:b.length=a.length:=by rw[d.length_eq,mQ]
  have g:∀i (h:i<b.length) k,kf (c.getD b[i] .non)=P3 k->a.getD (b.getD i 0) []=k:=λi h k e=>by
   have w:b[i]<a.length:=i_.mp^d.mem_iff.mp^gn h;have q:b[i]<c.length:=by rw[←m];exact w
   let#[C,y,z]:=r b[i] c[b[i]] (On q);have A:c.getD b[i] .non=c[b[i]]:=by rw[gp,On q];rfl
   rw[A,z]at e;have B:b.getD i 0=b[i]:=by rw[gp,On h];rfl
   rw[B,gp,y];exact gH e
  have:=s i j (mU l)^by rw[←v];exact f
  rw[g i n t o,g j f u p]at this;exact this
theorem Fc{b:D->t_^s_ Key}:∀{xs:s_ D},(∀x∈xs,∃k,b x=P3 k/\k≠[])->∃a:s_^s_ Key,a.length=xs.length/\(∀(i:Nat) (x:D),xs[i]?=P3 x->∃k,a[i]?=P3 k/\b x=P3 k/\k≠[])
 |[],_=>#[[],rfl,λi x e=>by simp at e]
 | x::xs,h=>by
  let#[k,d,f]:=h x Op;let#[a,l,g]:=Fc (xs:=xs) λy c=>h y^TM _ c;refine#[k::a,by simp_all,λi y e=>?_];cases i with
  |zero=>
   simp_all
  |succ i=>
   simp_all
section
variable {K:Frag}{M:Addr->Prop}{H:Hp}
theorem Ats.getD:∀{b:s_ D}{a:s_ V},Ats K M H b a->∀i:Nat,At K M H (b.getD i .non)^a.getD i .non
 |[],a,h,i=>by cases(h);simp[At]
 |d::b,a,h,0=>by
  let#[v,r,e,f,c]:=h
  grind
 |d::b,a,h,i+1=>by
  let#[v,r,e,f,c]:=h;subst e
  simpa using Ats.getD c i
theorem Ats.pick{b:s_ D}{c:s_ V}(h:Ats K M H b c):∀a:s_ Nat,Ats K M H (a.map λi=>b.getD i .non)^a.map λi=>c.getD i .non
 |[]=>rfl
 |i::a=>#[_,_,rfl,h.getD i,Ats.pick h a]
def Hk{o:D->t_^s_ Key}{f:s_ D}{t:s_ V}{c:s_^s_ Key}(p:∀d k v,d∈f->o d=P3 k->At K M H d v->∃a,v=.ref a/\SqT K H a^k.map kOf)(u:Ats K M H f t)(z:Keyed o f)(w:c.length=f.length)(A:∀(i:Nat) (x:D),f[i]?=P3 x->∃k,c[i]?=P3 k/\o x=P3 k/\k≠[]):KeysAt K H t c:=by
 have b:∀(i:Nat) (h:s_ Key),c[i]?=P3 h->∃x,f[i]?=P3 x/\o x=P3 h/\h≠[]:=λi h e=>by
  have l:i<f.length:=by rw[←w];exact(gC.mp e).1
  let#[k,g,m,n]:=A i f[i] (On l);rw[e]at g;cases g;exact#[f[i],On l,m,n]
 refine#[u.length.trans w.symm,λi h e=>?_,λx q y B=>?_,λx q=>?_]
 .let#[d,g,m,_]:=b i h e
  let#[v,n,C]:=u.get g;let#[a,rfl,E]:=p d h v (iV g) m C;exact#[a,n,E]
 .let#[i,l]:=j9.mp q
  let#[j,F]:=j9.mp B;let#[d,g,m,_]:=b i x l;let#[G,r,s,_]:=b j y F;exact z.2 d (iV g) G (iV r) x y m s
 .let#[i,l]:=j9.mp q
  let#[d,g,m,n]:=b i x l;exact n
def Hm{d:D}{k:s_ Key}{v:V}(e:Ct d=P3 k)(h:At K M H d v):∃a,v=.ref a/\SqT K H a^k.map kOf:=by
 cases d with
 |tup g=>
  let#[a,i,b,c,f]:=h
  have:=G0 (e) f
  subst this;exact#[a,b,c.sq]
 |_=>cases e
def Cf(c:s_ D)(P:D->Prop):Prop:=∃d b,c=[d]/\D9 d=P3 b/\b.length<64/\Keyed Ct b/\∀a:s_ D,a.Perm b->HL Ct a->P^.lst a
def Fk:Eg K .fr (Uy K) Cf:=by
 intro U M H E F P Q o p r w q;let#[d,G,rfl,e,c,g,w]:=w;let#[v,rfl,s]:=Fx r;let#[t,a,u,rfl,f,y]:=Md s e (λ_ z=>z) p;let#[h,j,m]:=Fc g.1;refine#[t,a,u,_,rfl,y M H (Pres.refl _ _)^Ext.refl _ _,by rw[f.length];exact c,Hk (λd k v _=>Hm) f g j m,λA l B n=>?_];let#[C,D]:=RY (kf:=Ct) j (λi x e=>by let#[k,a,b,_]:=m i x e;simp_all) B;exact q _ _ _ (A1 n) (C5 n^f.pick A)^w _ C D
end
section
variable {X:Cx}{a e:Expr}{zS:Kd}{wa:DW}{pos p fp kp:Pos}
def UB(W:W2)(wa:DW):DW:=λn h P=>wa n h λd e=>∃(c:s_ D) (f:D->D),D9 d=P3 c/\c.length<64/\(∀x∈c,∀g:D->Nat->Prop,g (f x) e->W [.sh x] e g)/\Keyed (λx=>Ct^f x) c /\
 ∀b:s_ D,b.Perm c->HL (λx=>Ct^f x) b->P (.lst b) e
def WE{k:Nat}{fn pn:Str}{W:W2}(G:Got X.prog X.w X.K X.mg X.base fn k [pn] .sh W)(hr:Room (k+2) X.A)(hg:Gl X "sorted")(hm:X.mg "sorted"=p_)(a0:Gl X fn)(he:DE X e zS wa)
  (J:starEach [e] X.env=[(r_,eval e X.env)]:=by rfl) (a1:(fn==("__debug__":Str))=r_:=by cbv):DE X (.Call (.Name "sorted" p) [e] [#[P3 "key",.Name fn fp,kp]] pos) .fr^UB W wa:=by
 let#[f,fd,F,a2,b1,hb,hW]:=G;let#[t,h1,h2]:=he;refine#[_,VI F hr hg hm a0 a2 hb h1 J a1,λC M H n ρ Z P Q R w q=>?_];refine h2 C M H n ρ Z _ _ R w λv H1 d Y e1 f1 r1 p=>?_;let#[j,B,hd,a3,hw,hK,w]:=p;have L:=R.step e1 f1;let#[κ,l,us,rfl,J,sq]:=Md (U:=C.U) (r1.tpOf R.dom R.vM) hd R.uV L.vM;let#[N,hl,hk]:=Fc hK.1;have s:=J.length;refine#[κ,l,us,N,λc H2=>Ext C.U H1 H2/\FeedC X.K C.F M H2 Y/\c.length<=j.length/\∀(i:Nat) (k:V),c[i]?=P3 k->∃x,j[i]?=P3 x/\At X.K M H2 (B x) k,rfl,sq M H1 (Pres.refl _ _)^Ext.refl _ _,by rw[s];exact a3,#[Ext.refl _ _,f1,f8 _,λi k z=>absurd (show(p_:t_ V)=P3 k from z) λh=>nomatch h],λc H2 v hJ hv=>?_,λc H2 hJ a4=>?_]
 .let#[ex,u,a5,E]:=hJ
  have m:=L.step ex u;have hi:c.length<j.length:=by rw[←s];exact(gC.mp hv).1
  have O:j[c.length]?=P3 j[c.length]:=On hi;let#[v',e2,hA]:=(J.pres^L.pres ex).get O;rw[hv]at e2;cases e2;refine#[rfl,C.F,C.U,C.V,M,Y,[.sh j[c.length]],λd n=>d=B j[c.length]/\n=Y,#[m.dom,m.fU,m.uV,m.vM,u,.cons #[#[v,rfl,hA],rfl] .nil],hw _ (gn hi) _ #[rfl,rfl],λr H3 d n' S f3 vr hd=>?_];let#[rfl,rfl]:=hd;refine#[ex.trans S,f3,by rw[XV,gD];lk,λi k o=>?_]
  by_cases a6:i<c.length
  .rw[jZ a6]at o
   let#[x,h3,h4]:=E i k o;exact#[x,h3,h4.pres^m.pres S]
  .rw[iW^by lk]at o
   have a7:i=c.length:=by
    have:=(gC.mp o).1
    rw[gD]at this;lk
   subst a7;rw[mh]at o;cases(show P3 r=P3 k from o);exact#[_,O,vr]
 .let#[ex,u,a5,E]:=hJ
  have m:=L.step ex u;have a8:c.length=j.length:=by rw[a4,s]
  have a9:Ats X.K M H2 (j.map B) c:=by
   have go:∀(j:s_ D) (c:s_ V),c.length=j.length->(∀(i:Nat) (k:V),c[i]?=P3 k->∃x,j[i]?=P3 x/\At X.K M H2 (B x) k)->Ats X.K M H2 (j.map B) c:=by
    intro j
    induction j with
    |nil=>intro c h _;exact kh.mp h
    | cons x j ih=>
     intro c h hh;cases c with
     |nil=>cases h
     | cons k c=>
      let#[T,e3,h3]:=hh 0 k rfl;cases(show P3 x=P3 T from e3)
      exact#[k,c,rfl,h3,ih c (by simpa using h) λi k' e4=>by
       let#[y,e5,h5]:=hh (i+1) k' (by simpa using e4);exact#[y,by simpa using e5,h5]]
   exact go j c a8 E
  have b0:Keyed Ct^j.map B:=by
   refine#[λy hy=>?_,λy hy z hz ka kb ea eb=>?_]
   .let#[x,hx,rfl]:=Tk.mp hy
    exact hK.1 x hx
   .let#[x,hx,rfl]:=Tk.mp hy
    let#[T,I,rfl]:=Tk.mp hz;exact hK.2 x hx T I ka kb ea eb
  refine#[Hk (λd k v _=>Hm) a9 b0 (by rw[hl,No]) λi x e=>?_,λix l ho hn=>?_]
  .rw[gM]at e
   let#[T,I,rfl]:=iE.mp e;exact hk i T I
  .let#[o1,o2]:=RY (kf:=λx=>Ct^B x) hl (λi x e=>by let#[k,a,b,_]:=hk i x e;exact#[k,a,b]) ho
   have g:Grow H2 (A5 H2 l^.lst^ix.map λi=>us.getD i .non):=A1 hn;refine q _ _ (.lst^ix.map λi=>j.getD i .non) Y ((e1.trans ex).trans g.ext) (u.grow g) (VR.back (e1.trans ex) ?_)^w _ o1 o2;exact C5 hn^(J.pres^L.pres ex).pick ix
def av:Key->D
 |.inl i=>.int i
 |.inr x=>.str x
def Rj:Key->Prop
 |.inl _=>True
 |.inr x=>x.length<=sizeLine
def aJ{K:Frag}{M:Db->Prop}{H:Hp}{k:Key}(h:Rj k):At K M H (av k)^kOf k:=by
 cases k with
 |inl i=>exact rfl
 |inr x=>exact#[rfl,h]
end
end Dp
namespace L2
section
open PySem.MeetsSeq
open PySem.AutoSeq1 (wpAny_loadPart')
def Uk(l:Db)(items:Array Ev)(n:Nat)(x:Ev)(e:Ev->Bool)(j:Nat)(hj:j<items.size)(hit:e items[j]=q_)(hs1:items.size<=sizeLine)(prog:gN)(w:gY)(A:gc)(R:Result->Go->Prop)(hp:gI)(g:Array GenState)(d:Drawn)(tk:Nat)(os:_)
  (hl:hp.get? l=P3 {cls:=.type "list",dict:=p_,data:=.seq items n,slots:=#[]}) (he:∀y,y∈items->PySem.SeqAt.EqAt A.in1 #[hp,g,d,tk,os] y x^e y) (h:R (.ok^.ret .none) #[hp.update l^hV λxs=>xs.eraseIdxIfInBounds j,g,d,tk,os]):
  ∀k i:Nat,j - i=k->i<=j->(∀m (hm:m<items.size),i<=m->m<j->e items[m]=r_)->
   wpAny (model prog w) A.in1 (ir.«list.remove.loop» #[[.ref l,x,rawInt i],[]]) (λfin s'=>match fin with|.done f=>R (.ok f) s'|.again c'=>c'.quiet=q_/\codeAny (model prog w) A c' R s') (λe s'=>R (.error e) s') #[hp,g,d,tk,os]:=by
 intro k
 induction k with
 |zero=>
  intro i hk hij hno;have hij':i=j:=by lk
  subst hij'
  wp_walk using iM hl
  have hi:items[((i:Nat):Int).toNat]?=P3 items[i]:=by simp[hj]
  rw[hi];refine Ch^he _ (Array.getElem_mem hj) prog w _ _ ?_;rw[hit];have hz':(items.eraseIdxIfInBounds i).size<=sizeLine+1:=gG (size_erased items _)^Nat.le_succ_of_le hs1
  wp_walk using (jx hl rfl (hz:=hs1) (_hz':=hz')),iM hl
  simpa using h
 | succ k ih=>
  intro i hk hij hno;have hlt:i<items.size:=by lk
  wp_walk using iM hl
  have hi:items[((i:Nat):Int).toNat]?=P3 items[i]:=by simp[hlt]
  have hc:((i:Int)+1)=((i+1:Nat):Int):=by push_cast;rfl
  rw[hi];refine Ch^he _ (Array.getElem_mem hlt) prog w _ _ ?_;rw[hno i hlt (Re _)^by lk]
  wp_walk
  rw[hc]
  exact#[iJ plain_remove_loop _,iB entry_remove_loop (by
   rw[iD plain_remove_loop _];exact ih (i+1) (by lk) (by lk) λm hm h1 h2=>hno m hm (by lk) h2)]
def Ul{prog:gN}{w:gY}{A:gc}{E:Ev->Go->Prop}{s:Go}{Q:Ev->Go->Prop}(l:Db)(items:Array Ev)(n:Nat)(x:Ev)(e:Ev->Bool)(j:Nat)(hj:j<items.size)(hit:e items[j]=q_)(hno:∀m (hm:m<items.size),m<j->e items[m]=r_)
  (hs1:items.size<=sizeLine) (hl:s.heap.get? l=P3 {cls:=.type "list",dict:=p_,data:=.seq items n,slots:=#[]}) (he:∀y,y∈items->PySem.SeqAt.EqAt A.in1 s y x^e y)
  (h:Q .none {s with heap:=s.heap.update l^hV λxs=>xs.eraseIdxIfInBounds j}):wpAny (model prog w) A (call (.builtin "list.remove") [.ref l,x]) Q E s:=by
 have key:wpAny (model prog w) A.in1 (ir.«list.remove» #[[.ref l,x],[]]) (λfin s'=>match fin with|.done f=>wants Q E (.ok f) s'|.again c'=>c'.quiet=q_/\codeAny (model prog w) A c' (wants Q E) s') (λe s'=>wants Q E (.error e) s') s:=by
  let#[hp,g,d,tk,os]:=s
  wp_walk using iM hl
  exact#[iJ plain_remove_loop _,iB entry_remove_loop (Uk l _ n x e j hj hit hs1 _ w A _ hp g d tk os hl he h _ 0 rfl (f8 _) (λm hm _ h2=>hno m hm h2))]
 exact jP^kE PySem.F.slot_list_remove.plain PySem.F.entry_list_remove^PySem.F.slot_list_remove.check _ _ _ _ _ _ _ _ #[_,hl,rfl] (PySem.F.args_list_remove_2 _ _) key
end
section
variable {X:Cx}
def RH:V->s_ V->Hp->VK->Prop:=λx f H Q=>∃(l:Db) (b:s_ V) (y:V) (a:s_ kU) (d:kU) (j:Nat),x=.ref l/\f=[y]/\H l=P3^.lst b/\RVs H a b/\RV H d y/\jY a=q_/\d.canLay0=q_/\d.depth<=100 /\
 (∃c,a[j]?=P3 c/\iL c d=q_)/\(∀m e,m<j->a[m]?=P3 e->iL e d=r_)/\Q .non^A5 H l^.lst^b.eraseIdx j
def S6{k:Nat}(L:Room k X.A):dU X "list.remove" RH:=by
 intro Y s Z H x vs v us Q I M N h;let#[l,O,y,c,d,j,rfl,rfl,D,o,P,E,R,dd,#[S,F,p],t,q]:=h;cases M;let#[u,rfl,T]:=N.one;let#[z,a,n,r,hl,e]:=I.lstM D;let#[U,G]:=RVs.reads I o r;let#[bs,V]:=RV.reads I P T;have J:=PySem.SeqAt.readsAll_map c a U E G;have b:c.length=a.length:=by rw[←J,No]
 have hu:=L.un;have K:min (iS c) d.depth<=d.depth:=k8 _ _
 have f:∀m w,c[m]?=P3 w->∀(h:m<a.toArray.size),PySem.SeqAt.readOf s.heap a.toArray[m]=w:=λm w e h=>by
  rw[←J,gM]at e;have W:m<a.length:=by simpa using h
  rw[On W]at e;have e:=gH e
  simpa using e
 have B:j<a.length:=by rw[←b];exact(gC.mp F).1
 refine Ul l a.toArray n u (λy=>iL (PySem.SeqAt.readOf s.heap y) d) j (by rw[f_];exact B) (by rw[f j S F];exact p) (λm g C=>?_) (by rw[f_];lk) e (PySem.SeqAt.items_eqAt (vs:=a.toArray) (by rw[List.toList_toArray];exact G) V E R^by lk) ?_
 .have i:m<c.length:=by rw[b];simpa using g
  rw[f m c[m] (On i) g];exact t m c[m] C (On i)
 .refine#[.non,_,I.lset (t':=s.toks) (its':=a.eraseIdx j) D e ?_ (r.eraseIdx j) ?_,rfl,q]
  .show a.toArray.eraseIdxIfInBounds j=(a.eraseIdx j).toArray
   rw[List.eraseIdxIfInBounds_toArray]
  .have:=Hg O j
   omega
def RI:V->s_ V->Hp->VK->Prop:=λx b H Q=>∃(l:Db) (a:s_ V) (i:Int) (y:V),x=.ref l/\b=[.int i,y]/\H l=P3^.lst a/\0<=i/\i<=(a.length:Int)/\i<1000000000/\a.length<sizeLine/\Q .non^A5 H l^.lst (a.take i.toNat++y::a.drop i.toNat)
def Xt(a:s_ Ev)(u:Ev)(i:Int)(e:0<=i)(f:i<=(a.length:Int)):
  (λb:Array Ev=>have k:=if i<0 then(i+(b.size:Int)).toNat else min i.toNat b.size;(b.extract 0 k).push u++b.extract k) a.toArray=(a.take i.toNat++u::a.drop i.toNat).toArray:=by
 have c:¬i<0:=by lk
 have d:min i.toNat a.length=i.toNat:=by lk
 simp only[if_neg c,d]
 grind
def S7:dU X "list.insert" RI:=by
 intro p s Z H x w v A Q I j k h;let#[l,B,i,y,rfl,rfl,d,m,C,D,E,q]:=h;cases j;let#[u,f,rfl,o,c]:=vals2 k;let#[t,rfl]:=o;let#[z,a,n,r,G,e]:=I.lstM d
 have b:¬(!Builtin.List.listFitsIndex i)=q_:=by
  rw[fitsIndex_both (by lk)^by lk]
  grind
 have g:=AutoSeq1.list_insert_list_int_val_1 l a.toArray n i t f b (by grind);refine call_meets F.slot_list_insert #[_,e,rfl] F.entry_list_insert (F.args_list_insert_3 _ _ _) g #[e,?_];refine#[.non,_,I.lset d e (Xt a f i m^by grind) ((r.take _).append^.cons c^r.drop _) ?_,rfl,q]
 grind
end
end L2
namespace Dp
open L2
def cR(d:D)(b:s_ D)(P:D->D->Prop):Prop:=∃(a:s_ D) (y:D) (j:Nat),d=.lst a/\b=[y]/\Dw^.lst a/\Dw y/\(∃x,a[j]?=P3 x/\E_ x y=q_)/\(∀m x,m<j->a[m]?=P3 x->E_ x y=r_)/\P (.lst^a.eraseIdx j) .non
def cf{K:Frag}:Wj K RH cR:=by
 intro M H a d G I P Q m t n w q;let#[b,y,j,rfl,rfl,#[o,s,_],#[v,z,A],#[x,B,c],f,w]:=w;let#[h,i,k]:=t;let#[u,r,rfl,C,D]:=n;cases(show r=[]from D)
 have g:∀(m:Nat) (p:kU),(Bq b)[m]?=P3 p->∃x,b[m]?=P3 x/\p=toPy x:=λm p e=>by
  rw[FY,gM]at e;let#[x,l,rfl]:=iE.mp e
  grind
 refine#[a,h,u,Bq b,toPy y,j,rfl,rfl,i,k.rv o,C.rv v,s,z,A,#[toPy x,by rw[FY,gM,B];rfl,c],λm p E e=>?_,q _ (.lst^b.eraseIdx j) .non _ #[h.eraseIdx j,Af,?_] rfl w]
 .let#[F,l,rfl]:=g m p e
  exact f m F E l
 .exact(k.eraseIdx j).pres^Cz m i
def aA(d:D)(b:s_ D)(P:D->D->Prop):Prop:=∃(a:s_ D) (i:Int) (y:D),d=.lst a/\b=[.int i,y]/\0<=i/\i<=(a.length:Int)/\i<1000000000/\a.length<sizeLine/\P (.lst (a.take i.toNat++y::a.drop i.toNat)) .non
def cj{K:Frag}:Wj K RI aA:=by
 intro M H a d p s P Q m t g w q;let#[h,i,y,rfl,rfl,j,v,k,x,w]:=w;let#[l,e,b]:=t;let#[u,r,rfl,n,f,z,rfl,c,o]:=g;cases(o);cases(n);have A:=b.length;exact#[a,l,i,f,rfl,rfl,e,j,by simp_all,k,by simp_all,q _ (.lst _) .non _ #[_,Af,((b.take _).append (show Ats K M H (y::h.drop _) _ from#[f,_,rfl,c,b.drop _])).pres^Cz m e] rfl w]
def GA(c:HM)(i:Aa):Aa:=λd n a=>∃W:Nat->Nat->s_ Slot->Prop,(∃m,W m n a)/\∀m n a,W m n a->
 c n a λb e=>if b=q_ then ∃N:Nat->s_ Slot->Prop,(∀f g,N f g->∃h,h<m/\W h f g)/\i {d with nx:=N,ct:=N,bk:=d.nx} e a else d.nx e a
section
variable {X:Cx}{κ:Kd}{c:Expr}{body:s_ Stmt}{wc:HM}{wb:Aa}{pos:Pos}
def FD(G:kT (model X.prog X.w) X.A X.env X.xe)(I:DT X c wc)(J:Pe X κ body wb):DS X κ (.While c body [] pos)^GA wc wb:=by
 let#[tc,O,P]:=I;let#[tb,Q,S]:=J;refine#[_,U_ G O Q,λC M H n T Z y E R L w=>?_];let#[W,#[U,V],g]:=w;exists λm h t=>∃i j a,Rel X.K C i t j a h/\W m j a,#[U,M,n,T,R,V];rintro m h t ⟨i,j,a,z,Y⟩;refine P C i t j a h _ _ z (g m j a Y) λb H2 B e f p=>?_;have R2:=z.step e f;cases b with
 | true=>
  rw[if_pos rfl]at p ⊢;let#[N,hN,p]:=p;exists λD F=>∃u k l,Rel X.K C u F k l D/\N k l,λD F #[u,k,l,R3,w3]=>?_
  .let#[m',hm,d]:=hN k l w3
   exact#[m',hm,u,k,l,R3,d]
  .exact S C i H2 B a h {y with nx:=N,ct:=N,bk:=y.nx} _ R2 #[λo v q r x s d=>#[o,q,r,s,d],L.rt,λo v q r x s d=>L.nx o v q r x s d,λo v q r x s d=>#[o,q,r,s,d]] p
 |false=>
  rw[if_neg^by cbv]at p ⊢;exact L.nx i H2 B a h R2 p
def FW{f:E2}{n:Nat}{a:s_ Slot}(I:Nat->Nat->s_ Slot->Prop)(i:Nat)(j:I i n a)
  (k:∀m n a (N:Nat->s_ Slot->Prop),I m n a->(∀c e g,c<m->I c e g->N e g)->wc n a λb d=>if b=q_ then wb {f with nx:=N,ct:=N,bk:=f.nx} d a else f.nx d a)
  (mono:∀n a (P Q:Bool->Nat->Prop),(∀b d,P b d->Q b d)->wc n a P->wc n a Q):GA wc wb f n a:=by
 refine#[I,#[i,j],λm n a h=>?_];refine mono n a _ _ (λb d p=>?_)^k m n a (λe g=>∃c,c<m/\I c e _) h λc e g l o=>#[c,l,o];cases b with
 |true=>exact#[_,λ_ _ z=>z,p]
 |false=>exact p
end
def YW(i:Nat)(b:BW)(c:Aa):Aa:=λf n d=>∃e,d[i]?=P3^.ow^.lst e/\∀a,A0 b c {f with nx:=λn d=>d[i]?=P3^.lt a^.lst e/\f.nx n^d.set i^.ow^.lst e} e n^d.set i^.lt a^.lst e
section
variable {X:Cx}{κ:Kd}{tg:Expr}{body:s_ Stmt}{b:BW}{wb:Aa}{pos p:Pos}{x:Str}{i:Nat}
def X4(hp:kT (model X.prog X.w) X.A X.env X.xe)(hc:X.calm=q_)(h:PE X (.Name x p)^B6 i)(hg:DG X tg b)(hb:Pe X κ body wb)
  (hs:∀y,foldedSetIterable (.Name x p) X.env y=pure y:=by intro _;rfl):DS X κ (.For tg (.Name x p) body [] pos)^YW i b wb:=by
 let#[g,g1,g2]:=hg;let#[tb,b1,b2]:=hb;refine#[_,HY hp hc (Mr h) g1 b1 hs,λC M H n o Z Y E R L w=>?_];let#[c,hi,w]:=w;let#[a,e1,hm,nv,j,hH,D]:=R.sl i _ hi;have hk:∀q∈C.kp,q.1≠a:=λq F z=>(R.kept q F).2.2.2 i _ hi (by rw[e1,z]);have R1:=(R.lend hi e1 hH).pinned;refine#[.ref a,getD_some e1,.inl #[a,rfl,#[j,.inl^.inl hH],?_]];have w1:=w a;generalize G:({Y with nx:=λn o=>o[i]?=P3^.lt a^.lst c/\Y.nx n^o.set i^.ow^.lst c}:E2)=l at w1
 have L3:∀M H n o Z,Rel X.K {C with kp:=(a,.lst j)::C.kp} M H n o Z->l.nx n o->E.nx Z H:=λM H n o Z R w=>by
  rw[←G]at w;exact L.nx M H n _ Z (R.unlend w.1 hk) w.2
 have a0:l.rt=Y.rt:=by rw[←G]
 exists λk m S t=>m=c.length - k/\k<=c.length/\∃u B I,Rel X.K {C with kp:=(a,.lst j)::C.kp,zH:=(M,H)::C.zH} u t B I S/\A0 b wb l (c.drop k) B I,#[c.length,by simp,f8 _,M,n,_,R1,w1];rintro k m S t ⟨rfl,a3,u,B,I,T,U⟩;have pr:Pres M H u t:=T.pin (M,H) Op;have a1:t a=P3^.lst j:=(T.kept (a,.lst j) Op).1;have F:SqL X.K t a j:=.inl^.inl a1
 by_cases s:k<c.length
 .have ed:c.drop k=c[k]::c.drop (k+1):=iO s
  rw[ed]at U;let#[v,ev,hv]:=(D.pres pr).get^On s;refine .inr #[#[j,v,F,ev],λzP H2=>∃M2 V W,Rel X.K {C with kp:=(a,.lst j)::C.kp,zH:=(M,H)::C.zH} M2 H2 V W zP/\A0 b wb l (c.drop (k+1)) V W,λzP H2 #[M2,V,W,a2,w2]=>#[c.length - (k+1),by lk,rfl,s,M2,V,W,a2,w2],λy H2 hy=>?_];let#[e2,hy]:=hy;subst e2
  have:P3 v=P3 y:=ev.symm.trans^hy j F
  cases this;refine g2 _ u H2 B I S c[k] v _ _ T hv U λzN zV R3 w3=>?_;refine b2 _ u H2 B zN zV {l with nx:=A0 b wb l^c.drop (k+1),ct:=A0 b wb l^c.drop (k+1),bk:=l.nx} _ R3 #[λJ H4 N O zT P Q=>#[J,N,O,P,Q],λv H d n e f r p=>L.rt v H d n e f r (by rw[←a0];exact p),λJ H4 N O zT P Q=>L3 J H4 N O zT P.unpin Q,λJ H4 N O zT P Q=>#[J,N,O,P,Q]] w3
 .have e:k=c.length:=by lk
  subst e;rw[ji]at U;exact .inl #[#[j,F,by rw[D.length];exact Re _],L3 u t B I S T.unpin U]
end
end Dp
namespace L2
open PySem.W
section
variable {prog:Program}{w:World}{A:Around}{E:Value->Shared->Prop}{R:Result->Shared->Prop}{I:Addr}{fp wr:s_ Addr}{n:Nat}{P:Nat->Value->Prop}{St:Nat->Heap->Prop}
def Y2(prog:gN)(w:gY)(A:gc)(c:CmpOp)(P:Nat->Ev->Prop)(d:gI->Prop)(e:Nat->Nat->Bool):Prop:=
 ∀i j a b (s:Go) (Q:Ev->Go->Prop) (E:Ev->Go->Prop),d s.heap->P i a->P j b->Q (.bool^e i j) s->wpAny (model prog w) A (richCompare c a b) Q E s
def S9(W:Walks prog w A.in1 I fp wr n P St)(D:Nat->Nat->Bool)(G:gI->Prop)(H:Y2 prog w A.in1 .Lt P G D)(S:Db)(J:S∉fp)(g:∀h u:gI,G h->(∀b o,b∉wr->b≠S->h.get? b=P3 o->u.get? b=P3 o)->G u):
  ∀(k j:Nat) (s:Go) (r:Ev) (c:Nat),n - (j+1)=k->j+1<=n->St (j+1) s.heap->G s.heap->P (argBest D j) r->
  s.heap.get? S=P3 {cls:=.type "list",dict:=p_,data:=.seq #[ r,r] c,slots:=#[]}->
  (∀v u O,P (argBest D (n - 1)) v->(∀b o,b∉wr->b≠S->s.heap.get? b=P3 o->u.get? b=P3 o)->R (.ok^.ret v) {s with heap:=u,toks:=O})->
  codeAny (model prog w) A (.builtin "min.loop" #[[.ref I,.none,.ref S],[]]) R s:=by
 have K:S∉wr:=λh=>J^W.sub _ h;have i:(toString "min"++toString ".loop":String)="min.loop":=by cbv
 intro k
 induction k with
 |zero=>
  intro j s r c Z hj y L t M Q;have N:j+1=n:=by lk
  refine iB PySem.F.entry_min_loop ?_;rw[iD PySem.F.plain_min_loop _];show wpAny _ A.in1 (seqItems?^.ref S >>=_) _ _ s;refine Ch (iY M rfl ?_);show wpAny _ A.in1 (tryCatch (pyNext^.ref I) _ >>=_) _ _ s;refine Ch^li^W.done s _ _ (N▸y) λu O a=>?_;have l:=a S _ K M;show wpAny _ A.in1 (updateSeq S (λ_=>#[]) >>=_) _ _ _;refine Ch ?_;refine jx l rfl (Ch^jz^Rs ?_);refine Q r _ O (by rw[←N];exact t) λb o d f e=>(gF _ _^g0 f).trans^a b o d e
 | succ k V=>
  intro j s r c Z hj y L t M Q;have z:j+1<n:=by lk
  refine iB PySem.F.entry_min_loop ?_;rw[iD PySem.F.plain_min_loop _];show wpAny _ A.in1 (seqItems?^.ref S >>=_) _ _ s;refine Ch (iY M rfl ?_);show wpAny _ A.in1 (tryCatch (pyNext^.ref I) _ >>=_) _ _ s;refine Ch^li^W.item (j+1) s _ _ z y λv u O X x a=>?_;have l:=a S _ K M;have m:G u:=g _ _ L λb o h1 _ e=>a b o h1 e;show wpAny _ A.in1 (tryCatch (holding [v,v] (richCompare .Lt v r >>=_)) _ >>=_) _ _ _;refine Ch^li^gw^Ch^H (j+1) (argBest D j) v r _ _ _ m X t ?_;refine Ch^gw^iw ?_;refine Ch^jz^Rs ?_;cases Y:D (j+1)^argBest D j with
  | true=>
   simp only[if_true];refine Ch ?_;refine jx l rfl (Ch^jz ?_);rw[i]
   refine Rs #[iJ PySem.F.plain_min_loop _,V (j+1) _ v _ (by lk) z (W.frame _ _ _ x λb T o e=>?_) (g _ _ m λb o _ h2 e=>(gF _ _^g0 h2).trans e) (by simp only[argBest,Y,if_true];exact X) (g7 _ l rfl)
    λU B p C q=>?_]
   .exact(gF _ _ λh:S=b=>J^by rw[h];exact T).trans e
   .exact Q U B p C λb o d f e=>q b o d f^(gF _ _^g0 f).trans^a b o d e
  |false=>
   simp only[iA,if_false];refine Ch^jz ?_;rw[i];refine Rs #[iJ PySem.F.plain_min_loop _,V (j+1) _ r c (by lk) z x m (by simp only[argBest,Y,iA,if_false];exact t) l λU B p C q=>?_];exact Q U B p C λb o d f e=>q b o d f^a b o d e
def QP(W:Walks prog w A.in1 I fp wr n P St)(x:Nat->Nat->Bool)(j:gI->Prop)(k:Y2 prog w A.in1 .Lt P j x)(S:Db)(d:S∉fp)(a:∀h f:gI,j h->(∀b o,b∉wr->b≠S->h.get? b=P3 o->f.get? b=P3 o)->j f)(G:0<n){s:Go}{c:Nat}(y:St 0 s.heap)(z:j s.heap)
  (H:s.heap.get? S=P3 {cls:=.type "list",dict:=p_,data:=.seq #[] c,slots:=#[]})
  (K:∀v f J,P (argBest x (n - 1)) v->(∀b o,b∉wr->b≠S->s.heap.get? b=P3 o->f.get? b=P3 o)->R (.ok^.ret v) {s with heap:=f,toks:=J}):
  codeAny (model prog w) A (.builtin "min.loop" #[[.ref I,.none,.ref S],[]]) R s:=by
 have B:S∉wr:=λh=>d^W.sub _ h;have g:(toString "min"++toString ".loop":String)="min.loop":=by cbv
 refine iB PySem.F.entry_min_loop ?_;refine Ch (iY H rfl ?_);refine Ch^li^W.item 0 s _ _ G y λv f J L l i=>?_;have m:=i S _ B H;have p:j f:=a _ _ z λb o M _ e=>i b o M e;show wpAny _ A.in1 (updateSeq S (λ_=>#[ v,v]) >>=_) _ _ _;refine Ch ?_;refine jx m rfl ?_;rw[g];refine Rs #[iJ PySem.F.plain_min_loop _,S9 W x j k S d a _ 0 _ v _ rfl G (W.frame _ _ _ l λb N o e=>?_) (a _ _ p λb o _ O e=>(gF _ _^g0 O).trans e) L (g7 _ m rfl) λQ C q D r=>?_]
 .exact(gF _ _ λh:S=b=>d^by grind).trans e
 .exact K Q C q D λb o t u e=>r b o t u^(gF _ _^g0 u).trans^i b o t e
def min_list{s:Go}{l:Db}{a:Array Ev}{Q:Ev->Go->Prop}(u:Nat->Nat->Bool)(G:A.handled=p_)(x:s.heap.IsList l a)(H:0<a.size)
  (m:∀i j r t (p:Go) (Q:Ev->Go->Prop) (E:Ev->Go->Prop),(∀b o,s.heap.get? b=P3 o->p.heap.get? b=P3 o)->a[i]?=P3 r->a[j]?=P3 t->Q (.bool^u i j) p->wpAny (model prog w) A.in1 (richCompare .Lt r t) Q E p)
  (h:∀v k y,a[argBest u (a.size - 1)]?=P3 v->(∀b o,s.heap.get? b=P3 o->k.get? b=P3 o)->Q v {s with heap:=k,toks:=y}):wpAny (model prog w) A (call (.builtin "min") [.ref l]) Q E s:=by
 have d:(toString "min"++toString ".loop":String)="min.loop":=by cbv
 have f:l<s.heap.objs.size:=by let#[_,e,_]:=x;exact Uf e
 refine call_function_tree PySem.F.kind_min PySem.F.plain_min PySem.F.entry_min (PySem.F.args_min1 _) ?_;show wpAny _ A.in1 (l8 "min" ["key","default"] 0 #[[],[]] >>=_) _ _ s;refine Ch^iX (show l8 "min" ["key","default"] 0 #[[],[]]=pure [p_,p_]from rfl) ?_;refine Ch^Rs ?_;refine Ch^iZ x ?_;refine Ch^hZ ?_;rw[d];have W:=Walks.list (prog:=prog) (w:=w) (A:=A.in1) G s.heap.objs.size l (gO f) a;have g:(s.heap.push {cls:=.type "list_iterator",data:=.fields #[ .ref l,.int 0 0]}).objs.size=s.heap.objs.size+1:=iq _ _;refine Rs #[iJ PySem.F.plain_min_loop _,QP W u (λk=>∀b o,s.heap.get? b=P3 o->k.get? b=P3 o) (λi j r t p Q E z C D q=>m i j r t p Q E z C D q) (s.heap.push {cls:=.type "list_iterator",data:=.fields #[ .ref l,.int 0 0]}).objs.size (λc=>?_) (λC D z B b o e=>B b o (λc=>?_) ?_^z b o e) H #[#[_,FM _ (UF _ rfl),rfl,rfl],(x.push _).push _] (λb o e=>FM _^FM _ e) (UF _ rfl) λv k y J B=>?_]
 .rw[g]at c
  rcases T0.mp c with e|c
  .exact absurd e^Nat.succ_ne_self _
  .rw[←Sc.mp c]at f
   exact absurd f^ke.mpr^g_ _
 .rw[Sc.mp c]at e
  exact absurd (Uf e)^gv _
 .rw[g]
  exact gO^iy^Uf e
 .refine h v k y J λb o e=>B b o (λc=>?_) ?_^FM _^FM _ e
  .rw[Sc.mp c]at e
   exact absurd (Uf e)^gv _
  .rw[g]
   exact gO^iy^Uf e
end
theorem Kt(a:s_^s_ Key):∀m:Nat,argBest (λi j=>A9 (a.getD i [])^a.getD j []) m<=m/\∀i,i<=m->A9 (a.getD i [])^a.getD (argBest (λi j=>A9 (a.getD i [])^a.getD j []) m) []=r_
 |0=>#[Re _,λi b=>by
  have:i=0:=by lk
  subst this;exact CS _]
 | m+1=>by
  let#[f,d]:=Kt a m;unfold argBest
  by_cases c:A9 (a.getD (m+1) [])^a.getD (argBest (λi j=>A9 (a.getD i [])^a.getD j []) m) []=q_
  .rw[if_pos c]
   refine#[Re _,λi b=>?_]
   by_cases e:i=m+1
   .subst e;exact CS _
   .cases z:A9 (a.getD i [])^a.getD (m+1) [] with
    |false=>rfl
    |true=>
     have:=B_ _ _ _ z c
     rw[d i^by lk]at this;cases this
  grind
section
variable {X:Cx}
def Yf(K:Frag):s_ V->Hp->VK->Prop:=λc H Q=>∃(p:Db) (b:s_ V) (a:s_^s_ Key),c=[.ref p]/\SqL K H p b/\0<b.length/\KeysAt K H b a /\
 ∀j v,b[j]?=P3 v->(∀i,i<b.length->A9 (a.getD i [])^a.getD j []=r_)->Q v H
def Ti{k:Nat}(U:Room k X.A):De X (.builtin "min")^Yf X.K:=by
 intro zH s Z H V us Q I r h;let#[p,vs,c,rfl,hq,hn,B,q]:=h;let#[u,rfl,rx]:=vals1 r;cases rx;let#[f,E,pl,hz]:=I.list hq;have W:=E.length;have Y:=B.tups I E λb o e=>e;have hu:=U.un;refine min_list (λi j=>A9 (c.getD i [])^c.getD j []) U.hd pl.isList (by rw[f_];lk) (λi j vi vj s' Q' E' d G J L=>?_) λv h' M N d=>?_
 .have C:i<c.length:=by rw[←B.len,W];have:=(kL.mp G).1;simpa using this
  have l:j<c.length:=by rw[←B.len,W];have:=(kL.mp J).1;simpa using this
  let#[a,#[a2,dd,a0,sl],V,n,m,D,e3,e4,e5]:=Y.at_ i c[i] (On C);let#[a',#[a1,O,P,R],S,n',g,t,w,y,T]:=Y.at_ j c[j] (On l);simp only at e3 e4 w y;subst e3 e4 w y;have m:f.toArray[i]?=P3^.ref a:=by rw[←m];simp
  have g:f.toArray[j]?=P3^.ref a':=by rw[←g];simp
  rw[m]at G;rw[g]at J;cases G;cases J;have z:=B.same _ (gn C) _^gn l;have g1:c.getD i []=c[i]:=by rw[gp,On C];rfl
  have g2:c.getD j []=c[j]:=by rw[gp,On l];rfl
  simp only[g1,g2]at L;rw[←Gx _ _ z]at L
  exact richCompare_meets_room (op:=.Lt) #[_,d _ _ D,rfl] #[_,d _ _ t,rfl] PySem.F.slot_tuple_lt PySem.F.entry_tuple_lt (PySem.F.args_tuple_lt_2 _ _) (Fp a a' V S n n' dd O sl R c[i] c[j] e5 T z)
   #[d _ _ D,d _ _ t,show lF (Fn c[i] c[j])≠Value.notImplemented/\Q' (.bool (Fn c[i] c[j])) s' from#[(λx=>nomatch x),L]] (by show X.A.units+1<cLine;lk)
 .let#[b1,b2]:=Kt c (f.toArray.size - 1)
  rw[f_]at N b1 b2;have l:argBest (λi j=>A9 (c.getD i [])^c.getD j []) (f.length - 1)<vs.length:=by lk
  let#[u,m,ru]:=E.get^On l;have D:f.toArray[argBest (λi j=>A9 (c.getD i [])^c.getD j []) (f.length - 1)]?=P3 u:=by rw[←m];simp
  rw[D]at N;cases N;exact#[_,H,I.kept (t':=M) d,ru,q _ _ (On l) λi C=>b2 i^by lk]
end
end L2
namespace Dp
open L2
def Yp(d:s_ D)(P:D->Prop):Prop:=∃a,d=[.lst a]/\0<a.length/\Keyed Ct a/\∀x∈a,(∀y∈a,∀b c,Ct x=P3 b->Ct y=P3 c->A9 c b=r_)->P x
def aR{K:Frag}:Eg K .sh (Yf K) Yp:=by
 intro U M H D E P Q p F r w q;let#[e,rfl,G,l,w]:=w;let#[v,rfl,s]:=Fx r;let#[a,t,rfl,_,u,f]:=s;let#[b,x,g]:=Fc l.1;have c:=f.length;refine#[a,t,b,rfl,.inl u,by lk,Hk (λd k v _=>Hm) f l x g,λj v m z=>?_];have h:j<e.length:=by rw[←c];exact(gC.mp m).1
 let#[I,n,A]:=f.get^On h;rw[m]at n;cases n;refine q v H e[j] .refl A (w _ (gn h) λy B J L ex N=>?_);let#[i,o]:=j9.mp B;have C:i<e.length:=(gC.mp o).1;let#[O,R,S,_]:=g i y o;let#[T,V,W,_]:=g j e[j] (On h)
 grind
end Dp
namespace Nt
open L2 Dp
theorem Lr{c i:Type}{f:c->i}:∀{l:s_ c},l.Nodup->(∀a∈l,∀b∈l,f a=f b->a=b)->(l.map f).Nodup
 |[],_,_=>gl
 |a::l,h,d=>by
  rw[gX]at h;rw[g9,gX];refine#[λj=>?_,Lr h.2 λx k y m=>d x (TM _ k) y^TM _ m];let#[b,g,e]:=Tk.mp j;exact h.1 (d a Op b (TM _ g) e.symm▸g)
def Xh{f m j k:Nat}{M:Nat}(d:m<=M)(g:j<m)(i:k<m)(e:(f+j) % M=(f+k) % M):j=k:=by
 have h:∀a b,a<=b->b<m->(f+a) % M=(f+b) % M->a=b:=λa b c l e=>by
  have:=Nat.sub_mod_eq_zero_of_mod_eq e.symm
  rw[Nat.mod_eq_of_lt^by lk]at this;lk
 rcases Nat.le_total j k with c|c
 .grind
 grind
def PC(a:s_ Str):Qn^a.map .str=P3 a:=by
 induction a with
 |nil=>rfl
 |cons y r b=>
  rw[g9];unfold Qn
  grind
theorem Ls{b:BW}{g:Aa}{l:E2}{all:s_ D}(I:s_ D->Nat->s_ Slot->Prop)(i:∀n c,I all n c->l.nx n c)
  (f:∀(a:s_ D) (d:D) (j:s_ D) (n:Nat) (c:s_ Slot) (nx:Nat->s_ Slot->Prop),all=a++d::j->I a n c->(∀m o,I (a++[d]) m o->nx m o)->b d c λp=>g {l with nx:=nx,ct:=nx,bk:=l.nx} n p):
  ∀(k a:s_ D) (n:Nat) (c:s_ Slot),all=a++k->I a n c->A0 b g l k n c
 |[],a,n,c,e,h=>by
  rw[gK]at e;subst e;exact i n c h
 |d::k,a,n,c,e,h=>f _ d k n c _ e h λm o q=>Ls I i f k _ m _ (by grind) q
def XA{c:Int}{n:Nat}{a b:s_ D}{d:D}(h:EA c n=a++d::b):d=.int (c+(a.length:Int))/\a.length<n:=by
 have f:=congrArg jy h;rw[Gm]at f;have e:(EA c n)[a.length]?=P3 d:=by grind
 unfold EA at e
 simp_all
structure Ax where
 a:Str
 b:Str
 len:Int
structure Net where
 ps:List Str
 ts:List Ax
def Ad(t:Ax):D:=.tup [.str t.a,.str t.b,.int t.len]
def enc(N:Net):D:=.tup [.tup^N.ps.map .str,.tup^N.ts.map Ad]
def Bx(s t:Ax):Prop:=cs s.a<cs t.a\/(s.a=t.a/\cs s.b<cs t.b)
structure Net.Ok (N:Net):Prop where
 names:∀x∈N.ps,Yl x
 rise:rising N.ps
 tin:∀t∈N.ts,t.a∈N.ps/\t.b∈N.ps/\cs t.a<cs t.b/\1<=t.len/\t.len<=1000000
 trise:N.ts.Pairwise Bx
structure Ix where
 i:Nat
 j:Nat
 len:Int
def Do(c:s_ Ax)(p:Str):s_ (Str×Int):=c.flatMap λt=>(if t.a=p then [(t.b,t.len)]else [])++(if t.b=p then [(t.a,t.len)]else [])
def Wn(a:s_ Ax)(p:Str):D:=.fdi ((Do a p).map λx=>.inr x.1)^(Do a p).map λx=>.int x.2
def Ep(N:Net):D:=.dic (N.ps.map .inr)^N.ps.map^Wn N.ts
def Nq:W2:=λa n P=>∃N:Net,a=[.sh^enc N]/\N.Ok/\N.ps.length<=1000/\N.ts.length<=1000/\P (Ep N) n
def kv(x:Str×Int):Key×V:=(.inr x.1,.int x.2)
structure Stp (H:Hp) (d:Db) (as:List (Str×Db)) (tb:Str->List (Key×V)) (H':Hp):Prop where
 old:∀b o,H b=P3 o->H' b=P3 o
 new:H d=p_
 top:H' d=P3 (.dK^as.map λx=>(.inr x.1,.ref x.2))
 inn:∀x∈as,H x.2=p_/\x.2≠d/\H' x.2=P3 (.dK^tb x.1)
 ads:(as.map (·.2)).Nodup
 nms:(as.map (·.1)).Nodup
def Iw{b:s_ (Str×Db)}(c:(b.map (·.1)).Nodup){p:Str}{a:Db}(h:(p,a)∈b):C2 (b.map λx=>((.inr x.1:Key),V.ref x.2))^.inr p=P3^.ref a:=by
 induction b with
 |nil=>cases h
 | cons x r d=>
  rw[g9,gX]at c
  rcases T0.mp h with e|h
  .rw[←e]
   exact D6 rfl
  .exact(D7 λe=>c.1^by rw[jA e];exact Tk.mpr #[_,h,rfl]).trans^d c.2 h
def QC{a:s_ (Str×Db)}{p:Str}{v:V}(h:p∉a.map (·.1)):putK (a.map λx=>((.inr x.1:Key),V.ref x.2)) (.inr p) v=(a.map λx=>((.inr x.1:Key),V.ref x.2))++[(.inr p,v)]:=by
 unfold putK
 simp_all
def RN{a:s_ (Str×Int)}{p:Str}{l:Int}(h:p∉a.map (·.1)):putK (a.map kv) (.inr p)^.int l=(a++[(p,l)]).map kv:=by
 unfold putK;rw[if_neg,gU]
 .rfl
 .rw[i8]
  rintro⟨y,b,e⟩;let#[x,c,rfl]:=Tk.mp b;exact h^Tk.mpr #[x,c,jA^of_decide_eq_true e]
def Stp.more{H m:Hp}{d q:Db}{l:s_ (Str×Db)}{n:Str->s_ (Key×V)}{p:Str}(s:Stp H d l n m)(i:m q=p_)(v:p∉l.map (·.1))(A:n p=[]):
  Stp H d (l++[(p,q)]) n (A5 (A5 m q^.dK []) d^.dK^putK (l.map λx=>((.inr x.1:Key),V.ref x.2)) (.inr p)^.ref q):=by
 have w:q≠d:=λe=>by rw[e,s.top]at i;cases i
 have k:H q=p_:=by
  cases c:H q with
  |none=>rfl
  |some o=>rw[s.old q o c]at i;cases i
 exists λb o e=>?_,s.new,?_,λx f=>?_,?_
 .have B:b≠d:=λz=>by rw[z,s.new]at e;cases e
  have r:b≠q:=λz=>by rw[z,k]at e;cases e
  rw[AS B,AS r];exact s.old b o e
 .rw[Af,QC v,gU];rfl
 .rcases eq.mp f with f|f
  .let#[y,t,j]:=s.inn x f
   have r:x.2≠q:=λz=>by rw[z,i]at j;cases j
   exact#[y,t,by rw[AS t,AS r];exact j]
  .rw[Sc.mp f]
   exact#[k,w,by rw[AS w,Af,A]]
 .rw[gU,gm]
  refine#[s.ads,gX.mpr #[(λh=>by cases h),gl],λa u b g e=>?_];let#[x,f,rfl]:=Tk.mp u;have g:b=q:=Sc.mp g;let#[y,t,j]:=s.inn x f;rw[e,g,i]at j;cases j
 .rw[gU,gm]
  refine#[s.nms,gX.mpr #[(λh=>by cases h),gl],λa u b g e=>?_];have g:b=p:=Sc.mp g;exact v^by rw[←g,←e];exact u
def S3{c:s_ (Str×Db)}(d:(c.map (·.1)).Nodup){p:Str}{a b:Db}(e:(p,a)∈c)(f:(p,b)∈c):a=b:=by
 have:=(Iw d e).symm.trans^Iw d f
 grind
def S2{b:s_ (Str×Db)}(c:(b.map (·.2)).Nodup){p q:Str}{a:Db}(e:(p,a)∈b)(f:(q,a)∈b):p=q:=by
 induction b with
 |nil=>cases e
 | cons x r i=>
  rw[g9,gX]at c
  rcases T0.mp e with j|g
  .rcases T0.mp f with h|d
   .grind
   .exact absurd (Tk.mpr #[_,d,by rw[←j]]) c.1
  .rcases T0.mp f with h|d
   .exact absurd (Tk.mpr #[_,g,by rw[←h]]) c.1
   .exact i c.2 g d
def Stp.put{H g:Hp}{d a:Db}{c:s_ (Str×Db)}{h tb2:Str->s_ (Key×V)}{p:Str}{kvs:s_ (Key×V)}(s:Stp H d c h g)(f:(p,a)∈c)(i:tb2 p=kvs)(j:∀q,q≠p->tb2 q=h q):
  Stp H d c tb2 (A5 g a^.dK kvs):=by
 let#[u,k,v]:=s.inn _ f;refine#[λb o e=>?_,s.new,?_,λx l=>?_,s.ads,s.nms]
 .have m:b≠a:=λz=>by grind
  rw[AS m];exact s.old b o e
 .rw[AS^g0 k]
  exact s.top
 .let#[n,r,t]:=s.inn x l
  exists n,r
  by_cases e:x.2=a
  .have:=S2 s.ads (show(x.1,a)∈c by grind) f
   rw[e,Af,this,i]
  .have:x.1≠p:=λz=>e^S3 s.nms (show(p,x.2)∈c by grind) f
   rw[AS e,j _ this];exact t
def Oc(c:s_ Ax)(t:Ax)(p:Str):Do (c++[t]) p=Do c p++((if t.a=p then [(t.b,t.len)]else [])++(if t.b=p then [(t.a,t.len)]else [])):=by
 unfold Do
 simp_all
def M9{d:s_ Ax}{p q:Str}(h:q∈(Do d p).map (·.1)):∃t∈d,(t.a=p/\t.b=q)\/(t.b=p/\t.a=q):=by
 let#[x,c,rfl]:=Tk.mp h;let#[t,e,c]:=jj.mp c;exists t,e
 rcases eq.mp c with c|c
 .simp_all
 simp_all
def Rb(c:s_ Ax)(p:Str):(Do c p).length<=2*c.length:=by
 induction c with
 |nil=>exact f8 _
 |cons t r d=>
  unfold Do at d ⊢;rw[List.flatMap_cons,XV,XV];have e:(if t.a=p then [(t.b,t.len)]else []).length<=1:=by grind
  grind
def V3{d:s_ Ax}{t:Ax}(i:(d++[t]).Pairwise Bx)(f:∀s∈d++[t],cs s.a<cs s.b):t.b∉(Do d t.a).map (·.1)/\t.a∉(Do d t.b).map (·.1):=by
 rw[List.pairwise_append]at i
 have g:∀s∈d,¬((s.a=t.a/\s.b=t.b)\/(s.b=t.a/\s.a=t.b)):=λs c e=>by
  have j:=i.2.2 s c t (Sc.mpr rfl);have m:=f s^gQ _ c;have n:=f t^gA _ (Sc.mpr rfl)
  rcases e with⟨k,l⟩|⟨k,l⟩
  .unfold Bx at j
   grind
  grind
 refine#[λh=>?_,λh=>?_]
 .let#[s,c,e]:=M9 h
  exact g s c e
 .let#[s,c,e]:=M9 h
  exact g s c^e.elim (λz=>.inr #[z.2,z.1]) λz=>.inl #[z.2,z.1]
def Mi{c:s_ Str}(h:rising c):c.Nodup:=h.imp λ{a b} d e=>by grind
def QN{a:s_ Str}(h:a.Nodup){i:Nat}(c:i<a.length):a[i]∉a.take i:=by
 have e:a=a.take i++a[i]::a.drop (i+1):=by
  simp_all
 intro b;rw[e,gm]at h;exact h.2.2 _ b _ Op rfl
def Stp.at_{K:Frag}{M:Db->Prop}{H q:Hp}{d:Db}{c:s_ (Str×Db)}{N:Net}(t:∀a,M a->∃o,H a=P3 o)(s:Stp H d c (λp=>(Do N.ts p).map kv) q)(u:c.map (·.1)=N.ps)(f:Db->Obj):At K M (GF q (c.map (·.2)) f) (Ep N)^.ref d:=by
 have v:∀b,H b=p_->¬M b:=λb e m=>by let#[o,h]:=t b m;rw[h]at e;cases e
 have i:∀c:s_ (Str×Db),(c.map λx=>((.inr x.1:Key),V.ref x.2))=((c.map (·.1)).map (.inr:Str->Key)).zip (c.map λx=>V.ref x.2):=λc=>by
  grind
 refine#[d,c.map λx=>.ref x.2,rfl,#[v d s.new,by rw[ED (λw=>by let#[x,j,e]:=Tk.mp w;exact(s.inn x j).2.1 e),s.top,i,u]],by rw[No,No],?_];rw[←u]
 have z:∀k:s_ (Str×Db),(∀x∈k,x∈c)->Ats K M (GF q (c.map (·.2)) f) ((k.map (·.1)).map^Wn N.ts) (k.map λx=>V.ref x.2):=λk=>by
  induction k with
  |nil=>intro _;rfl
  | cons x r l=>
   intro j;refine#[.ref x.2,r.map λx=>V.ref x.2,rfl,?_,l λy A=>j y^TM _ A];let#[B,D,C]:=s.inn x^j x Op
   have n:∀g:s_ (Str×Int),g.map kv=(g.map λx=>(.inr x.1:Key)).zip (g.map λx=>V.int x.2):=λg=>by
    induction g with
    |nil=>rfl
    |cons x r l=>rw[g9,l];rfl
   refine#[x.2,(Do N.ts x.1).map λx=>V.int x.2,rfl,#[f x.2,v _ B,by rw[Ro (Tk.mpr #[x,j x Op,rfl]) C,n]],by rw[No,No],?_];generalize Do N.ts x.1=g
   induction g with
   |nil=>rfl
   |cons x r l=>exact#[.int x.2,_,rfl,rfl,l]
 exact z c λ_ h=>h
end Nt
namespace L2
def fE(d:Db)(o:Obj)(a:s_ (Key×V)):It:=
 #[λi H=>H d=P3^.frz o^.dK a/\i<a.length,λi H x b=>∃T p,x=.ref T/\H T=p_/\a[i]?=P3 p/\b=A5 H T^.tup [kV p.1,p.2],λi H=>H d=P3^.frz o^.dK a/\a.length<=i]
def Z2{P:gN}{w:gY}{k:Key}{u:Ev}(h:(BU P w).is k u=q_):RelV (kV k) u:=by
 rcases Be h with⟨i,t,rfl,rfl⟩|⟨x,t,rfl,rfl⟩
 .exact#[t,rfl]
 .exact#[t,rfl]
def NP{X:Cx}{j:s_ (Db×Obj)}{Z:L2.St}{H:Hp}{s:Go}{d:Db}{o:Obj}{a:s_ (Key×V)}{c:Array DictEntry}{e:Nat}(I:Inv X j Z H s)(h:H d=P3^.frz o^.dK a)(hd:o.data=.dict c e):
  ∃b,KV a b/\s.heap.DictAt (BU X.prog X.w) d b e:=by
 let#[f,_,_,b,k,q,l,m,g,n,i,p]:=(I.hok d _ h);rw[f]at g;cases g;rw[hd]at i;cases i;exact#[b,k,o,c,f,n,hd,p]
def Ps{P:gN}{w:gY}{K:Frag}{J:s_ gZ}{j:Nat}{pos:Pos}(d it:Db)(o:Obj)(f:s_ (Key×V))(es:Array DictEntry)(Y:Nat)(l:o.data=.dict es Y):
  Turn P w K (.Tuple J j pos) (fE d o f) [it] it (λi h=>∃ok m,IsItemIter h it d i f.length Y ok m) where
 mem:=by simp
 obj:=λi h #[ok,m,b] c a=>by
  rw[Sc.mp a];exact#[_,b,λv q=>by cases q]
 keep:=λi h h' #[ok,m,b] k=>#[ok,m,k it (by simp) _ b]
 item:=by
  intro X L M N a i zH s Z H E I B b O;subst L M N;let#[R,hi]:=O;let#[ok,m,b]:=b;let#[C,F,D]:=NP I R l
  have G:=F.length;have S:i<C.length:=by lk
  rw[G]at b;obtain⟨k,v,T⟩:∃k v,C[i]=(k,v):=#[_,_,rfl];have hx:C[i]?=P3 (k,v):=by rw[On S,T]
  have hp:f[i]?=P3 f[i]:=On hi;let#[U,rv]:=OT F hp hx;have U:f[i].1=k:=U;refine wpAny_pyNext_items_item b D hx λn h' p r t a0 u=>#[_,rfl,?_];refine wpAny_letOwnedTupleGo_items r λh2 x g=>?_;have hT:H s.heap.objs.size=p_:=I.hok.fresh^Re _;have y:s.heap.objs.size≠it:=jC^Uf b
  have kk:∀c o,c∉[it]->s.heap.get? c=P3 o->h2.get? c=P3 o:=λc o a e=>by
   have a:c≠it:=λz=>a (by rw[z];exact Sc.mpr rfl);exact(g.2 c a).trans^u c o a e
  have I2:Inv X zH Z (A5 H s.heap.objs.size^.tup [kV f[i].1,f[i].2]) {s with heap:=h2}:=by
   refine I.turnLaid (t':=s.toks) (ch:=[it]) (λc a=>B c a) kk (Re _) ?_;exact#[by show 2<=sizeLine;decide,[n,v],.cons (Z2^by rw[U];exact p)^.cons rv .nil,#[_,(g.2 _ y).trans t,rfl,_,rfl,rfl,rfl]]
  refine#[.ref s.heap.objs.size,_,I2,rfl,#[_,_,rfl,hT,hp,rfl],#[n,v,by rw[G];exact x],λc a=>?_];rw[Sc.mp a,AS^g0 y];exact(B it^by simp).1
 done:=by
  intro X L M N a i zH s Z H E I B b O;subst L M N;let#[R,hi]:=O;let#[ok,m,b]:=b;let#[C,F,D]:=NP I R l
  have G:=F.length;rw[G]at b;refine wpAny_pyNext_items_end (I.ok.hd a) b D (lC^by lk) λh' ext=>#[rfl,?_];exact I.turnedL (t':=s.toks) (ch:=[it]) (λc a=>B c a) λc o a e=>ext c o (λz=>a^by rw[z];exact Sc.mpr rfl) e
 self:=λA i s Q E #[ok,m,b] h=>PySem.W.kcp_self b h
def Z8(c:TE):TI:=λZ H R=>c Z H λx b=>∃d o a,x=.ref d/\b d=P3^.frz o^.dK a/\∀r,b r=p_->R (fE d o a)^A5 b r^.ext λh=>h.IsItemsView r d
def VF{X:Cx}{e:gZ}{z:s_ gZ}{j:Nat}{p g i:Pos}{G:TE}(P:PE X e G)(m:attributeBase e "items" X.env^eval e X.env=eval e X.env:=by rfl)(n:(g.endLine==i.line)=q_:=by rfl):
  PI X (.Tuple z j p) (.Call (.Attribute e "items" g) [] [] i) (Z8 G):=by
 intro J s Z H R I h;refine wpAny_Call_method0_late m n^thn (P J s Z H _ I h) λv a #[x,u,r,Q,d,o,f,ex,t,q]=>?_;subst ex;cases Q;let#[K,L,S]:=Vo r^.inl #[f,.inr #[o,t]];let#[_,_,M,T,D]:=Ib r.hok^.inr #[o,t];refine#["dict","dict.items",PySem.F.plainAttrs_dict,PySem.F.slot_dict_items,PySem.F.type_dict_items,K,L,kn rfl (PySem.evalArgs_none ?_)];refine call_meetsIn PySem.F.slot_dict_items D.typeIs PySem.F.entry_dict_items (PySem.F.args_dict_items_1 _) (meets_dict_items (BU X.prog X.w) d S) #[#[M,D],?_];have N:u a.heap.objs.size=p_:=r.fresh;have O:(a.heap.push {cls:=.type "dict_items",data:=.fields #[ .ref d]}).IsItemsView a.heap.objs.size d:=#[_,UF _ rfl,rfl,rfl]
 have y:Inv X J Z (A5 u a.heap.objs.size^.ext λh=>h.IsItemsView a.heap.objs.size d) {a with heap:=a.heap.push {cls:=.type "dict_items",data:=.fields #[ .ref d]}}:=
  r.laid (t':=a.toks) (λb o e=>FM _ e) (Re _) #[O,#[_,UF _ rfl],λK L #[o,e,c] k=>#[o,k o e,c]]
 have A:(A5 u a.heap.objs.size^.ext λh=>h.IsItemsView a.heap.objs.size d) d=P3^.frz o^.dK f:=by rw[AS^A6 t N];exact t
 obtain⟨B,C,l⟩:∃B C,o.data=.dict B C:=by
  let#[e0,_,_,M,T,o',U,V,e1,e2,e3,e4]:=(show ObjOk X.prog X.w u a.heap d^.frz o^.dK f from r.hok d _ t)
  grind
 let#[W,E,Y]:=NP y A l
 have hl:=E.length;refine wpAny_pyIter_items (s:={a with heap:=a.heap.push {cls:=.type "dict_items",data:=.fields #[ .ref d]}}) O Y ?_;refine#[_,[(a.heap.push {cls:=.type "dict_items",data:=.fields #[ .ref d]}).objs.size],_,fE d o f,_,rfl,y.kept (t':=a.toks) λb o e=>FM _ e,Ps d _ o f B C l,#[.none,.none,by rw[hl];exact UF _ rfl],λc hc=>?_,q _ N];rw[Sc.mp hc];exact y.fpOk (Re _) y.fresh
end L2
namespace Dp
open L2
def wItems(c:DW):Ef:=λn e P=>c n e λd f=>∃a b,d=.fdi a b/\(∀k∈a,Rj k)/\P (Ds (a.map av) b) f
def Z3(k:Key):kV k=kOf k:=by cases k <;>rfl
section
variable {X:Cx}{a:Expr}{zS:Kd}{wa:DW}{els:s_ Expr}{j:Nat}{tpos apos cpos:Pos}
def WC(V:DE X a zS wa)(c:attributeBase a "items" X.env^eval a X.env=eval a X.env:=by rfl)(f:(apos.endLine==cpos.line)=q_:=by rfl):DI X (.Tuple els j tpos) (.Call (.Attribute a "items" apos) [] [] cpos)^wItems wa:=by
 let#[t,W,Y]:=V;refine#[_,VF W c f,λC M H n ρ Z P Rr R w q=>?_];refine Y C M H n ρ Z _ _ R w λv l d n1 I J r1 p=>?_;let#[b,m,rfl,s,p]:=p;have R1:=R.step I J;obtain⟨D,k,rfl,⟨o,nM,L⟩,N,O⟩:∃a k,v=.ref a/\NdF M l a b k/\b.length=m.length/\Ats X.K M l m k:=r1.tpOf R.dom R.vM;have hl:=O.length;refine#[D,o,_,rfl,L,λr hr=>?_];have g:Grow l (A5 l r^.ext λh=>h.IsItemsView r D):=A1 hr;refine q _ _ _ n1 (I.trans g.ext) (J.grow g) (λi Q E pr F=>?_) p;have u:Pres M l Q E:=g.pres.trans pr;have z:E D=P3^.frz o^.dK^b.zip k:=(u.nd nM L).2;have zl:(b.zip k).length=b.length:=by rw[lO];lk
 have zd:(Ds (b.map av) m).length=b.length:=by unfold Ds;rw[lY,No];lk
 refine#[λe B=>?_,λa0=>#[z,by lk]];have G:i<b.length:=by rw[←zd];exact(gC.mp B).1
 have A:i<m.length:=by lk
 refine#[#[z,by lk],λx H2 y=>?_];let#[T,pp,rfl,S,U,rfl]:=y;let#[v',e1,h1]:=(O.pres u).get^On A
 have e2:(b.zip k)[i]?=P3 (b[i],v'):=by
  rw[List.getElem?_zip_eq_some];exact#[On G,e1]
 rw[e2]at U;cases U
 have e3:e=.tup [av b[i],m[i]]:=by
  unfold Ds at B;rw[lB,gM,On G,On A]at B;exact(gH B).symm
 subst e3;refine#[A1 S,Ce F S #[_,_,rfl,?_,_,_,rfl,h1,rfl]];show At X.K Q E (av b[i]) (kV b[i]);rw[Z3];exact aJ^s _^gn G
end
section
variable {K:Frag}{C:Fm}{M:Addr->Prop}{H:Hp}{n:Nat}{ρ:s_ Slot}{Z:L2.St}
def Rel.hold(R:Rel K C M H n ρ Z){p:Db}{o:HO}(h:H p=p_):Rel K C (λb=>M b\/b=p) (A5 H p o) n ρ Z:=by
 have g:Grow H^A5 H p o:=A1 h;have j:Pres M H _^A5 H p o:=GG h;refine#[R.len,λa z=>.inl^R.sub a z,λa z=>?_,R.ext.trans g.ext,R.fU,R.uV,λa z=>.inl^R.vM a z,(R.feed.grow g).more p λf k q=>?_,λi s q=>(R.sl i s q).pres j (λ_ z=>.inl z) g.ext R.uV,λq c=>(R.pin q c).trans j,R.br0,R.new,R.two,λq c=>?_]
 .rcases z with z|z
  .let#[u,d]:=R.dom a z
   exact#[u,g.all a u d]
  .rw[z];exact#[o,Af]
 .let#[_,_,_,_,_,e,_]:=R.feed f k
  have:=e.2
  grind
 .let#[d,l,e,m]:=R.kept q c
  exact#[g.all _ _ d,.inl l,e,m]
end
def Ka(a:s_ Key)(k:Key):Bool:=a.any λb=>decide (b=k)
def hasK_iff{a:s_ Key}{k:Key}:Ka a k=q_↔k∈a:=by
 unfold Ka
 simp_all
def C3(a:s_ Key)(k:Key):s_ Key:=if Ka a k=q_ then a else a++[k]
def C_{a:Type}(b:s_ Key)(c:s_ a)(k:Key)(d:a):s_ a:=if Ka b k=q_ then i6 (λe f=>if e=k then d else f) b c else c++[d]
def YI{c:s_ Key}{d:s_ V}(j:c.length=d.length)(k:Key):((c.zip d).any λf=>decide (f.1=k))=Ka c k:=by
 rw[iK,i8,hasK_iff];constructor
 .rintro⟨⟨a,b⟩,g,e⟩
  have e:=of_decide_eq_true e;rw[←e];exact(jr g).1
 .intro h
  let#[i,l,e]:=kH.mp h;exact#[(c[i],d[i]'(by lk)),kH.mpr #[i,by grind,by grind],by grind]
def U7{c:s_ Key}{d:s_ V}(f:c.length=d.length)(k:Key)(v:V):putK (c.zip d) k v=(C3 c k).zip^C_ c d k v:=by
 unfold putK C3 C_;rw[YI f]
 by_cases h:Ka c k=q_
 .have l:∀(c:s_ _) (d:s_ V),((c.zip d).map λe=>if e.1=k then(e.1,v)else e)=c.zip^i6 (λg i=>if g=k then v else i) c d:=by
   intro c
   induction c with
   |nil=>intro d;rfl
   | cons a c j=>
    intro d;cases d with
    |nil=>rfl
    |cons b d=>
     show(if a=k then(a,v)else(a,b))::_=(a,if a=k then v else b)::_;exact mR.mpr #[by split <;>rfl,j d]
  simp_all
 .rw[if_neg h,if_neg h,if_neg h,List.zip_append f]
  rfl
theorem Ats.put{K:Frag}{M:Db->Prop}{H:Hp}{k:Key}{d:D}{v:V}(hd:At K M H d v):∀{c:s_ Key}{f:s_ D}{b:s_ V},Ats K M H f b->Ats K M H (i6 (λg i=>if g=k then d else i) c f)^i6 (λg i=>if g=k then v else i) c b
 |[],f,b,h=>rfl
 |a::c,[],b,h=>by cases(h);rfl
 |a::c,e::f,b,h=>by
  let#[u,r,rfl,l,j]:=h;refine#[_,_,rfl,?_,Ats.put hd j]
  grind
def Ats.putX{K:Frag}{M:Db->Prop}{H:Hp}{k:Key}{d:D}{v:V}{a:s_ Key}{b:s_ D}{c:s_ V}(hd:At K M H d v)(h:Ats K M H b c):Ats K M H (C_ a b k d)^C_ a c k v:=by
 unfold C_
 split
 .exact Ats.put hd h
 .exact h.append^Ats.one hd
def RM{b:Type}{a:s_ Key}{c:s_ b}{k:Key}{d:b}(e:a.length=c.length):(C3 a k).length=(C_ a c k d).length:=by
 unfold C3 C_
 grind
theorem Lg:∀{b:s_ Key}{ds:s_ D}{k:Key},k∉b->Bo b ds k=p_
 |[],ds,k,_=>by rfl
 |a::b,[],k,_=>rfl
 |a::b,d::ds,k,h=>by
  unfold Bo;rw[if_neg λe=>h^by grind];exact Lg λz=>h^TM _ z
theorem Lf:∀{b:s_ Key}{c:s_ D}{k:Key},b.length=c.length->k∈b->∃z,Bo b c k=P3 z
 |[],c,k,_,h=>by cases h
 |a::b,[],k,h,_=>by cases h
 | a::b,d::c,k,f,h=>by
  unfold Bo
  by_cases e:a=k
  .simp_all
  .rw[if_neg e]
   exact Lf (by simp_all)^(T0.mp h).resolve_left λz=>e z.symm
def UL{b:s_ Key}{c:s_ D}{k:Key}{d:D}(g:b.length=c.length)(j:Key):Bo (C3 b k) (C_ b c k d) j=if j=k then P3 d else Bo b c j:=by
 unfold C3 C_
 by_cases i:Ka b k=q_
 .have h:=hasK_iff.mp i
  rw[if_pos i,if_pos i]
  have n:∀(b:s_ Key) (c:s_ D),b.length=c.length->(j=k->k∈b)->Bo b (i6 (λp q=>if p=k then d else q) b c) j=if j=k then P3 d else Bo b c j:=by
   intro b
   induction b with
   |nil=>
    intro c _ l
    by_cases e:j=k
    .exact absurd (l e) gJ
    .rw[if_neg e];cases c <;>rfl
   | cons a b o=>
    intro c g l;cases c with
    |nil=>cases g
    | cons e c=>
     show(if a=j then P3 (if a=k then d else e)else Bo b _ j)=if j=k then P3 d else if a=j then P3 e else Bo b c j
     by_cases f:a=j
     .rw[if_pos f,if_pos f]
      by_cases m:j=k
      .rw[if_pos m,if_pos^f.trans m]
      .rw[if_neg m,if_neg λz=>m^f.symm.trans z]
     .rw[if_neg f,if_neg f]
      refine o c (by simpa using g) λz=>(T0.mp^l z).resolve_left λw=>f^w.symm.trans z.symm
  exact n b c g λ_=>h
 .have h:k∉b:=λz=>i^hasK_iff.mpr z
  rw[if_neg i,if_neg i]
  have n:∀(b:s_ Key) (c:s_ D),b.length=c.length->k∉b->Bo (b++[k]) (c++[d]) j=if j=k then P3 d else Bo b c j:=by
   intro b
   induction b with
   | nil=>
    intro c g _;cases c with
    |nil=>
     show(if k=j then P3 d else p_)=if j=k then P3 d else p_
     by_cases e:j=k
     .rw[if_pos e,if_pos e.symm]
     .rw[if_neg e,if_neg λz=>e z.symm]
    |cons e c=>cases g
   | cons a b o=>
    intro c g l;cases c with
    |nil=>cases g
    |cons e c=>
     show(if a=j then P3 e else Bo (b++[k]) (c++[d]) j)=if j=k then P3 d else if a=j then P3 e else Bo b c j
     rw[o c (by simpa using g) λz=>l^TM _ z]
     by_cases f:a=j
     .rw[if_pos f,if_pos f,if_neg λz=>l^by rw[←z,←f];exact Op]
     .rw[if_neg f,if_neg f]
  exact n b c g h
section
variable {X:Cx}{a b e:Expr}{κ zS zO:Kd}{wa wb:DW}{pos pos':Pos}
def Pm(wk f:DW):DW:=λn e P=>wk n e λk g=>f g e λd h=>∃c,keyOf k=P3 c/\P (.dic [c] [d]) h
def Ow(J:DE X a zS wa)(L:DE X b zO wb)(N:zO≠.tp:=by intro z;cases z):DE X (.Dict [P3 a] [b] pos) .fr^Pm wa wb:=by
 let#[t,O,S]:=J;let#[u,T,V]:=L;refine#[_,XX (VB O T XJ) rfl rfl (i9 _ _) (by show 1<=15;decide),λC M H n E Z P Q R w q=>λp i=>?_];have j:=R.hold (o:=.dK []) i
 have r:¬C.U p:=λz=>by
  let#[o,w]:=R.dom p^R.vM p^R.uV p z;rw[i]at w;cases w
 refine S C _ _ n E Z _ _ j w λx H2 k W s Y r1 p1=>?_;have R2:=j.step s Y;refine V C _ _ W E Z _ _ R2 p1 λy v d n2 A F r2 B=>?_;let#[e,h,B]:=B;have R3:=R2.step A F;have D:At X.K (λb=>M b\/b=p) v d y:=r2.shOf R2.dom N;have g:v p=P3^.dK []:=A.keep (s.keep Af r) r;have hx:x=kV e:=EC h^r1.tpOf j.dom j.vM;refine#[g,[(e,y)],by rw[hx];rfl,by show 1<=15;decide,?_];show Q (.ref p)^A5 v p^.dK [(e,y)];refine q _ _ (.dic [e] [d]) n2 (λb o c=>?_) ?_ #[p,rfl,i,[y],Af,rfl,?_] B
 .have l:b≠p:=A6 c i
  let#[o1,z1,k1,G]:=s b o (by rw[AS l];exact c);let#[o2,z2,k2,t2]:=A b o1 z1;exact#[o2,by rw[AS l];exact z2,λI=>(k2 I).trans^k1 I,λm z=>(t2 m^(G m z).trans z).trans^G m z]
 .refine F.pres #[λb o c l=>by rw[AS λz=>l^.inr z];exact c,λb z=>.inl^.inl z,λb m c=>by rw[AS λz=>by rw[z,g]at c;cases c];exact c] λf o hf c=>?_
  rw[AS λz=>r^by rw[←z];exact R.fU f hf];exact c
 .exact#[y,[],rfl,D.pres^Cz (.inr rfl) g,rfl]
def DN(i:Nat)(wk h:DW):Aa:=λj n e=>∃f g,e[i]?=P3^.ow^.dic f g/\h n e λd l=>wk l e λk m=>∃c,keyOf k=P3 c/\f.length<sizeLine/\j.nx m^e.set i^.ow^.dic (C3 f c)^C_ f g c d
def EV{i k:Nat}{x:gZ}(O:Room k X.A)(hx:PE X x^B6 i)(P:DE X a zS wa)(Q:DE X b zO wb)(S:zO≠.tp:=by intro z;cases z)
  (T:swapsWith b (P3^.Subscript x a pos') pos.line X.env=pure r_:=by rfl):DS X κ (.Assign [.Subscript x a pos'] b pos)^DN i wa wb:=by
 let#[t,U,V]:=P;let#[u,W,Y]:=Q;refine#[_,Gs (IY O) hx U W T,λC M H n D Z D2 E R L w=>?_];let#[l,ds,o,w]:=w;refine Y C M H n D Z _ _ R w λv H1 d n1 e1 f1 r1 p=>?_;have f:=R.step e1 f1;let#[F,q,m,nv,tt]:=f.sl i _ o;exists .ref F,getD_some q;refine V C M H1 n1 D Z _ _ f p λy H2 kk n2 G f2 r2 p=>?_;let#[c,g,a0,p]:=p;have R2:=f.step G f2;let#[a1,h,m',a2,r]:=R2.sl i _ o;rw[q]at h;cases h;let#[I,J,N,j]:=r;have s:At X.K M H2 d v:=(r1.shOf R.dom S).pres^f.pres G;have B:l.length=I.length:=by rw[N,j.length]
 refine#[F,_,rfl,by rw[EC g^r2.tpOf f.dom f.vM];exact DPut.k J (by rw[lO];lk),L.nx M _ n2 _ Z (R2.mut (e:=.dic (C3 l c)^C_ l ds c d) o q #[C_ l I c v,by rw[Af,U7 B],RM N,(j.putX s).pres^Cz m' J]) p]
def bD:D->t_ Bool
 |.lst c=>P3 (!c.isEmpty)
 |.tup c=>P3 (!c.isEmpty)
 |.bl b=>P3 b
 |.non=>P3 r_
 |_=>p_
def Y8(wa:DW):HM:=λn e P=>wa n e λd f=>∃c,bD d=P3 c/\P c f
def MM{K:Frag}{M:Db->Prop}{H:Hp}{c:s_ D}{d:s_ V}(h:Ats K M H c d):d.isEmpty=c.isEmpty:=by
 have:=h.length
 cases d <;>cases c <;>first|rfl|cases this
def ZG{U M:Db->Prop}{H:Hp}{K:Frag}{d:D}{x:V}{c:Bool}(h:AtT K U M H d x)(e:bD d=P3 c):aY K x H c:=by
 cases d with
 |lst j=>cases e;let#[a,f,rfl,_,g,i]:=h;exact .inl #[f,.inl g,by rw[MM i]]
 |tup j=>cases e;let#[a,f,rfl,g,i]:=h;exact .inr^.inl #[f,.inl^.inl g,by rw[MM i]]
 |bl b=>cases e;rw[h.bl];exact rfl
 |non=>cases e;rw[h];exact rfl
 |_=>cases e
def aD(h:DE X e κ wa)(g:∀f,isTrue e X.env f=(do let v ←f;standAt e.pos;holding [v]^truthy v):=by intro _;rfl):DT X e^Y8 wa:=by
 let#[t,i,j]:=h;refine#[_,U8 i g,λC M H n k Z P Q R w q=>?_];refine j C M H n k Z _ _ R w λv l d m o r s p=>?_;let#[c,u,p]:=p;exact#[c,ZG (s.tpOf R.dom R.vM) u,q c l m o r p]
def GI(c:Bool)(d e:D)(P:D->Prop):Prop:=e=.non/\P^.bl (if c then !Vj d else Vj d)
def PJ{K:Frag}:Fo K .sh (λx y H Q=>y=.non/\Q (.bl (decide (x=.non))) H)^GI r_:=λU M H d e x y P Q c h f g w q=>by
 let#[rfl,w]:=w;exact#[g,q _ H _ .refl (by rw[Om f];rfl) w]
def Nc{K:Frag}:Fo K .sh (λx y H Q=>y=.non/\Q (.bl (!decide (x=.non))) H)^GI q_:=λU M H d e x y P Q c h f g w q=>by
 let#[rfl,w]:=w;exact#[g,q _ H _ .refl (by rw[Om f];rfl) w]
variable {apos cpos:Pos}{f:Expr}{κf:Kd}{wf:DW}
def UE(wa wk i:DW):DW:=λn e P=>wa n e λd j=>∃g h,MD d=P3 (g,h)/\wk j e λk l=>i l e λz m=>∃c,keyOf k=P3 c/\P ((Bo g h c).getD z) m
def ZA{U M:Db->Prop}{H:Hp}{K:Frag}{d z:D}{x v:V}{ks:s_ Key}{g:s_ D}{key:Key}(e:MD d=P3 (ks,g))(h:AtT K U M H d x)(l:At K M H z v):∃a o,x=.ref a/\DGet H a (kV key) o/\At K M H ((Bo ks g key).getD z)^o.getD v:=by
 let#[a,m,rfl,i,j]:=Kj e h;exists a,_,rfl,JE i;have h:=GY (k:=key) (ks:=ks) j;cases c:Bo ks g _ with
 |none=>simp_all
 |some y=>rw[c]at h;let#[u,n,p]:=h;grind
def Z6{U M:Db->Prop}{H:Hp}{K:Frag}{d:D}{x:V}{c:s_ Key}{g:s_ D}(e:MD d=P3 (c,g))(h:AtT K U M H d x):∃a,x=.ref a/\fF H a:=by
 let#[a,j,rfl,i,k]:=Kj e h;exact#[a,rfl,.inl #[_,i]]
def YC{k:Nat}(D:Room k X.A)(E:DE X a zS wa)(F:DE X b zO wb)(G:DE X f κf wf)(I:κf≠.tp:=by intro z;cases z)(m:M2 X a "get" apos b f cpos:=by exact#[rfl,rfl,rfl,rfl]):DE X (.Call (.Attribute a "get" apos) [b,f] [] cpos) .sh^UE wa wb wf:=by
 let#[t,J,K]:=E;let#[u,L,N]:=F;let#[u2,O,S]:=G;refine#[_,VL (IY D) J L O m,λC M H n j Z P Q R w q=>?_];refine K C M H n j Z _ _ R w λv T d U r V s p=>?_;let#[ks,ds,x,p]:=p;have e:=R.step r V;let#[W,rfl,Y]:=Z6 x^s.tpOf R.dom R.vM;exists W,rfl,Y;refine N C M T U j Z _ _ e p λy H2 kk n2 i f2 r2 p=>?_;have R2:=e.step i f2;refine S C M H2 n2 j Z _ _ R2 p λz H3 dz n3 c B r3 p=>?_;let#[key,h,p]:=p;have R3:=R2.step c B;have l:=((s.tpOf R.dom R.vM).pres (e.pres i) i R.uV).pres (R2.pres c) c R.uV;have hy:=(r2.tpOf e.dom e.vM).pres (R2.pres c) c R.uV;let#[a0,o,ex,g,hz]:=ZA (key:=key) x l^r3.shOf R2.dom I;cases ex;exact#[o,by rw[EC h hy];exact g,q _ H3 _ n3 ((r.trans i).trans c) B hz p]
end
end Dp
namespace L2
open AutoSeq1 (wpAny_loadPart')
def S1:typeLookup (.type "list_reverseiterator") "__len__"=pure p_:=by kernel_rfl
def Vr:typeLookup (.type "list_reverseiterator") "__length_hint__"=pure^P3^.builtin "list_reverseiterator.__length_hint__":=by kernel_rfl
def boot_reversed:bootBuiltins "reversed"=P3^.type "reversed":=by decide +kernel
section
variable {prog:Program}{w:World}{A:Around}{E:Value->Shared->Prop}{s:Shared}{I:Addr}{fp wr:s_ Addr}{G:Array GenState->Array GenState->Prop}{n:Nat}{P:Nat->Value->Prop}{St:Nat->Shared->Prop}
def O1{Q:s_ Ev->Go->Prop}
  (W:WalksS prog w A.in1 I fp wr G n P St) (m:∀i s,St i s->s.TypeIs (.ref I) "list_reverseiterator") (p:St 0 s) (q:∀b∈fp,b<s.heap.objs.size) (v:I∈fp)
  (x:∀d f,Moved wr G s d->lj P f n->Q f.toList d) (hn:n<=sizeLine):wpAny (model prog w) A (collect^.ref I) Q E s:=by
 have g:s.heap.objs.size∉fp:=λr=>gv _^q _ r;have t:s.heap.objs.size≠I:=λe=>g (e▸v);unfold collect;refine Ch^wpAny_runValue^iB F.entry_proto_collect ?_;rw[iD F.plain_proto_collect _];show wpAny _ A.in1 (newList [] >>=λl=>again^.builtin "list.__iadd__" #[[l,.ref I],[]]) _ _ s;refine Ch^hZ ?_;refine Rs #[iJ kj _,iB F.entry_list_iadd ?_];rw[iD kj _];have a:=W.frame 0 s (s.heap.push {cls:=.type "list",data:=.seq ([]:s_ Ev).toArray}) s.toks p (Re _) λb _ o e=>FM _ e;have c:(s.heap.push {cls:=.type "list",data:=.seq ([]:s_ Ev).toArray}).get? s.heap.objs.size=P3 {cls:=.type "list",data:=.seq ([]:s_ Ev).toArray}:=UF _ rfl;have y:jk (.ref s.heap.objs.size)^.ref I=r_:=by simp[jk,t]
 show wpAny _ A.in1 (iT (.ref s.heap.objs.size) (.ref I)^.ref s.heap.objs.size) _ _ _;unfold iT;refine Ch^jQ (m 0 _ a) ?_;rw[if_neg^by rw[y];decide];refine Ch^W.self 0 _ _ _ a ?_;refine Ch^gw ?_;unfold iU;refine Ch^jE (m 0 _ a) S1 ?_;show wpAny _ A.in1 (specialOf (gE I)^ik "__length_hint__" >>=_) _ _ _;refine Ch (jE (m 0 _ a) Vr ?_)
 (generalize h:("list_reverseiterator.__length_hint__":String)=id0;wp_delta;rw[show splitId id0=P3 ("list_reverseiterator","__length_hint__")from by subst h;decide +kernel];subst h)
 refine Ch^kG (b:=q_) (m 0 _ a) (by rw[j_];kernel_rfl) ?_;refine Rs ?_;rw[if_neg^by cbv];refine Rs #[iJ lZ _,codeAny_extend_loopS W hn _ g _ n 0 _ _ _ rfl (f8 _) a c (ItemsOf.nil P) λd j z r u k=>?_];show wpAny _ A (load s.heap.objs.size >>=_) _ _ d;refine Ch^wpAny_load u ?_;exact Rs^x d j (Moved.drop_new (o:={cls:=.type "list",data:=.seq ([]:s_ Ev).toArray}) (tk:=s.toks) r^Re _) k
def Kl{Q₁:Ev->Go->Prop}(W:WalksS prog w A.in1.in1 I fp wr G n P St)(hT:∀i s,St i s->s.TypeIs (.ref I) "list_reverseiterator")(hst:St 0 s)(hfp:∀b∈fp,b<s.heap.objs.size)(hI:I∈fp)
  (h:∀s' acc,Moved wr G s s'->lj P acc n->Q₁ (.ref s'.heap.objs.size) {s' with heap:=s'.heap.push {cls:=.type "tuple",data:=.seq acc}}) (hsz:n<=sizeLine):
  codeAny (model prog w) A (.call (.builtin "tuple.__new__") #[[.type "tuple",.ref I],[]]) (wants Q₁ E) s:=by
 refine kQ ?_;show wpAny _ A.in1 (do checkBuiltinCall "tuple.__new__" #[[.type "tuple",.ref I],[]];again^.builtin "tuple.__new__" #[[.type "tuple",.ref I],[]]) _ _ s;refine Ch^iX (F.newCall_tuple_1 _)^Rs #[iJ km _,iB F.entry_tuple_new ?_];rw[iD km _];have hsub:=sub_tuple_self;have hinit:=init_tuple_lookup;have hmh:=madeHere_tuple;have hTI:=hT 0 s hst
 wp_walk using jQ hTI,O1 (hn:=hsz) W hT hst hfp hI
 intro s' acc hm hacc;show wpAny _ _ (im acc.toList.toArray >>=λv=>ret v) _ _ _;unfold im;refine Ch (hZ ?_^by show acc.toList.toArray.size<=sizeLine;simp only[nB];rw[hacc.1];exact hsz);refine Rs ?_;have e:acc.toList.toArray=acc:=by simp
 rw[e];exact h s' acc hm hacc
def Kp{Q:Ev->Go->Prop}(W:WalksS prog w A.in1.in1.in1 I fp wr G n P St)(k:∀i s,St i s->s.TypeIs (.ref I) "list_reverseiterator")(h:St 0 s)(j:∀b∈fp,b<s.heap.objs.size)(l:I∈fp)
  (m:∀e d,Moved wr G s e->lj P d n->Q (.ref e.heap.objs.size) {e with heap:=e.heap.push {cls:=.type "tuple",data:=.seq d}}) (hsz:n<=sizeLine):
  wpAny (model prog w) A (call (.type "tuple") [.ref I]) Q E s:=callType_codes (Q₁:=λf c=>c.TypeIs f _/\Q _ _) kA (F.typeCall_tuple_1 _) lc
  (Kl (hsz:=hsz) W k h j l λe d o g=>#[#[_,UF _ rfl,rfl],m e _ o g]) λf c a=>#[a.1,kI _ _,mS kA.init.lookup kA.made (by cbv) _ w _ _ _ #[a.1,rfl,a.2]]
end
section
variable {X:Cx}{e:Expr}{te:TE}{p1 p2 q1 q2:Pos}
def Wy(K:Frag)(te:TE):TE:=λZ H Q=>te Z H λx a=>∃l b,x=.ref l/\SqL K a l b/\∀r,a r=p_->Q (.ref r)^A5 a r^.tup b.reverse
def Sr(B:X.calm=q_)(he:PE X e te)(C:Gl X "tuple")(D:X.mg "tuple"=p_)(E:Gl X "reversed")(F:X.mg "reversed"=p_)(R:starEach [kY (.Name "reversed" p2) [e] [] q2] X.env=[(r_,eval (kY (.Name "reversed" p2) [e] [] q2) X.env)]:=by rfl)
  (S:starEach [e] X.env=[(r_,eval e X.env)]:=by rfl):PE X (.Call (.Name "tuple" p1) [.Call (.Name "reversed" p2) [e] [] q2] [] q1)^Wy X.K te:=by
 intro y s Z H Q I h;refine hU^DX I C D jF ?_;refine h_ ?_ R rfl;rw[R];refine ij ?_;refine hU^DX I E F boot_reversed ?_;refine h_ ?_ S rfl;rw[S];refine ij^thn (he y s Z H _ I h) λu d #[x,k,m,r1,l,G,ex,hq,q]=>jI ?_;subst ex;cases r1;let#[a,T,pl,U]:=m.list hq;have n:=T.length;have J:d.heap.IsList l a.toArray:=pl.isList;have p:l<d.heap.objs.size:=by let#[_,e,_]:=id J;exact Uf e
 refine call_reversed_list J^jI ?_;have L:k d.heap.objs.size=p_:=m.fresh;have I2:Inv X y Z k {d with heap:=d.heap.push^revObj l ((a.toArray.size:Int) - 1)}:=m.kept (t':=d.toks) λb o e=>FM _ e;have M:FU X y k d.heap.objs.size:=m.fpOk (Re _) L;refine Kp (s:={d with heap:=d.heap.push^revObj l ((a.toArray.size:Int) - 1)}) (Walks.listRev (A:=X.A.in1.in1.in1) (m.ok.hd B) d.heap.objs.size l (gO p) a.toArray).toS (λi V hs=>hs.2.1.typeIs) #[f8 _,#[_,UF _ rfl,rfl,by show Data.fields _=_;simp[revObj]],J.push _] (λb r=>?_) Op (λV g z t=>?_)^by rw[f_,←n];exact U
 .rcases T0.mp r with rfl|r
  .exact Uf (UF _ rfl)
  .obtain rfl:=Sc.mp r
   exact gW p^by show d.heap.objs.size<=(d.heap.push _).objs.size;rw[size_push'];exact g_ _
 .let#[h',g',d',j,N]:=V
  have e1:g'=d.gens:=z.gens;have e2:d'=d.drawn:=z.drawn;have e3:N=d.os:=z.os;subst e1 e2 e3;have O:=I2.turnedL (h':=h') (t':=j) (ch:=[d.heap.objs.size]) (λc B=>by rw[Sc.mp B];exact M) λb o r e=>z.heap b o r e;have W:Inv X y Z k {d with heap:=h',toks:=j}:=O
  have hv:g.toList=a.reverse:=by
   refine List.ext_getElem? λi=>?_;let#[Y,a2]:=t;have e0:g.toList[i]?=g[i]?:=by simp
   rw[e0]
   by_cases hi:i<a.length
   .have v:i<g.size:=by rw[Y,f_];exact hi
    have a3:=a2 i g[i] (ie v);rw[m7 hi,ie v,←a3,f_];simp
   .rw[lC^by rw[iQ];lk]
    exact kr^by rw[Y,f_];lk
  have P:g=a.reverse.toArray:=by rw[←hv]
  have rr:Vals G.reverse a.reverse:=T.reverse;refine#[.ref h'.objs.size,A5 k h'.objs.size^.tup G.reverse,W.laid (t':=j) (λb o e=>FM _ e) (Re _) (show ObjOk X.prog X.w _ _ _^.tup G.reverse from#[by rw[iQ];exact U,a.reverse,rr,by rw[P];exact IsTupN.new _ _]),rfl,q _^W.hok.fresh^Re _]
end
end L2
namespace Dp
open L2
def Q9(b:DW):DW:=λn c P=>b n c λd e=>∃a,d=.lst a/\P (.tup a.reverse) e
section
variable {X:Cx}{a:Expr}{zS:Kd}{wa:DW}{p1 p2 q1 q2:Pos}
def Td(m:X.calm=q_)(o:DE X a zS wa)(b:Gl X "tuple")(c:X.mg "tuple"=p_)(e:Gl X "reversed")(f:X.mg "reversed"=p_)(s:starEach [kY (.Name "reversed" p2) [a] [] q2] X.env=[(r_,eval (kY (.Name "reversed" p2) [a] [] q2) X.env)]:=by rfl)
  (u:starEach [a] X.env=[(r_,eval a X.env)]:=by rfl):DE X (.Call (.Name "tuple" p1) [.Call (.Name "reversed" p2) [a] [] q2] [] q1) .sh^Q9 wa:=by
 let#[t,x,y]:=o;refine#[_,Sr m x b c e f s u,λC M H n z Z P Q R w q=>?_];refine y C M H n z Z _ _ R w λv h d A i j B p=>?_;let#[I,rfl,p]:=p;have D:=R.step i j;let#[E,k,rfl,J,F,G]:=B.tpOf R.dom R.vM;refine#[E,k,rfl,.inl F,λr l=>?_];have g:Grow h^A5 h r^.tup k.reverse:=A1 l;exact q _ _ (.tup _) A (i.trans g.ext) (j.grow g) (Ce D.dom l^G.reverse) p
end
def Wu(i:Nat)(e:DW)(b:BW):Aa:=λf n a=>∃c,a[i]?=P3^.ow^.lst c/\e n a λd g=>∃(k:Nat) (x:D),d=.int (k:Int)/\c[k]?=P3 x/\k<2 ^ 60/\b x (a.set i^.ow^.lst^c.eraseIdx k) λh=>f.nx g h
section
variable {X:Cx}{κ zM:Kd}{tg e:Expr}{b:BW}{we:DW}{pos p apos cpos:Pos}{x:Str}{i:Nat}
def Sb{k n:Nat}(h:k<n):seqIndex? (k:Int) n=P3 k:=by
 refine(ND ?_).1;unfold Vg
 grind
def R7(h:PE X (.Name x p)^B6 i)(P:DE X e zM we)(Q:DG X tg b)
  (S:swapsWithSole [tg] (.Call (.Attribute (.Name x p) "pop" apos) [e] [] cpos) pos.line X.env=pure r_:=by rfl) (T:swappedStores [tg] (.Call (.Attribute (.Name x p) "pop" apos) [e] [] cpos) X.env=pure p_:=by rfl)
  (U:(assignEach [tg] X.env).map (·.2)=[assign tg X.env]:=by rfl)
  (f:attributeBase (.Name x p) "pop" X.env^eval (.Name x p) X.env=eval (.Name x p) X.env:=by rfl)
  (l:((backTo cpos^starEach [e] X.env).all (λx=>!x.1)&&(backToKw cpos^keywordEach [] X.env).all (λx=>x.1.isSome)
   && decide ([e].length+([]:s_ kd).length+(if([]:s_ kd).isEmpty then 0 else 1)<30))=q_:=by rfl)
  (j:(apos.endLine==cpos.line)=q_:=by rfl) (q:starEach [e] X.env=(r_,eval e X.env)::starEach [] X.env:=by rfl) (c:(backTo cpos^starEach [] X.env).any (·.1)=r_:=by rfl):
  DS X κ (.Assign [tg] (.Call (.Attribute (.Name x p) "pop" apos) [e] [] cpos) pos) (Wu i we b):=by
 let#[t,V,W]:=P;let#[g,Y,g2]:=Q;refine#[_,Mq (Yi PySem.F.plainAttrs_list PySem.F.slot_list_pop PySem.F.type_list_pop VW h (Bl V Cb q) f l j q c) Y S T U,λC M H n ρ Z D2 E R L w=>?_];let#[G,z,w]:=w;let#[a,A,m,nv,tt]:=R.sl i _ z;exists .ref a,getD_some A,Vi (show eR "list"^.lst G from rfl)^tt.att nv;refine W C M H n ρ Z _ _ R w λv H1 d I ee f1 r1 p=>?_;let#[k,y,rfl,hx,hk,p]:=p;have J:=R.step ee f1;let#[a',r,K,a0,u,B,s]:=J.sl i _ z;rw[A]at r;cases r;let#[N,O,hv]:=s.get hx;have D:k<u.length:=(gC.mp O).1;exists a,u,(k:Int),k,N,rfl,by rw[KY r1],B,by lk,by lk,Sb D,O;have R2:=J.mut (e:=.lst^G.eraseIdx k) z A (o:=.lst^u.eraseIdx k) #[u.eraseIdx k,Af,(s.eraseIdx k).pres^Cz K B];exact g2 C M _ I _ Z y N _ _ R2 (hv.pres^Cz K B) p λzY zZ R' w'=>L.nx M _ I zY zZ R' w'
end
end Dp
namespace L2
end L2
namespace Dp
open L2
end Dp
namespace L2
open AutoSeq1 (wpAny_loadPart')
def boot_enumerate:bootBuiltins "enumerate"=P3^.type "enumerate":=by decide +kernel
section
variable {prog:Program}{w:World}{A:Around}{E:Value->Shared->Prop}{s:Shared}
def Tc{κ:Bool}(j:A.handled=p_)(it l:Db)(f:l≠it)(c:Array Ev):Draws prog w A it [it,l] c.size (λi v=>c[i]?=P3 v) (λi h=>ItAt κ h it l i/\SqAt κ h l c) where
 live:=λ_ _ d=>let #[o,m,_]:=d.1.lies;#[o,m]
 frame:=λ_ _ _ d k=>#[d.1.mv λo e=>k it (by simp) o e,d.2.mv λo e=>k l (by simp) o e]
 item:=λi s Q E g d n=>Fh d.1 d.2 (x:=c[i]) (by simp[g]) λp a b=>n _ p s.toks (by simp[g]) #[a,d.2.eb b.extBut f] b
 done:=λs Q E d q=>G3 j d.1 d.2 (by simp) q
def Qd{κ:Bool}(c:A.handled=p_)(it l:Db)(a:Array Ev)(k:Nat)(d:a[k]?=p_):Draws prog w A it [it,l] k (λ_ _=>True) (λi h=>ItAt κ h it l i/\SqAt κ h l a/\i=k) where
 live:=λ_ _ b=>let #[o,f,_]:=b.1.lies;#[o,f]
 frame:=λ_ _ _ b k=>#[b.1.mv λo e=>k it (by simp) o e,b.2.1.mv λo e=>k l (by simp) o e,b.2.2]
 item:=λi s Q E g b m=>absurd b.2.2^gO g
 done:=λs Q E b j=>G3 c b.1 b.2.1 d j
def VU(κ:Bool)(l:Db)(items:Array Ev):Meets (ir.«enumerate.__new__» #[[.type "enumerate",.ref l],[]]) (λ_ R s=>SqAt κ s.heap l items /\
   R (.ok^.ret^.ref (s.heap.push^IX κ l).objs.size) {s with heap:=(s.heap.push^IX κ l).push {cls:=.type "enumerate",data:=.fields #[ .none,.bool r_,.ref s.heap.objs.size,rawInt 0,.none,.none]}}):=
 .of_wp λprog w A R s h=>by
  let#[hp,g,d,tk,os]:=s;let#[hl,h]:=h
  have hsub:=sub_enumerate;cases κ with
  | true=>
   have hL:mx (j1 #[hp,g,d,tk,os]) l items:=hl;let#[#[c,dct,dt,sl],ho,hc,n,hd]:=id hL;replace hc:c=.type "list":=hc;replace hd:dt=.seq items n:=hd;subst hc hd
   wp_walk using iM ho
   refine wpAny_stack_any λst=>Rs ?_
   split
   .rename_i c _ _ _ _ _
    cases(c==jp "enumerate") <;>(wp_walk using iM ho,iZ hL;exact#[_,rfl,h])
   ·(wp_walk using iM ho,iZ hL;exact#[_,rfl,h])
  | false=>
   have hL:md (j1 #[hp,g,d,tk,os]) l items:=hl;let#[#[c,dct,dt,sl],ho,hc,n,hd]:=id hL;replace hc:c=.type "tuple":=hc;replace hd:dt=.seq items n:=hd;subst hc hd
   wp_walk using iM ho
   refine wpAny_stack_any λst=>Rs ?_
   split
   .rename_i c _ _ _ _ _
    cases(c==jp "enumerate") <;>(wp_walk using iM ho,ii hL;exact#[_,rfl,h])
   ·(wp_walk using iM ho,ii hL;exact#[_,rfl,h])
def LV{c:Bool}{l:Db}{a:Array Ev}{Q:Ev->Go->Prop}(j:SqAt c s.heap l a)
  (h:∀d,IsEnum d (s.heap.objs.size+1) s.heap.objs.size 0 .none->ItAt c d s.heap.objs.size l 0->(∀b o,s.heap.get? b=P3 o->d.get? b=P3 o)->Q (.ref (s.heap.objs.size+1)) {s with heap:=d}):
  wpAny (model prog w) A (call (.type "enumerate") [.ref l]) Q E s:=by
 refine callType_new F.called_enumerate (by cbv) (F.typeCall_enumerate_1 _) (F.newCall_enumerate_1 _) (λf=>kI f _) F.entry_enumerate_new (VU c l a) #[j,?_];have g:(s.heap.push^IX c l).objs.size=s.heap.objs.size+1:=iq ..;have i:((s.heap.push^IX c l).push {cls:=.type "enumerate",data:=.fields #[ .none,.bool r_,.ref s.heap.objs.size,rawInt 0,.none,.none]}).get? (s.heap.push^IX c l).objs.size=P3 _:=UF _ rfl;rw[g]at i;exists#[_,by rw[g];exact i,rfl];rw[g];exact h _ i ((KU c s.heap l).mv λo e=>FM _ e) λb o e=>FM _^FM _ e
end
def az(K:Frag)(c:Bool)(a:Db)(b:s_ V):It:=
 #[λi H=>SqK c K H a b/\i<b.length,λi H x d=>∃T p,x=.ref T/\H T=p_/\d=A5 H T^.tup [.int i,p]/\b[i]?=P3 p,λi H=>SqK c K H a b/\b.length<=i]
structure ao (κ:Bool) (e it a:Db) (k:Nat) (h:gI):Prop where
 e:∃old,IsEnum h e it (k:Int) old
 i:ItAt κ h it a k
def SS{P:gN}{w:gY}{K:Frag}{es:s_ gZ}{j:Nat}{pos:Pos}(κ:Bool)(e it a:Db)(R:s_ V)(p:e≠it)(ae:a≠e)(ai:a≠it):
  Turn P w K (.Tuple es j pos) (az K κ a R) [e,it] e (ao κ e it a) where
 mem:=by simp
 obj:=λi h d c b=>by
  simp only[T0,gJ,or_false]at b
  rcases b with rfl|rfl
  .let#[o,q]:=d.e
   exact#[_,q,λv q=>by cases q]
  .exact d.i.lies
 keep:=λi h S d k=>by
  let#[o,q]:=d.e;exact#[#[o,k e (by simp) _ q],d.i.mv λo e=>k it (by simp) o e]
 item:=by
  intro X r t y b i T s Z H E I l d B;subst r t y;let#[C,D]:=B;let#[m,n,F]:=C.at I;let#[u,hu,ru]:=n.get^On D;let#[g,f]:=d.e;have l1:=n.length;refine wpAny_pyNext_enum_itemD (Tc (κ:=κ) (A:=X.A.in1) (I.ok.hd b) it a ai m.toArray) f #[d.i,F] (by simp;lk) p (by simp[p,ae.symm]) λx S G hp a1 a2 a3 a4 a5=>#[_,rfl,?_]
  have J:x=u:=by
   have U:m[i]?=P3 x:=by simpa using hp
   rw[hu]at U;exact(gH U).symm
  subst J;refine wpAny_letOwnedTupleGo_enum a1 λW b1 L=>?_;have hT:H s.heap.objs.size=p_:=I.hok.fresh^Re _
  have M:∀c o,c∉[e,it]->s.heap.get? c=P3 o->W.get? c=P3 o:=λc o b z=>by
   simp only[T0,gJ,or_false,not_or]at b;exact L.extBut _ _ b.1^a5 c o b.1 b.2 z
  have I2:Inv X T Z (A5 H s.heap.objs.size^.tup [.int i,R[i]]) {s with heap:=W,toks:=G+1}:=by
   refine I.turnLaid (t':=G+1) (ch:=[e,it]) l M (Re _) ?_;have nT:s.heap.objs.size≠e:=jC^Uf f;exact#[by show 2<=sizeLine;decide,[.int i G,x],.cons #[_,rfl]^.cons ru .nil,#[_,L.extBut _ _ nT a3,rfl,_,rfl,rfl,rfl]]
  refine#[.ref s.heap.objs.size,_,I2,rfl,#[_,_,rfl,hT,rfl,On D],#[#[_,b1],a2.1.eb L.extBut p.symm],λc b=>?_];have N:H c=p_:=(l c b).1
  have O:c≠s.heap.objs.size:=λz=>by
   obtain⟨o,Y⟩:∃o,s.heap.get? c=P3 o:=by
    simp only[T0,gJ,or_false]at b
    rcases b with rfl|rfl
    .exact#[_,f]
    .let#[o,q,_]:=d.i.lies;exact#[o,q]
   rw[z]at Y;exact gv _^Uf Y
  rw[AS O];exact N
 done:=by
  intro X r t y b i T s Z H E I l d B;subst r t y;let#[C,D]:=B;let#[m,n,F]:=C.at I;let#[g,f]:=d.e;have l1:=n.length;refine wpAny_pyNext_enum_endD (Qd (κ:=κ) (A:=X.A.in1) (I.ok.hd b) it a m.toArray i^by simp;lk) f #[d.i,F,rfl] λS M=>#[rfl,?_];refine I.turnedL (t':=s.toks) (ch:=[e,it]) l λc o b e=>?_;simp only[T0,gJ,or_false,not_or]at b;exact M c o b.2 e
 self:=λA i s Q E d h=>by
  let#[g,f]:=d.e;exact wpAny_pyIter_enum f h
section
variable {X:Cx}{e1:Expr}{es:s_ Expr}{j:Nat}{tpos p pos:Pos}{te:TE}
def cK(K:Frag)(te:TE):TI:=λZ H R=>te Z H λv b=>∃c a d,v=.ref a/\SqK c K b a d/\R (az K c a d) b
def XQ(t:Gl X "enumerate")(v:X.mg "enumerate"=p_)(w:PE X e1 te)(g:starEach [e1] X.env=[(r_,eval e1 X.env)]:=by rfl):
  PI X (.Tuple es j tpos) (.Call (.Name "enumerate" p) [e1] [] pos) (cK X.K te):=by
 intro y s Z H R I h;refine hU^DX I t v boot_enumerate ?_;refine h_ ?_ g rfl;rw[g];refine ij^thn (w y s Z H _ I h) λu b #[x,z,f,A,i,a,k,ex,B,q]=>jI ?_;subst ex;cases A;let#[F,C,l]:=B.at f;have m:a<b.heap.objs.size:=by let#[o,e]:=l.lies;exact Uf e
 refine LV l λG n D E=>?_;refine wpAny_pyIter_enum n ?_;refine#[b.heap.objs.size+1,[b.heap.objs.size+1,b.heap.objs.size],_,az X.K i a k,z,rfl,f.kept (t':=b.toks) E,SS i _ _ a k (by show(_:Nat)≠(_:Nat);lk) (gO^iy m)^gO m,#[#[_,n],D],λc r=>?_,q]
 have d:b.heap.objs.size<=c:=by
  simp only[T0,gJ,or_false]at r
  rcases r with rfl|rfl
  .exact g_ _
  .exact Re _
 exact f.fpOk d^f.hok.fresh d
end
end L2
namespace Dp
open L2
def F3:Nat->s_ D->s_ D
 |_,[]=>[]
 |k,x::r=>.tup [.int (k:Int),x]::F3 (k+1) r
theorem MB:∀(k:Nat) (a:s_ D),(F3 k a).length=a.length
 |_,[]=>rfl
 |k,x::r=>by show(F3 (k+1) r).length+1=r.length+1;rw[MB (k+1) r]
theorem MC:∀(k:Nat) (a:s_ D) (i:Nat),(F3 k a)[i]?=(a[i]?).map λx=>.tup [.int ((k+i:Nat):Int),x]
 |_,[],i=>by simp[F3]
 |k,x::r,0=>rfl
 |k,x::r,i+1=>by
  show(F3 (k+1) r)[i]?=(r[i]?).map _;rw[MC (k+1) r i,show k+1+i=k+(i+1) by lk]
section
variable {K:Frag}
def Ot{M:Db->Prop}{H:Hp}{g:Bool}{a:Db}{c:s_ V}{e:s_ D}(m:Ats K M H e c){i:Nat}{j:Db->Prop}{b:Hp}(s:Pres M H j b)(n:SqK g K b a c)(k:∀a,j a->∃o,b a=P3 o):
  (∀d,(F3 0 e)[i]?=P3 d->(az K g a c).go i b/\∀x H2,(az K g a c).yld i b x H2->Grow b H2/\At K j H2 d x)/\((F3 0 e).length<=i->(az K g a c).stop i b):=by
 have z:=m.length;refine#[λd f=>?_,λt=>#[n,by rw[MB]at t;lk]];rw[MC,Nat.zero_add]at f;cases h:e[i]? with
 |none=>rw[h]at f;cases f
 |some u=>
  rw[h]at f;have l:D.tup [.int (i:Int),u]=d:=gH f;have A:i<e.length:=(gC.mp h).1;refine#[#[n,by lk],λx H2 y=>?_];let#[T,p,rfl,q,rfl,v]:=y;let#[B,r,w]:=(m.pres s).get h;rw[v]at r;cases r;subst l;exact#[A1 q,Ce k q #[.int (i:Int),[p],rfl,rfl,p,[],rfl,w,rfl]]
end
section
variable {X:Cx}{e1:Expr}{es:s_ Expr}{j:Nat}{tpos p pos:Pos}{κ:Kd}{wa:DW}
def YX(wa:DW):Ef:=λn b P=>wa n b λd c=>∃a,D9 d=P3 a/\P (F3 0 a) c
def X7(g:Gl X "enumerate")(k:X.mg "enumerate"=p_)(h:DE X e1 κ wa)(l:κ≠.tp:=by intro z;cases z)(m:starEach [e1] X.env=[(r_,eval e1 X.env)]:=by rfl):
  DI X (.Tuple es j tpos) (.Call (.Name "enumerate" p) [e1] [] pos) (YX wa):=by
 let#[t,o,r]:=h;refine#[_,XQ g k o m,λC M H n s Z P J R w q=>?_];refine r C M H n s Z _ _ R w λv c d u x y A p=>?_;let#[K,B,p]:=p;let#[D,a,E,rfl,F,e]:=P1 (A.shOf R.dom l) B;exact#[D,a,E,rfl,e M c^Pres.refl _ _,q _ c _ u x y (λi G I f b=>Ot F f (e G I f) b) p]
end
def N5(i:Nat)(b:BW)(a:Aa):Aa:=λf n c=>∃d e,c[i]?=P3^.br d/\D9 d=P3 e/\A0 b a f e n c
section
variable {X:Cx}{κ:Kd}{tg:Expr}{body:s_ Stmt}{b:BW}{wb:Aa}{pos p:Pos}{x:Str}{i:Nat}
def Rel.lessKp{K:Frag}{C:Fm}{q:Db×HO}{M:Db->Prop}{H:Hp}{n:Nat}{a:s_ Slot}{Z:L2.St}(R:Rel K {C with kp:=q::C.kp} M H n a Z):Rel K C M H n a Z:=
 #[R.len,R.sub,R.dom,R.ext,R.fU,R.uV,R.vM,R.feed,R.sl,R.pin,R.br0,R.new,R.two,λp c=>R.kept p^TM _ c]
def JD(hp:kT (model X.prog X.w) X.A X.env X.xe)(hc:X.calm=q_)(h:PE X (.Name x p)^B6 i)(hg:DG X tg b)(hb:Pe X κ body wb)
  (hs:∀y,foldedSetIterable (.Name x p) X.env y=pure y:=by intro _;rfl):DS X κ (.For tg (.Name x p) body [] pos)^N5 i b wb:=by
 let#[g,g1,g2]:=hg;let#[tb,b1,b2]:=hb;refine#[_,HY hp hc (Mr h) g1 b1 hs,λC M H n U Z G E R L w=>?_];let#[d,f,hi,hd,w]:=w;let#[v,e1,a2]:=R.sl i _ hi;cases d with
 | tup a3=>
  cases hd;let#[a,I,rfl,hn,J]:=a2;refine#[.ref a,getD_some e1,.inr^.inl #[a,rfl,#[I,hn.sq],?_]];obtain⟨c,ek⟩:∃c,c=C.kp:=#[_,rfl];have R1:Rel X.K {C with kp:=c} M H n U Z:=by rw[ek];exact R
  have B:∀{M H n U Z},Rel X.K {C with kp:=c} M H n U Z->Rel X.K C M H n U Z:=λR=>by rw[ek]at R;exact R
  have st:∀l k r s t,Rel X.K {C with kp:=c,zH:=(M,H)::C.zH} l k r s t->SqT X.K k a I:=λl k r s t D=>(hn.pres^D.pin (M,H) Op).sq;exists λi m t k=>m=f.length - i/\i<=f.length/\∃l r s,Rel X.K {C with kp:=c,zH:=(M,H)::C.zH} l k r s t/\A0 b wb G (f.drop i) r s,#[f.length,by simp,f8 _,M,n,U,R1.pinned,w];rintro i m t k ⟨rfl,a4,l,r,s,D,V⟩;have pr:Pres M H l k:=D.pin (M,H) Op;have N:=st l k r s t D
  by_cases F:i<f.length
  .have ed:f.drop i=f[i]::f.drop (i+1):=iO F
   rw[ed]at V;let#[v,ev,hv]:=(J.pres pr).get^On F;refine .inr #[#[I,v,N,ev],λzP H2=>∃M2 W Y,Rel X.K {C with kp:=c,zH:=(M,H)::C.zH} M2 H2 W Y zP/\A0 b wb G (f.drop (i+1)) W Y,λzP H2 #[M2,W,Y,a0,w2]=>#[f.length - (i+1),by lk,rfl,F,M2,W,Y,a0,w2],λy H2 hy=>?_];let#[e2,hy]:=hy;subst e2
   have:P3 v=P3 y:=ev.symm.trans^hy I N
   cases this;refine g2 _ l H2 r s t f[i] v _ _ D hv V λzN zV R3 w3=>?_;refine b2 _ l H2 r zN zV {G with nx:=A0 b wb G^f.drop (i+1),ct:=A0 b wb G^f.drop (i+1),bk:=G.nx} _ R3 #[λO H4 P Q zT S T=>#[O,P,Q,S,T],L.rt,λO H4 P Q zT S T=>L.nx O H4 P Q zT (B S.unpin) T,λO H4 P Q zT S T=>#[O,P,Q,S,T]] w3
  .have e:i=f.length:=by lk
   subst e;rw[ji]at V;exact .inl #[#[I,N,by rw[J.length];exact Re _],L.nx l k r s t (B D.unpin) V]
 | lst a3=>
  cases hd;let#[a,I,rfl,nV,hH,J]:=a2
  obtain⟨o,ho,a1⟩:∃o,H a=P3 o/\∀k:Hp,k a=P3 o->SqL X.K k a I:=by
   rcases hH with z|⟨u,z⟩
   .exact#[_,z,λk e=>.inl^.inl e]
   .exact#[_,z,λk e=>.inl^.inr #[u,e]]
  refine#[.ref a,getD_some e1,.inl #[a,rfl,#[I,a1 H ho],?_]]
  obtain⟨c,R1,B,st⟩:∃c,Rel X.K {C with kp:=c} M H n U Z/\(∀{M H n U Z},Rel X.K {C with kp:=c} M H n U Z->Rel X.K C M H n U Z)/\(∀l k r s t,Rel X.K {C with kp:=c,zH:=(M,H)::C.zH} l k r s t->SqL X.K k a I):=by
   by_cases hM:M a
   .refine#[(a,o)::C.kp,#[R.len,R.sub,R.dom,R.ext,R.fU,R.uV,R.vM,R.feed,R.sl,R.pin,R.br0,R.new,R.two,λq N=>?_],λR=>R.lessKp,λl k r s t D=>a1 k (D.kept (a,o) Op).1]
    rcases T0.mp N with rfl|N
    .refine#[ho,hM,nV,λj e q z=>?_]
     let#[u,hu]:=R.br0 i _ a hi e1
     have:=(R.new j _ a q rfl z).2
     rw[hu]at this;cases this
    .exact R.kept q N
   .exact#[C.kp,R,λR=>R,λl k r s t D=>a1 k^(D.pin (M,H) Op).1 a o ho hM]
  exists λi m t k=>m=f.length - i/\i<=f.length/\∃l r s,Rel X.K {C with kp:=c,zH:=(M,H)::C.zH} l k r s t/\A0 b wb G (f.drop i) r s,#[f.length,by simp,f8 _,M,n,U,R1.pinned,w];rintro i m t k ⟨rfl,a4,l,r,s,D,V⟩;have pr:Pres M H l k:=D.pin (M,H) Op;have N:=st l k r s t D
  by_cases F:i<f.length
  .have ed:f.drop i=f[i]::f.drop (i+1):=iO F
   rw[ed]at V;let#[v,ev,hv]:=(J.pres pr).get^On F;refine .inr #[#[I,v,N,ev],λzP H2=>∃M2 W Y,Rel X.K {C with kp:=c,zH:=(M,H)::C.zH} M2 H2 W Y zP/\A0 b wb G (f.drop (i+1)) W Y,λzP H2 #[M2,W,Y,a0,w2]=>#[f.length - (i+1),by lk,rfl,F,M2,W,Y,a0,w2],λy H2 hy=>?_];let#[e2,hy]:=hy;subst e2
   have:P3 v=P3 y:=ev.symm.trans^hy I N
   cases this;refine g2 _ l H2 r s t f[i] v _ _ D hv V λzN zV R3 w3=>?_;refine b2 _ l H2 r zN zV {G with nx:=A0 b wb G^f.drop (i+1),ct:=A0 b wb G^f.drop (i+1),bk:=G.nx} _ R3 #[λO H4 P Q zT S T=>#[O,P,Q,S,T],L.rt,λO H4 P Q zT S T=>L.nx O H4 P Q zT (B S.unpin) T,λO H4 P Q zT S T=>#[O,P,Q,S,T]] w3
  .have e:i=f.length:=by lk
   subst e;rw[ji]at V;exact .inl #[#[I,N,by rw[J.length];exact Re _],L.nx l k r s t (B D.unpin) V]
 |_=>cases hd
end
end Dp
namespace L2
open PySem.W
end L2
namespace Dp
open L2
section
variable {X:Cx}{pos:Pos}
def Pn:DW:=λn _ P=>P (.dic [] []) n
def Ox:DE X (.Dict [] [] pos) .fr Pn:=by
 refine#[_,Jx,λC M H n b Z P Q R w q=>λp a=>?_];have g:Grow H^A5 H p^.dK []:=A1 a;exact q _ _ (.dic [] []) n g.ext (R.feed.grow g) #[p,rfl,a,[],Af,rfl,rfl] w
end
end Dp
namespace L2
end L2
namespace Dp
open L2
section
variable {a:Expr}
mutual
theorem At.frz{K:Frag}{M:Db->Prop}{H:Hp}{a:Db}{f:Db->Obj}{kvs:s_ (Key×V)}(ha:H a=P3^.dK kvs):∀{d:D}{v:V},F1 d=q_->At K M H d v->At K M (GF H [a] f) d v
 |.non,v,_,h=>h
 |.bl b,v,_,h=>h
 |.int i,v,_,h=>h
 |.str x,v,_,h=>h
 |.tup ds,v,hn,h=>by
  let#[b,vs,e,n2,hs]:=h;refine#[b,vs,e,?_,Ats.frz ha hn hs];unfold NdT at n2 ⊢;rw[ED λz=>by rw[Sc.mp z,ha]at n2;cases n2];exact n2
 |.lst ds,v,hn,h=>by
  let#[b,vs,e,#[n1,n2],hs]:=h;refine#[b,vs,e,#[n1,?_],Ats.frz ha hn hs];rw[ED λz=>by rw[Sc.mp z,ha]at n2;cases n2];exact n2
 |.dic _ _,v,hn,h=>by cases hn
 |.fdi _ _,v,hn,h=>by cases hn
 |.dit _ _,v,hn,h=>by cases hn
theorem Ats.frz{K:Frag}{M:Db->Prop}{H:Hp}{a:Db}{f:Db->Obj}{kvs:s_ (Key×V)}(ha:H a=P3^.dK kvs):∀{ds:s_ D}{vs:s_ V},Dv ds=q_->Ats K M H ds vs->Ats K M (GF H [a] f) ds vs
 |[],vs,_,h=>h
 |d::ds,vs,hn,h=>by
  let#[v,r,e,h1,h2]:=h;have hn:(F1 d&&Dv ds)=q_:=hn;rw[gP]at hn;exact#[v,r,e,At.frz ha hn.1 h1,Ats.frz ha hn.2 h2]
end
end
def Bs:s_^s_ Key->s_ D->s_ Key->t_ D
 |a::b,d::c,k=>if a=k then P3 d else Bs b c k
 |_,_,_=>p_
def Ol:s_ D->t_^s_ Key
 |[]=>P3 []
 |d::a=>match keyOf d,Ol a with
  |some k,P3 b=>P3 (k::b)
  |_,_=>p_
def keysOf:D->t_^s_ Key
 |.tup a=>Ol a
 |_=>p_
section
variable {K:Frag}{X:Cx}
theorem JP{M:Db->Prop}{H:Hp}{k:s_ Key}:∀{ks:s_^s_ Key}{c:s_ D}{a:s_ V},Ats K M H c a->
  match Bs ks c k with
  |some z=>∃v,C2 (ks.zip a) k=P3 v/\At K M H z v
  |none=>C2 (ks.zip a) k=p_
 |[],c,a,h=>by unfold Bs;exact rfl
 |b::ks,[],a,h=>by cases h;exact rfl
 | b::ks,d::c,a,h=>by
  let#[v,r,rfl,f,g]:=h;have i:=JP (k:=k) (ks:=ks) g;unfold Bs
  by_cases e:b=k
  .rw[if_pos e]
   refine#[v,?_,f];show C2 ((b,v)::ks.zip r) k=P3 v;rw[D6 e]
  .rw[if_neg e]
   have:C2 ((b,v)::ks.zip r) k=C2 (ks.zip r) k:=D7 e
   rw[show(b::ks).zip (v::r)=(b,v)::ks.zip r from rfl,this];exact i
def Vf{M:Db->Prop}{H:Hp}{d:D}{v:V}{k:Key}(e:keyOf d=P3 k)(h:At K M H d v):v=kV k:=by
 cases d with
 |int i=>cases e;exact h
 |str x=>cases e;exact h.1
 |_=>cases e
theorem Oj{M:Db->Prop}{H:Hp}:∀{a:s_ D}{b:s_ V}{c:s_ Key},Ol a=P3 c->Ats K M H a b->b=c.map kV
 |[],b,c,e,h=>by cases e;exact h
 | d::a,b,c,e,h=>by
  let#[v,r,rfl,i,j]:=h;unfold Ol at e;cases f:keyOf d with
  |none=>rw[f]at e;cases e
  | some k=>
   cases g:Ol a with
   |none=>rw[f,g]at e;cases e
   |some l=>
    rw[f,g]at e;cases e;rw[Oj g j,Vf f i];rfl
def Hj{U M:Db->Prop}{H:Hp}{d:D}{v:V}{k:s_ Key}(e:keysOf d=P3 k)(h:AtT K U M H d v):∃b,v=.ref b/\H b=P3^.tup^k.map kV:=by
 cases d with
 |tup g=>
  let#[a,i,rfl,c,f]:=h.tup;exists a,rfl;rw[←Oj e f];exact c
 |_=>cases e
def WA{U M:Db->Prop}{H:Hp}{x:V}{c:s_^s_ Key}{d:s_ D}(h:AtT K U M H (.dit c d) x):∃a b,x=.ref a/\Rd H a^.dT^c.zip b/\Ats K M H d b:=by
 let#[a,b,rfl,_,e,_,f]:=h;exact#[a,b,rfl,.inl e,f]
def R8{H:Hp}{a b:Db}{c:s_ (s_ Key×V)}{k:s_ Key}(e:Rd H a^.dT c)(eb:H b=P3^.tup^k.map kV):DGet H a (.ref b)^C2 c k:=.inr #[c,k,b,e,rfl,eb,rfl]
def cQ(a:Bool)(e d:D)(P:D->Prop):Prop:=∃b c k,d=.dit b c/\keysOf e=P3 k/\P^.bl (if a then !(Bs b c k).isSome else(Bs b c k).isSome)
def Vw(d e:D)(P:D->Prop):Prop:=∃a b k z,d=.dit a b/\keysOf e=P3 k/\Bs a b k=P3 z/\P z
def Wa:Fo K .sh U1^cQ q_:=λU M H e d y x P Q g s i j w q=>by
 let#[ks,l,k,rfl,m,w]:=w;let#[a,f,rfl,n,o]:=WA j;let#[b,rfl,p]:=Hj m i;refine#[a,C2 (ks.zip f) k,rfl,R8 n p,q _ H (.bl _) .refl rfl ?_];have h:=JP (k:=k) (ks:=ks) o;cases c:Bs ks l k with
 |none=>rw[c]at h w;rw[show C2 (ks.zip f) k=p_ from h];exact w
 |some z=>rw[c]at h w;let#[v,r,_]:=h;rw[r];exact w
def aP:Fo K .sh U2 Vw:=λU M H d e x y P Q c r f g w q=>by
 let#[ks,s,k,z,rfl,i,j,w]:=w;let#[a,t,rfl,l,m]:=WA f;let#[b,rfl,n]:=Hj i g;have h:=JP (k:=k) (ks:=ks) m;rw[j]at h;let#[v,o,p]:=h;exact#[a,v,rfl,by rw[←o];exact R8 l n,q v H z .refl p w]
variable {a b:Expr}{zS zO:Kd}{wa wb:DW}{pos:Pos}
def X_{k:Nat}(g:Room k X.A)(h:DE X a zS wa)(i:DE X b zO wb)(j:YQ b:=by intro _ _;rfl):DE X (.Subscript a b pos) .sh^AU Vw wa wb:=by
 let#[l,c,d]:=h;let#[m,e,f]:=i;exact#[D5 U2 l m,I_ (IY g) c e j,λC M H n o Z P Q R w q=>EW aP d f C M H n o Z P Q R w q]
end
def KZ(a:s_^s_ Key)(k:s_ Key):Bool:=a.any λb=>decide (b=k)
def hasK_iffU{a:s_^s_ Key}{k:s_ Key}:KZ a k=q_↔k∈a:=by
 unfold KZ;rw[i8];exact#[fun#[x,hx,e]=>by rw[←of_decide_eq_true e];exact hx,λh=>#[k,h,decide_eq_true rfl]]
def B8(a:s_^s_ Key)(k:s_ Key):s_^s_ Key:=if KZ a k=q_ then a else a++[k]
def CD{a:Type}(b:s_^s_ Key)(c:s_ a)(k:s_ Key)(d:a):s_ a:=if KZ b k=q_ then i6 (λe f=>if e=k then d else f) b c else c++[d]
def WT{c:s_^s_ Key}{d:s_ V}(j:c.length=d.length)(k:s_ Key):((c.zip d).any λf=>decide (f.1=k))=KZ c k:=by
 rw[iK,i8,hasK_iffU];constructor
 .rintro⟨⟨a,b⟩,g,e⟩
  have e:a=k:=of_decide_eq_true e;rw[←e];exact(jr g).1
 .intro h
  let#[i,l,e]:=kH.mp h;refine#[(c[i],d[i]'(by lk)),?_,by rw[e];exact decide_eq_true rfl];exact kH.mpr #[i,by rw[lO];lk,by rw[List.getElem_zip]]
def Sl{c:s_^s_ Key}{d:s_ V}(f:c.length=d.length)(k:s_ Key)(v:V):putK (c.zip d) k v=(B8 c k).zip^CD c d k v:=by
 unfold putK B8 CD;rw[WT f]
 by_cases h:KZ c k=q_
 .rw [if_pos h,if_pos h,if_pos h]
  have g:∀(c:s_^s_ Key) (d:s_ V),((c.zip d).map λe=>if e.1=k then(e.1,v)else e)=c.zip^i6 (λi j=>if i=k then v else j) c d:=by
   intro c
   induction c with
   |nil=>intro d;rfl
   | cons a c l=>
    intro d;cases d with
    |nil=>rfl
    |cons b d=>
     show(if a=k then(a,v)else(a,b))::_=(a,if a=k then v else b)::_;exact mR.mpr #[by split <;>rfl,l d]
  exact g c d
 .rw[if_neg h,if_neg h,if_neg h,List.zip_append f]
  rfl
theorem Ats.putU{K:Frag}{M:Db->Prop}{H:Hp}{k:s_ Key}{d:D}{v:V}(hd:At K M H d v):∀{c:s_^s_ Key}{f:s_ D}{b:s_ V},Ats K M H f b->Ats K M H (i6 (λi j=>if i=k then d else j) c f)^i6 (λi j=>if i=k then v else j) c b
 |[],f,b,h=>rfl
 |a::c,[],b,h=>by cases(show b=[]from h);rfl
 |a::c,e::f,b,h=>by
  let#[u,r,rfl,l,m]:=h;refine#[_,_,rfl,?_,Ats.putU hd m];show At K M H (if a=k then d else e) (if a=k then v else u)
  by_cases g:a=k
  .rw[if_pos g,if_pos g];exact hd
  .rw[if_neg g,if_neg g];exact l
def Ats.putXU{K:Frag}{M:Db->Prop}{H:Hp}{k:s_ Key}{d:D}{v:V}{a:s_^s_ Key}{b:s_ D}{c:s_ V}(hd:At K M H d v)(h:Ats K M H b c):Ats K M H (CD a b k d)^CD a c k v:=by
 unfold CD
 split
 .exact Ats.putU hd h
 .exact h.append^Ats.one hd
def Gq{c:Type}{a:s_^s_ Key}{b:s_ c}{k:s_ Key}{d:c}(e:a.length=b.length):(B8 a k).length=(CD a b k d).length:=by
 unfold B8 CD
 split
 .rw[lY];lk
 .rw[XV,XV];show a.length+1=b.length+1;lk
def DJ{b:s_^s_ Key}{c:s_ D}{k:s_ Key}{d:D}(g:b.length=c.length)(j:s_ Key):Bs (B8 b k) (CD b c k d) j=if j=k then P3 d else Bs b c j:=by
 unfold B8 CD
 by_cases i:KZ b k=q_
 .have h:=hasK_iffU.mp i
  rw[if_pos i,if_pos i]
  have n:∀(b:s_^s_ Key) (c:s_ D),b.length=c.length->(j=k->k∈b)->Bs b (i6 (λp q=>if p=k then d else q) b c) j=if j=k then P3 d else Bs b c j:=by
   intro b
   induction b with
   |nil=>
    intro c _ l
    by_cases e:j=k
    .exact absurd (l e) gJ
    .rw[if_neg e];cases c <;>rfl
   | cons a b o=>
    intro c g l;cases c with
    |nil=>cases g
    | cons e c=>
     show(if a=j then P3 (if a=k then d else e)else Bs b _ j)=if j=k then P3 d else if a=j then P3 e else Bs b c j
     by_cases f:a=j
     .rw[if_pos f,if_pos f]
      by_cases m:j=k
      .rw[if_pos m,if_pos^f.trans m]
      .rw[if_neg m,if_neg λz=>m^f.symm.trans z]
     .rw[if_neg f,if_neg f]
      refine o c (by simpa using g) λz=>(T0.mp^l z).resolve_left λw=>f^w.symm.trans z.symm
  exact n b c g λ_=>h
 .have h:k∉b:=λz=>i^hasK_iffU.mpr z
  rw[if_neg i,if_neg i]
  have n:∀(b:s_^s_ Key) (c:s_ D),b.length=c.length->k∉b->Bs (b++[k]) (c++[d]) j=if j=k then P3 d else Bs b c j:=by
   intro b
   induction b with
   | nil=>
    intro c g _;cases c with
    |nil=>
     show(if k=j then P3 d else p_)=if j=k then P3 d else p_
     by_cases e:j=k
     .rw[if_pos e,if_pos e.symm]
     .rw[if_neg e,if_neg λz=>e z.symm]
    |cons e c=>cases g
   | cons a b o=>
    intro c g l;cases c with
    |nil=>cases g
    |cons e c=>
     show(if a=j then P3 e else Bs (b++[k]) (c++[d]) j)=if j=k then P3 d else if a=j then P3 e else Bs b c j
     rw[o c (by simpa using g) λz=>l^TM _ z]
     by_cases f:a=j
     .rw[if_pos f,if_pos f,if_neg λz=>l^by rw[←z,←f];exact Op]
     .rw[if_neg f,if_neg f]
  exact n b c g h
section
variable {X:Cx}{a b e:Expr}{κ zS zO:Kd}{wa wb:DW}{pos pos':Pos}
def UG:DW:=λn _ P=>P (.dit [] []) n
def WH:DE X (.Dict [] [] pos) .fr UG:=by
 refine#[_,VJ,λC M H n d Z P Q R w q=>λp c=>?_];have g:Grow H^A5 H p^.dT []:=A1 c;exact q _ _ (.dit [] []) n g.ext (R.feed.grow g) #[p,rfl,c,[],Af,rfl,rfl] w
def UA(i:Nat)(wk h:DW):Aa:=λj n e=>∃f g,e[i]?=P3^.ow^.dit f g/\h n e λd l=>wk l e λk m=>∃c,keysOf k=P3 c/\f.length<sizeLine/\j.nx m^e.set i^.ow^.dit (B8 f c)^CD f g c d
def R6{i k:Nat}{x:gZ}(O:Room k X.A)(hx:PE X x^B6 i)(P:DE X a zS wa)(Q:DE X b zO wb)(S:zO≠.tp:=by intro z;cases z)
  (T:swapsWith b (P3^.Subscript x a pos') pos.line X.env=pure r_:=by rfl):DS X κ (.Assign [.Subscript x a pos'] b pos)^UA i wa wb:=by
 let#[t,U,V]:=P;let#[u,W,Y]:=Q;refine#[_,Gs (IY O) hx U W T,λC M H n D Z D2 E R L w=>?_];let#[l,ds,o,w]:=w;refine Y C M H n D Z _ _ R w λv H1 d n1 e1 f1 r1 p=>?_;have f:=R.step e1 f1;let#[F,q,m,nv,tt]:=f.sl i _ o;exists .ref F,getD_some q;refine V C M H1 n1 D Z _ _ f p λy H2 kk n2 G f2 r2 p=>?_;let#[c,g,a0,p]:=p;have R2:=f.step G f2;let#[a1,h,m',a2,r]:=R2.sl i _ o;rw[q]at h;cases h;let#[I,J,N,j]:=r;have s:At X.K M H2 d v:=(r1.shOf R.dom S).pres^f.pres G;have B:l.length=I.length:=by rw[N,j.length]
 let#[b,rfl,eb]:=Hj g^r2.tpOf f.dom f.vM;refine#[F,_,rfl,DPut.t J eb (by rw[lO];lk),L.nx M _ n2 _ Z (R2.mut (e:=.dit (B8 l c)^CD l ds c d) o q #[CD l I c v,by rw[Af,Sl B],Gq N,(j.putXU s).pres^Cz m' J]) p]
end
end Dp
namespace L2
open PySem.W
structure f7 (prog:gN) (w:gY) (A:gc) (I d:Db) (n:Nat) (base:gI) (key:Nat->Db) (val:Nat->Ev) (ch:Db->Prop) (St:Nat->gI->Prop):Prop where
 new:∀b,ch b->base.get? b=p_
 item:∀(i:Nat) (s:Go) (Q:Option Ev->Go->Prop) (E:Ev->Go->Prop),i<n->St i s.heap->(∀b o,base.get? b=P3 o->s.heap.get? b=P3 o)->(∃o,s.heap.get? d=P3 o)->
  (∀h' tk a o c,h'.get? a=P3 o->o.cls=.type "tuple"->o.data=.seq #[ .ref^key i,val i] c->St (i+1) h'->(∀b o,¬ch b->s.heap.get? b=P3 o->h'.get? b=P3 o)->Q (P3^.ref a) {s with heap:=h',toks:=tk})->wpAny (model prog w) A (pyNext^.ref I) Q E s
 done:∀(s:Go) (Q:Option Ev->Go->Prop) (E:Ev->Go->Prop),St n s.heap->(∀b o,base.get? b=P3 o->s.heap.get? b=P3 o)->(∀h' tk,(∀b o,¬ch b->s.heap.get? b=P3 o->h'.get? b=P3 o)->Q p_ {s with heap:=h',toks:=tk})->wpAny (model prog w) A (pyNext^.ref I) Q E s
 frame:∀i h h',St i h->jf d h h'->St i h'
 dch:¬ch d
end L2
namespace Dp
open L2
end Dp
namespace L2
end L2
namespace Dp
open L2
end Dp
namespace L2
end L2
namespace Dp
open L2
end Dp
namespace L2
end L2
namespace Dp
open L2
end Dp
namespace L2
end L2
namespace Dp
open L2
end Dp
namespace L2
end L2
namespace Dp
open L2
section
variable {X:Cx}{κ:Kd}{e:Expr}{pos p:Pos}{i:Nat}{x:Str}
def YU(i:Nat)(w:Nat->s_ Slot->(D->Nat->Prop)->PX->Prop):Yz:=λb c n a=>w n a (λd e=>b.nx e^a.set i^.sh d) c
def X2{b:Kd}{w:Nat->s_ Slot->(D->Nat->Prop)->PX->Prop}{a:Pos}(c:X.N.Nodup)(f:X.N[i]?=P3 x)(hx:Loc X.env.scope x)(h:de X e b w)(g:b≠.tp:=by intro z;cases z)(j:swapsWith e (P3^.Name x a) pos.line X.env=pure r_:=by rfl)
  (k:X.fn x=q_\/X.env.scope.names.lookup x=P3 .local:=by first|exact .inl rfl|exact .inr rfl|assumption):dY X κ (.Assign [.Name x a] e pos)^YU i w:=by
 let#[t,m,o]:=h;refine#[_,XH c f hx m j k,λC M H n q Z G E R s r L l w=>?_];exact o C M H n q Z _ _ R s r l w λv u d y A B F p=>L.nx M u y _ _ ((r.step A B).set^F.shOf r.dom g) p
end
section
variable {X:Cx}{κ:Kd}{tg iter:Expr}{src:Ef}{body:s_ Stmt}{pos:Pos}{b:BW}{wb:Aa}
def X3{v:Fm->Prop}(I:∀C p,v C->v {C with zH:=p})(V:kT (model X.prog X.w) X.A X.env X.xe)(W:X.calm=q_)(P:DI X tg iter src)(Y:DG X tg b)(hb:Pf v X κ body wb)
  (hs:∀x,foldedSetIterable iter X.env x=pure x:=by intro _;rfl):a_ v X κ (.For tg iter body [] pos)^C8 src b wb:=by
 let#[wi,a1,a2]:=P;let#[g,g1,g2]:=Y;let#[tb,b1,b2]:=hb;refine#[_,HY V W a1 g1 b1 hs,λC M H n Q Z h E hC R L w=>?_];refine a2 C M H n Q Z _ _ R w λJ z a n1 e1 f1 y w1=>?_;have R1:=R.step e1 f1;exists λi m B j=>m=a.length - i/\i<=a.length/\∃c k o,Rel X.K {C with zH:=(M,z)::C.zH} c j k o B/\A0 b wb h (a.drop i) k o,#[a.length,by simp,f8 _,M,n1,Q,R1.pinned,w1];rintro i m B j ⟨rfl,P,c,k,o,l,D⟩;have S:Pres M z c j:=l.pin (M,z) Op
 by_cases d:i<a.length
 .have ed:a.drop i=a[i]::a.drop (i+1):=iO d
  rw[ed]at D;let#[go,yl]:=(y i c j S l.dom).1 a[i] (On d);refine .inr #[go,λT H2=>∃M2 F G,Rel X.K {C with zH:=(M,z)::C.zH} M2 H2 F G T/\A0 b wb h (a.drop (i+1)) F G,λT H2 #[M2,F,G,f,w2]=>#[a.length - (i+1),by lk,rfl,d,M2,F,G,f,w2],λx H2 hy=>?_];let#[U,hx]:=yl x H2 hy;have f:=l.step U.ext^l.feed.grow U;refine g2 _ c H2 k o B a[i] x _ _ f hx D λzN zV R3 w3=>?_;refine b2 _ c H2 k zN zV {h with nx:=A0 b wb h^a.drop (i+1),ct:=A0 b wb h^a.drop (i+1),bk:=h.nx} _ (I C _ hC) R3 #[λq N r s O t u=>#[q,r,s,t,u],L.rt,λq N r s O t u=>L.nx q N r s O t.unpin u,λq N r s O t u=>#[q,r,s,t,u]] w3
 .have e:i=a.length:=by lk
  subst e;rw[ji]at D;exact .inl #[(y _ c j S l.dom).2 (Re _),L.nx c j k o B l.unpin D]
end
end Dp
namespace L2
section
variable {te:T1}{tb:TE}{x:Str}
def d6(r:R2)(te:T1)(tb:TE):T1:=λR Z H Q=>te R Z H λx a=>tb Z a λy H2=>r x y H2 Q
end
end L2
namespace Dp
open L2
section
variable {wb:DW}
def bB(f:D->D->(D->Prop)->Prop)(w:Nat->s_ Slot->(D->Nat->Prop)->PX->Prop)(wb:DW):Nat->s_ Slot->(D->Nat->Prop)->PX->Prop:=λn a P b=>w n a (λd c=>wb c a λe g=>f d e λz=>P z g) b
end
def Po:Aa:=λa n b=>a.bk n b
def V9{X:Cx}{a:Kd}{pos:Pos}:DS X a (.Break pos) Po:=#[_,VA,λC M H n b Z c E R L w=>L.bk M H n b Z R w]
end Dp
namespace L2
end L2
namespace Dp
open L2
abbrev Fu(K:Frag)(x:Str)(st:gf)(f:Db)(fd:gy):Prop:=Fun K x x st f fd
def ET{P:gN}{w:gY}{K:Frag}{i:Str->t_ Ev}{a:gI}{x:Str}{st:gf}{f:Db}{fd:gy}{N c:s_ Str}{k:Nat}{e:Kd}{W:W2}{j:Aa}(F:Fu K x st f fd)(S:Ag N c^AI st)
  (l:∀{d:Ev}{A:gc}{b:s_ Env}{s:Go}{H:Hp}{E:XK},Room k^A.deeper^envOfC x (AI st) s.heap.objs.size f d->Pe (D1 FV P w K i a N x (AI st) f d A b s H E).nox e (BV st) j)
  (m:∀{ss n Pd},W ss n Pd->j {nx:=λn _=>e=.sh/\Pd .non n,rt:=Pd} n (ss++ZB (N.length - c.length) .no)) (g:c.length<=N.length:=by cbv):
  CW P w K i a FV (k+1) f fd c (Tu K e W c.length):=eZ F S g (λ_ _ _ _ _ _ h=>l h) λ_ _ _ _ h=>m h
section
variable {X:Cx}
def cg{m:Nat}(g:Room m X.A){e:gZ}{a:s_ gZ}{k:Nat}{h:s_ Str}{f:Kd}{W:W2}{x:Str}{p pos:Pos}{b:T2}(G:Got X.prog X.w X.K X.mg X.base x k h f W)(i:Y0 X (e::a) b)(j:k<=m:=by cbv)(l:Gl X x:=by rfl)
  (c:(x==("__debug__":Str))=r_:=by cbv) (n:starEach (e::a) X.env=(r_,eval e X.env)::starEach a X.env:=by rfl) (d:(backTo pos^starEach a X.env).any (·.1)=r_:=by rfl):DE X (.Call (.Name x p) (e::a) [] pos) f^AZ W b:=Bk G (g.mono j) l i c n d
variable {tg iter elt:Expr}{ifs:s_ Expr}{sc:Scope}{pos:Pos}{b:BW}{tt:HM}{te:DW}{zM:Kd}{src:Ef}
def Ph(a:s_ Str)(c:s_^t_ Nat)(d:dC X tg iter src)(e:∀{cl C s H fp},DG (BY X sc a cl C s H fp) tg b)(f:∀{cl C s H fp},dZ (BY X sc a cl C s H fp) ifs tt)(g:∀{cl C s H fp},DE (BY X sc a cl C s H fp) elt zM te)
  (h:Oz sc X.env.scope X.N a c=q_) (i:X.calm=q_:=by rfl) (j:zM≠.tp:=by intro z;cases z) (k:∀x,foldedSetIterable iter X.env x=pure x:=by intro _;rfl):DE X (.ListComp elt [#[tg,iter,ifs,0]] sc pos) .fr^CQ c src b tt te:=YD i a c d (λ_ _ _ _ _=>e) (λ_ _ _ _ _=>f) (λ_ _ _ _ _=>g) h j k
end
theorem Yn{P:gN}{w:gY}{K:Frag}{p:Str->t_ Ev}{a:gI}{x:Str}{st:gf}{f:Db}{fd:gy}{N e:s_ Str}{W:Nat->W2}{t:W2->Aa}(c:Nat)(F:Fu K x st f fd)(S:Ag N e^AI st)(m:p x=P3^.ref f)(b:Binds K fd e [])
  (q:∀{k:Nat}{o:W2}{i:Ev}{A:gc}{d:s_ Env}{s:Go}{H:Hp}{E:XK},c+1<=k->Got P w K p a x k e .sh o->Room k^A.deeper^envOfC x (AI st) s.heap.objs.size f i->Pe (D1 FV P w K p a N x (AI st) f i A d s H E).nox .sh (BV st)^t o)
  (r:∀{o j g n Pd},(∀g n P,j≠0->W (j - 1) g n P->o g n P)->W j g n Pd->t o {nx:=λn _=>Kd.sh=.sh/\Pd .non n,rt:=Pd} n (g++ZB (N.length - e.length) .no)) (u:∀j g n P,W j g n P->g.length=e.length) (l:e.length<=N.length:=by cbv):
  ∀j,CW P w K p a FV (c+2+j) f fd e^Tu K .sh (W j) e.length
 |0=>eZ (k:=c+1) F S l (λ_ _ _ _ _ _ h=>q (Re _) (Vt (W:=λ_ _ _=>False) F m b (λ_ _ _ h=>h.elim)^F.ok (k:=c) S (λv H Q E h=>h.1) λi A d s H v Q E B h=>by let#[_,_,_,_,_,_,_,_,_,y,_]:=h;exact y.elim) h) λ_ _ _ _ h=>r (λ_ _ _ z _=>absurd rfl z) h
 |j+1=>eZ (k:=c+2+j) F S l (λ_ _ _ _ _ _ h=>q (by lk) (Vt F m b (u j)^Yn c F S m b q r u l j) h) λ_ _ _ _ h=>r (j:=j+1) (λ_ _ _ _ h=>h) h
end Dp
namespace K31
open L2 Dp Nt
def top(i:Nat):gf:=PySem.Challenge.pw_thinnet_k31_tree_papers.main.body.getD i^.Pass #[0,0,0,0]
def cI(s:gf):gf:=match s with
 |.ClassDef _ _ _ b _ _ _ _ _ _ _=>b.getD 0^.Pass #[0,0,0,0]
 |_=>.Pass #[0,0,0,0]
abbrev Jc:gf:=top 10
abbrev Fs:gf:=top 11
abbrev IF:gf:=top 12
abbrev Ll:gf:=top 13
abbrev JZ:gf:=top 14
abbrev GC:gf:=top 15
abbrev Ug:gf:=top 16
abbrev IE:gf:=top 17
abbrev Lm:gf:=top 18
abbrev Jd:gf:=top 19
abbrev Ja:gf:=top 20
abbrev ID:gf:=top 22
abbrev D_:gf:=top 23
abbrev Gd:gf:=top 24
abbrev Ge:gf:=top 25
abbrev YZ:gf:=top 26
abbrev OK:gf:=top 27
abbrev Gg:gf:=top 29
abbrev Gc:gf:=top 30
abbrev IG:gf:=top 31
abbrev IC:gf:=top 32
abbrev Eu:gf:=top 34
abbrev Di:gf:=top 35
abbrev Gj:gf:=top 36
abbrev Ft:gf:=top 37
abbrev Jh:gf:=top 38
abbrev Gi:gf:=top 39
abbrev Es:gf:=top 40
abbrev Gh:gf:=top 41
abbrev Et:gf:=top 42
abbrev Jj:gf:=top 43
abbrev Je:gf:=top 44
abbrev Er:gf:=top 45
abbrev Dk:gf:=top 46
abbrev IH:gf:=top 47
abbrev EX:gf:=top 48
abbrev Fw:gf:=top 49
abbrev Jg:gf:=top 50
abbrev IJ:gf:=top 51
abbrev Gk:gf:=top 52
abbrev II:gf:=top 53
abbrev Jk:gf:=top 54
abbrev Ji:gf:=top 55
abbrev Jf:gf:=top 56
abbrev Fv:gf:=top 57
abbrev Jb:gf:=top 58
abbrev CY:gf:=cI^top 2
structure Txt (K:Frag) (mg:Str->Option Ev):Prop where
 Gai:mg "ValueError"=p_
 Gaf:mg "all"=p_
 Gan:mg "bool"=p_
 Gaj:mg "enumerate"=p_
 Gak:mg "int"=p_
 Gaa:mg "isinstance"=p_
 Gac:mg "len"=p_
 Gag:mg "list"=p_
 Gap:mg "min"=p_
 Gae:mg "range"=p_
 Gao:mg "repr"=p_
 Gah:mg "reversed"=p_
 Gad:mg "sorted"=p_
 Gal:mg "str"=p_
 Gab:mg "tuple"=p_
 Gam:mg "zip"=p_
 x_NoPaper:∃C U,XC K "NoPaper" C U/\mg "NoPaper"=P3 (.ref C)
 x_NoLine:∃C U,XC K "NoLine" C U/\mg "NoLine"=P3 (.ref C)
 x_TooMany:∃C U,XC K "TooMany" C U/\mg "TooMany"=P3 (.ref C)
 x_Twice:∃C U,XC K "Twice" C U/\mg "Twice"=P3 (.ref C)
 x_NoPlace:∃C U,XC K "NoPlace" C U/\mg "NoPlace"=P3 (.ref C)
 x_NoTie:∃C U,XC K "NoTie" C U/\mg "NoTie"=P3 (.ref C)
 x_NoRow:∃C U,XC K "NoRow" C U/\mg "NoRow"=P3 (.ref C)
 x_ThinError:∃U,a9 K U/\mg "ThinError"=P3^.ref U/\nsIn K mainGlobals "ThinError"=P3^P3^.ref U
section
variable {P:Program}{w:World}{K:Frag}{mg:Str->t_ Value}{base:Heap}
def nP:Ag ["_law_feed_here","_law_many","_law_digit","_law_at","_law_cell","_law_first"] ["_law_feed_here","_law_many"]^AI Di:=#[rfl,rfl,rfl,by decide +kernel,rfl,by decide +kernel,by decide +kernel]
def Xd{f:Db}{fd:gy}(F:Fun K "_law_next" "_law_next" Di f fd)(ml:mg "len"=p_):CW P w K mg base FV 1 f fd ["_law_feed_here","_law_many"]^Tu K .sh Bt 2:=by
 refine F.ok nP (λvs H Q E h=>h.1) λa0 A a1 s H vs Q E hr h=>?_;let#[hl,F0,U,V',M,n,ss,Pd,ra,#[m,rfl,a8,S,hn,hP],q]:=h;let#[a9,fU,uV,vM,a2,T]:=ra;cases T with
 |cons r1 T=>
 cases T with
 |cons r2 T=>
 cases T;let#[#[d,c],e0,hF]:=r1.1;cases e0;let#[v2,e2,Z]:=r2.1;cases e2;cases(show _=V.int m from Z);let#[a,r,u,J,L,hc,a3,a4,b0]:=a2 (d,c) hF
 have N:∀(W r' z:Int) (y:Hp),(∀b o,H b=P3 o->b≠d->y b=P3 o)->y d=P3^.lst [.ref c,.int W,.int r']->0<=W->W<=a+1->0<=z->z<m->Q (.int z) y:=by
  intro W r' z y hk X h0 h1 a5 a6;refine q (.int z) y (.int z) (n - 1) (λb o e=>?_) (λg hg=>?_) rfl (hP z a5 a6)
  .by_cases v:b=d
   .subst v
    exact#[_,X,λnu=>absurd (fU (b,c) hF) nu,λvs z=>by rw[z,J]at e;cases e]
   .exact#[o,hk b o e v,λ_=>rfl,λ_ _=>rfl]
  .have:g=(d,c):=gH^hg.symm.trans hF
   subst this;exact#[W,r',u,X,L,#[hc.1,hk c _ hc.2 L],a3,h0,by lk]
 have hu:(A.deeper^envOfC "_law_next" (AI Di) s.heap.objs.size f a0).units<cLine:=hr.units0;have l:∀{y:Hp}{xs:s_ V},y d=P3^.lst xs->SqL K y d xs:=λh=>SqL.of h;have R:∀z:Int,0<=z % m/\z % m<m:=λz=>#[Int.emod_nonneg _^by lk,Int.emod_lt_of_pos _^by lk]
 exists _,BQ (RO (Gr Yk (EY ix_list (pv 0) BG λ_ _=>rfl) BG^Ak _)
   (BQ (Ew (i:=2) nP.nd rfl (TW rfl) (B9 Ez (EY ix_list (pv 0) BG λ_ _=>rfl)^pv 1))
   (BQ (Mq (B9 JB (EY ix_list (pv 0) BG λ_ _=>rfl)^pv 1)^QG (pv 0) BG set_list)
   (Cy^GD^pv 2))) Mo)
  (BQ (Ew (i:=3) nP.nd rfl (TW rfl) (EY ix_list (pv 0) BG λ_ _=>rfl))
  (BQ (Mq (B9 op_add (pv 3) BG)^QG (pv 0) BG set_list)
  (BQ (Ew (i:=4) nP.nd rfl (TW rfl) (OR (Gr (Sv hu) (EY ix_list (pv 0) BG λ_ _=>rfl) (QI Cb)^Ak _)
   (EY ix_list (EY ix_list (pv 0) BG λ_ _=>rfl) (B9 Ez (pv 3) (EB A8 rfl ml PySem.boot_len (Bl (EY ix_list (pv 0) BG λ_ _=>rfl) Cb))) λ_ _=>rfl) BG))
  (BQ (RO (PW.pt^U6 (Gr b7 (pv 4) (B9 Jz BG BG)^Ak _)^RL^Gr op_lt (pv 3) (EB A8 rfl ml PySem.boot_len (Bl (EY ix_list (pv 0) BG λ_ _=>rfl) Cb))^Ak _)
   (BQ (Mq (B9 JB (pv 4)^pv 1)^QG (pv 0) BG set_list)
   (Cy^GD^B9 Ez (pv 4)^pv 1)) Mo)
  (BQ (Ew (i:=5) nP.nd rfl (TW rfl) (B9 Ez (B9 Hd (B9 op_add (B9 op_add (B9 op_add (B9 Ez (pv 4) BG)^B9 Hd (B9 Hd BG^pv 3)^pv 3)^B9 Hd BG^pv 3) BG) BG) BG))
  (Cy^GD^B9 Ez (B9 JB (B9 Ez (B9 Hd (B9 op_add (pv 5)^B9 Hd BG^pv 3) BG) BG) BG)^pv 1))))))
 exists _,rfl,d,_,2,_,rfl,rfl,l J,rfl,_,_,rfl,rfl,_,rfl;refine CI (λc1=>?_) λc1=>?_
 .exists _,rfl,d,_,2,_,rfl,rfl,l J,rfl,_,rfl,_,_,rfl,rfl,(by show(0:Int)<m;lk)
  exists _,rfl,d,_,2,_,rfl,rfl,l J,rfl,_,rfl,_,_,rfl,rfl,#[(by show(0:Int)<m;lk),S],_,rfl,d,_,2,2,rfl,rfl,J,rfl;exists _,rfl;exact N a _ _ _ (λb o e v=>by rw[AS v];exact e) Af a4 (by lk) (R _).1 (R _).2
 ·-- at=feed[1];feed[1]=at+1
  exists _,rfl,d,_,1,_,rfl,rfl,l J,rfl;exists _,rfl,_,_,rfl,rfl,_,rfl,d,_,1,1,rfl,rfl,J,rfl;generalize Y:A5 H d^.lst^[V.ref c,V.int a,V.int r].set 1^V.int (a+1)=H1;have f1:H1 d=P3^.lst [.ref c,.int (a+1),.int r]:=by rw[←Y];exact Af
  have k1:∀b o,H b=P3 o->b≠d->H1 b=P3 o:=λb o e v=>by rw[←Y,AS v];exact e
  have B:H1 c=P3^.lst^u.map V.int:=k1 c _ hc.2 L
  have D:∀(z:Int) (H2:Hp),(∀b o,H1 b=P3 o->H2 b=P3 o)->
    (SW (bK (bR (UQ^D5 (Jr λi j=>V.bl (decide (j<=i))) (B6 4)^D5 (rI Q6 λi j=>V.int (i ^ j.toNat)) (tC^V.int 10)^tC^V.int 18)^UQ^D5 (Jr λi j=>V.bl (decide (i<j))) (B6 3)^dI (λxs H Q=>∃x n,xs=[x]/\ah K x H n/\Q (V.int n) H)^RC (D5 (ZY K) (B6 0)^tC^V.int 0) W4) (SW (Pw (D5 (rI Wm λi j=>V.int (i / j)) (B6 4)^B6 1)^cM (B6 0) (tC^V.int 2) Yd)^Wz^D5 (rI (λ_ j=>0<j) λi j=>V.int (i % j)) (B6 4)^B6 1) YY)^SW (Pw (D5 (rI (λ_ j=>0<j) λi j=>V.int (i % j)) (D5 (rI CMul λi j=>V.int (i*j)) (D5 (Jr λi j=>V.int (i+j)) (D5 (Jr λi j=>V.int (i+j)) (D5 (Jr λi j=>V.int (i+j)) (D5 (rI (λ_ j=>0<j) λi j=>V.int (i % j)) (B6 4)^tC^V.int 1000003)^D5 (rI CMul λi j=>V.int (i*j)) (D5 (rI CMul λi j=>V.int (i*j)) (tC^V.int 41)^B6 3)^B6 3)^D5 (rI CMul λi j=>V.int (i*j)) (tC^V.int 17)^B6 3)^tC^V.int 3)^tC^V.int 51749)^tC^V.int 999917)^L7 5)^Wz^D5 (rI (λ_ j=>0<j) λi j=>V.int (i % j)) (D5 (rI Wm λi j=>V.int (i / j)) (D5 (rI (λ_ j=>0<j) λi j=>V.int (i % j)) (D5 (rI CMul λi j=>V.int (i*j)) (D5 (Jr λi j=>V.int (i+j)) (B6 5)^D5 (rI CMul λi j=>V.int (i*j)) (tC^V.int 8111)^B6 3)^tC^V.int 39373)^tC^V.int 2097143)^tC^V.int 3)^B6 1)
     {nx:=λ_ y=>Q .non y,rt:=Q} [P3^.ref d,P3^.int m,p_,P3^.int a,P3^.int z,p_] H2:=by
   intro z H2 k2;have f2:=k2 _ _ f1;have c2:=k2 _ _ B
   have t:∀H3:Hp,H3=H2->(SW (Pw (D5 (rI (λ_ j=>0<j) λi j=>V.int (i % j)) (D5 (rI CMul λi j=>V.int (i*j)) (D5 (Jr λi j=>V.int (i+j)) (D5 (Jr λi j=>V.int (i+j)) (D5 (Jr λi j=>V.int (i+j)) (D5 (rI (λ_ j=>0<j) λi j=>V.int (i % j)) (B6 4)^tC^V.int 1000003)^D5 (rI CMul λi j=>V.int (i*j)) (D5 (rI CMul λi j=>V.int (i*j)) (tC^V.int 41)^B6 3)^B6 3)^D5 (rI CMul λi j=>V.int (i*j)) (tC^V.int 17)^B6 3)^tC^V.int 3)^tC^V.int 51749)^tC^V.int 999917)^L7 5)^Wz^D5 (rI (λ_ j=>0<j) λi j=>V.int (i % j)) (D5 (rI Wm λi j=>V.int (i / j)) (D5 (rI (λ_ j=>0<j) λi j=>V.int (i % j)) (D5 (rI CMul λi j=>V.int (i*j)) (D5 (Jr λi j=>V.int (i+j)) (B6 5)^D5 (rI CMul λi j=>V.int (i*j)) (tC^V.int 8111)^B6 3)^tC^V.int 39373)^tC^V.int 2097143)^tC^V.int 3)^B6 1)
     {nx:=λ_ y=>Q .non y,rt:=Q} [P3^.ref d,P3^.int m,p_,P3^.int a,P3^.int z,p_] H3:=by
    intro H3 e3;subst e3;have v:CMul (41*a) a:=.inr #[by lk,by lk];exists _,rfl,_,_,rfl,rfl,(by show(0:Int)<1000003;decide),_,rfl,_,_,rfl,rfl,.inl #[by cbv,by cbv],_,rfl,_,_,rfl,rfl,v,_,_,rfl,rfl,_,rfl,_,_,rfl,rfl,.inl #[by cbv,by cbv],_,_,rfl,rfl,_,_,rfl,rfl,_,_,rfl,rfl,.inr #[by cbv,by cbv],_,_,rfl,rfl,(by show(0:Int)<999917;decide);exists _,rfl,_,rfl,_,_,rfl,rfl,.inl #[by cbv,by cbv],_,_,rfl,rfl,_,_,rfl,rfl,.inr #[by cbv,by cbv],_,_,rfl,rfl,(by show(0:Int)<2097143;decide),_,_,rfl,rfl,#[by cbv,by cbv],_,rfl,_,_,rfl,rfl,(by show(0:Int)<m;lk);exact N (a+1) r _ _ (λb o e v=>k2 b o^k1 b o e v) f2 (by lk) (by lk) (R _).1 (R _).2
   exists _,rfl,_,_,rfl,rfl,#[by cbv,by cbv,by cbv],_,_,rfl,rfl,_,rfl;refine CI (λc3=>?_) λc3=>?_
   .exists _,rfl,_,rfl,d,_,0,_,rfl,rfl,l f2,rfl,_,_,rfl,.inl #[_,SqL.of c2,rfl],_,_,rfl,rfl,_,rfl
    refine CI (λc4=>?_) λc4=>t H2 rfl;exists _,rfl,_,rfl,_,_,rfl,rfl,#[(by show(0:Int)<m;lk),S],_,rfl,d,_,2,2,rfl,rfl,f2,rfl;exists _,rfl,_,rfl,_,_,rfl,rfl,(by show(0:Int)<m;lk);exact N (a+1) _ _ _ (λb o e v=>by rw[AS v];exact k2 b o^k1 b o e v) Af (by lk) (by lk) (R _).1 (R _).2
   .refine CI (λc4=>absurd c4^by simp) λ_=>t H2 rfl
  refine#[_,rfl,d,_,0,_,rfl,rfl,l f1,rfl,(by show 0<=sizeLine;decide),λp hp=>?_];have O:∀b o,H1 b=P3 o->A5 H1 p (.lst []) b=P3 o:=λb o e=>by rw[AS^A6 e hp];exact e
  exists c,p,_,rfl,rfl,SqL.of^O _ _ B,SqL.of Af,_,rfl;cases u with
  |nil=>exact Br^D 0 _ O
  | cons G C=>
   refine Bw ?_;have a7:(((G::C).map V.int).length:Int)=(C.length:Int)+1:=by simp
   have I:(0:Int)<(((G::C).map V.int).length:Int):=by lk
   obtain⟨z,hz⟩:∃z,atI ((G::C).map V.int) (a % (((G::C).map V.int).length:Int))=P3^.int z:=by
    have h1:=Int.emod_nonneg a (show(((G::C).map V.int).length:Int)≠0 by lk);have Z:=Int.emod_lt_of_pos a I;generalize a % (((G::C).map V.int).length:Int)=j at h1 Z;obtain⟨k,rfl⟩:∃k:Nat,j=(k:Int):=#[j.toNat,by lk];have hk:k<(G::C).length:=by rw[No]at Z;lk
    refine#[(G::C)[k],AJ ?_];rw[gM,On hk];rfl
   exists _,rfl,d,_,0,_,rfl,rfl,l^O _ _ f1,rfl,_,rfl,_,rfl,d,_,0,_,rfl,rfl,l^O _ _ f1,rfl,_,_,rfl,.inl #[_,SqL.of^O _ _ B,rfl],_,_,rfl,rfl,I,c,_,_,_,rfl,rfl,SqL.of^O _ _ B,hz;exact D z _ O
end
end K31
namespace Nt
open L2 Dp
abbrev EE(a:D->Nat->Prop):E2:={nx:=λn _=>Kd.sh=.sh/\a .non n,rt:=a}
theorem B0{b:BW}{k:DW}{P:s_ D->Nat->Prop}(g:D->D)(I:s_ Slot->Prop):∀(e a:s_ D) (n:Nat) (c:s_ Slot),
  (∀d∈e,∀(c:s_ Slot) (n:Nat) (l:D->Nat->s_ Slot->Prop),I c->(∀i,I i->l (g d) n i)->b d c λm=>k n m λy p=>l y p m)->I c->P (a++e.map g) n->E4 b Ek k P e a n c
 |[],a,n,c,_,_,h=>by rw[nN,gK]at h;exact h
 |d::e,a,n,c,o,j,h=>o d Op c n _ j λi f=>
  B0 g I e _ n _ (λd q=>o d^TM _ q) f (by simp_all)
def Kf{b:Type}{l:s_ b}{p:b->Bool}{P:D->Prop}(h:P^.bl^l.all p):LQ [.lst^l.map λa=>.bl^p a] P:=
 #[_,_,rfl,HG p l,by simp_all]
def WU{b1 b2:Bool}{P:D->Nat->Prop}{n:Nat}{k:(D->Nat->Prop)->Prop}(a:b1=q_->P (.bl b2) n->k P)(h:P (.bl (b1&&b2)) n):(match (.bl b1:D)with|.bl q_=>k P|.bl r_=>P (.bl r_) n|_=>False):=WO a h
abbrev Wb(g:D->Bool):W2:=Yh 1 λa=>.bl^g^a.getD 0 .non
def Wb.out{g:D->Bool}{a:s_ Slot}{n:Nat}{P:D->Nat->Prop}(h:Wb g a n P):∃d,a=[.sh d]/\P (.bl^g d) n:=by
 let#[b,c,rfl,h]:=h
 match b,c with
 |[d],_=>simp_all
def HP:D->Bool
 |.int _=>q_
 |_=>r_
def tupleOfB(k:Int):D->Bool
 |.tup a=>((a.length:Int)==k)
 |_=>r_
def VX(d e:D):t_ Bool:=match d,e with
 |.int i,.int j=>P3 (decide (i<j))
 |.str i,.str j=>P3 (decide (cs i<cs j))
 |.tup c,.tup f=>match IW c,IW f with
  |some a,P3 b=>if CN a b then P3^Fn a b else p_
  |_,_=>p_
 |_,_=>p_
def Ru{d e:D}{b:Bool}{P:D->Prop}(h:VX d e=P3 b)(p:P^.bl b):EU d e P:=by
 unfold VX at h
 split at h
 .cases h;exact p
 .cases h;exact p
 .split at h
  .rename_i a c f g
   split at h
   .rename_i i
    cases h;exact#[a,c,f,g,i,p]
   .cases h
  .cases h
 .cases h
def Tx:s_ D->Bool
 |x::y::r=>(VX x y==P3 q_)&&Tx (y::r)
 |_=>q_
abbrev Hy:W2:=Wb HP
abbrev HI:W2:=λa n P=>∃k d,a=[.sh^.int k,.sh d]/\P (.bl^tupleOfB k d) n
abbrev Nv:W2:=λc n P=>∃d a,c=[.sh d]/\D9 d=P3 a/\a.length<=200000/\(∀x∈a,∀y∈a,∃b,VX x y=P3 b)/\P (.bl^Tx a) n
def Qk:Aa:=(Au^Pp (El "int"^AC 0)^Y_^El "bool"^AC 0)
def LW:Aa:=(Au^Pp (El "tuple"^AC 1)^AU (Ej r_) (CB C6^AD (AC 1) AQ)^AC 0)
def O_:Aa:=(Au^CB LQ^AD (CQ [p_,p_] (T9^AD (AC 0)^AD (HN Cg (AC 0) (Bn^wC^D.int 1) BD) AQ) (CF 2^AX (AR 0)^AX (AR 1) BZ) Ek^AU EU (AC 0)^AC 1) AQ)
section
variable {ss:s_ Slot}{n:Nat}{Pd:D->Nat->Prop}
def IK(h:Hy ss n Pd):Qk (EE Pd) n (ss++ZB 0 .no):=by
 let#[d,rfl,q]:=h.out;cases d <;>exact q
def Jq(h:HI ss n Pd):LW (EE Pd) n (ss++ZB 0 .no):=by
 let#[k,d,rfl,h]:=h;cases d with
 |tup a=>exact#[_,_,rfl,rfl,h]
 |_=>exact h
def WK{b:Type}(a:s_ b):Dp.cutD a (P3 1) p_=a.drop 1:=by
 unfold Dp.cutD;rw[HT.sIx_none,show 1=((1:Nat):Int)from rfl,HT.sIx_nat]
 by_cases h:1<=a.length
 .rw[mo h]
  exact my^by simp_all
 grind
theorem SJ:∀c:s_ D,((Ds c^c.drop 1).all λd=>match d with|.tup [a,b]=>VX a b==P3 q_|_=>r_)=Tx c
 |[]=>rfl
 |[x]=>rfl
 |x::y::r=>by
  have e:=SJ (y::r);show((Ds _ (y::r)).all _)=_;unfold Ds Tx;rw[List.zipWith_cons_cons,kN]
  congr 1
def Wq{c e:s_ D}{d:D}(h:d∈Ds c e):∃a∈c,∃b∈e,d=.tup [a,b]:=by
 unfold Ds at h;let#[i,f]:=List.getElem?_of_mem h;rw[lB]at f;cases g:c[i]? with
 |none=>simp_all
 | some a=>
  cases j:e[i]? with
  |none=>simp_all
  |some b=>
   rw[g,j]at f;exact#[a,iV g,b,iV j,(gH f).symm]
def Mn(h:Nv ss n Pd):O_ (EE Pd) n (ss++ZB 0 .no):=by
 let#[d,c,rfl,e,A,f,h]:=h
 have i:(Ds c^c.drop 1).length<=10000000/\E4 (CF 2^AX (AR 0)^AX (AR 1) BZ) Ek (AU EU (AC 0)^AC 1) (λg k=>LQ [.lst g] λz=>Pd z k) (Ds c^c.drop 1) [] n [.no,.no]:=by
  refine#[by unfold Ds;rw[lY];lk,?_];refine B0 (λd=>.bl (match d with|.tup [a,b]=>VX a b==P3 q_|_=>r_)) (λj=>∃s t,j=[s,t]) _ _ _ _ ?_ #[_,_,rfl] ?_
  .rintro z l j m o ⟨s,t,rfl⟩ q
   let#[a,u,b,v,rfl]:=Wq l;let#[r,w]:=f a u b^lP v;exists rfl,rfl;show EU a b λy=>o y m [.sh a,.sh b];refine Ru w ?_
   simp_all
  .rw[gu]
   refine Kf (p:=fun(d:D)=>match d with|.tup [a,b]=>VX a b==P3 q_|_=>r_) ?_;rw[SJ];exact h
 cases d with
 |lst x=>
  cases e;exact#[_,_,c,c.drop 1,rfl,rfl,by rw[WK];rfl,i]
 |tup x=>
  cases e;exact#[_,_,c,c.drop 1,rfl,rfl,by rw[WK];rfl,i]
 |_=>cases e
end
def strsOf(a:s_ D):s_ Str:=(Qn a).getD []
def WV{a:Type}(p:a->Bool)(l:s_ a):(l.map p).all id=l.all p:=by simp_all
def OD{x:Str}(h:∀c∈cs x,c<1114112):PyData.strOk x=q_:=by
 unfold PyData.strOk;rw[←Array.all_toList,i7];intro c a;exact decide_eq_true^h c a
def KO{x:Str}(h:Yl x):Dw^.str x:=#[rfl,OD λc a=>by have:=h.2.2 c a;lk,f8 _]
def IV{a:s_ Str}(h:∀p∈a,Yl p):Dv^a.map .str=q_/\jY^Bq^a.map .str=q_/\iS^Bq^a.map .str=0:=by
 induction a with
 |nil=>exact#[rfl,rfl,rfl]
 | cons p r b=>
  let#[e,c,f]:=b λq d=>h q^TM _ d;exists by assumption,?_
  .rw[g9,Bq,jY,c,Bool.and_true]
   exact(KO^h p Op).2.1
  assumption
def Fb{ps:s_ Str}(h:∀p∈ps,Yl p):Dw^.tup^ps.map .str:=by
 let#[a,b,c]:=IV h;exists a,b;show iS _+1<=100
 simp_all
def Ry(x y:Str):E_ (.str x)^.str y=(x==y):=rfl
def B7(a:s_ Str):strsOf^a.map .str=a:=by unfold strsOf;rw[PC];rfl
section
def dg{d:D}(h:tupleOfB 2 d=q_):∃a b,d=.tup [a,b]:=by
 cases d with
 |tup c=>
  have:=eq_of_beq h
  match c,this with
  |[a,b],_=>grind
  |[],h=>cases h
  |[_],h=>cases h
  |_::_::_::r,h=>grind
 |_=>cases h
end
mutual
def fine(B:Nat):D->Prop
 |.int i=>i.natAbs<=B
 |.str x=>∀c∈cs x,c<1114112
 |.tup ds=>Ea B ds
 |.lst ds=>Ea B ds
 |.dic _ _=>False
 |.fdi _ _=>False
 |.dit _ _=>False
 |_=>True
def Ea(B:Nat):s_ D->Prop
 |[]=>True
 |d::ds=>fine B d/\Ea B ds
end
mutual
def C7:D->Nat
 |.int _=>200
 |.str x=>x.length
 |.tup ds=>CH ds
 |.lst ds=>CH ds
 |_=>0
def CH:s_ D->Nat
 |[]=>0
 |d::ds=>C7 d+1+CH ds
end
mutual
def F5:D->Nat
 |.tup ds=>F4 ds+1
 |.lst ds=>F4 ds+1
 |_=>0
def F4:s_ D->Nat
 |[]=>0
 |d::ds=>max (F5 d)^F4 ds
end
theorem fines_iff{B:Nat}:∀{b:s_ D},Ea B b↔∀d∈b,fine B d
 |[]=>#[(λ_ d h=>by cases h),λ_=>trivial]
 | d::b=>by
  have c:=@fines_iff B b;constructor
  .rintro⟨f,g⟩ e a
   rcases T0.mp a with rfl|a
   .exact f
   .exact c.mp g e a
  .exact λh=>#[h d Op,c.mpr λe a=>h e^TM _ a]
theorem dps_le{k:Nat}:∀{a:s_ D},F4 a<=k↔∀d∈a,F5 d<=k
 |[]=>#[(λ_ d h=>by cases h),λ_=>f8 _]
 | d::a=>by
  have c:=@dps_le k a;show max (F5 d)^F4 a<=k↔_;rw[Nat.max_le,c];constructor
  .rintro⟨f,g⟩ e b
   rcases T0.mp b with rfl|b
   .exact f
   .exact g e b
  .exact λh=>#[h d Op,λe b=>h e^TM _ b]
theorem B4:∀(b a:s_ D),CH (b++a)=CH b+CH a
 |[],a=>by simp[CH]
 |d::b,a=>by
  rw[List.cons_append];show C7 d+1+CH (b++a)=C7 d+1+CH b+CH a;rw[B4 b a];lk
theorem RD:∀(a:s_ D),CH a.reverse=CH a
 |[]=>rfl
 |d::a=>by
  rw[j3,B4,RD a];show CH a+(C7 d+1+0)=C7 d+1+CH a;lk
def OB(a:s_ D)(k:Nat):CH^a.take k<=CH a:=by
 have:=B4 (a.take k)^a.drop k
 rw[kC]at this;lk
def US(a:s_ D)(k:Nat):CH^a.drop k<=CH a:=by
 have:=B4 (a.take k)^a.drop k
 rw[kC]at this;lk
def RE{c:s_ D}{d:D}(h:d∈c):C7 d+1<=CH c:=by
 let#[a,b,rfl]:=l9 h;rw[B4];show _<=_+(C7 d+1+CH b);lk
theorem EL:∀(a:s_ D),a.length<=CH a
 |[]=>f8 _
 |d::a=>by
  have:=EL a
  show a.length+1<=C7 d+1+CH a;lk
def Iy(a:s_ D)(b c:t_ Int):CH^Dp.cutD a b c<=CH a:=gG (OB _ _)^US _ _
def DD{a:s_ D}{b c:t_ Int}{d:D}(h:d∈Dp.cutD a b c):d∈a:=lP^List.mem_of_mem_take h
def TZ{B C:Nat}(h:B<=C):∀(n:Nat),(∀d:D,sizeOf d<=n->fine B d->fine C d)/\∀a:s_ D,sizeOf a<=n->Ea B a->Ea C a:=by
 intro n
 induction n with
 |zero=>
  refine#[λd e _=>?_,λa e _=>?_]
  .cases d <;>simp at e
  .cases a <;>simp at e
 | succ n f=>
  refine#[λd e c=>?_,λa e c=>?_]
  .cases d with
   |int i=>exact gG (show i.natAbs<=B from c) h
   |str x=>exact c
   |tup a=>exact f.2 a (by simp at e;lk) c
   |lst a=>exact f.2 a (by simp at e;lk) c
   |dic g a=>exact(show False from c).elim
   |fdi g a=>exact(show False from c).elim
   |dit g a=>exact(show False from c).elim
   |non=>trivial
   |bl b=>trivial
  .cases a with
   |nil=>trivial
   |cons d a=>exact#[f.1 d (by simp at e;lk) c.1,f.2 a (by simp at e;lk) c.2]
def fine.mono{B C:Nat}{d:D}(a:fine B d)(h:B<=C):fine C d:=(TZ h _).1 d (Re _) a
mutual
theorem NF{B:Nat}(hB:B<10 ^ 45):∀{d:D},fine B d->F1 d=q_/\(toPy d).showable=q_/\(toPy d).canLay0=q_/\(toPy d).depth=F5 d/\(toPy d).leavesShort 60=q_/\(toPy d).weight<=C7 d
 |.non,_=>#[rfl,rfl,rfl,rfl,rfl,Re _]
 |.bl b,_=>#[rfl,rfl,rfl,rfl,rfl,Re _]
 | .int i,h=>by
  have h':i.natAbs<=B:=h;have hlt:i.natAbs<10 ^ 45:=jR h' hB;have h2:i.natAbs<2 ^ 150:=Nat.lt_trans hlt^by cbv
  have hl:i.natAbs.log2<150:=by
   by_cases h0:i.natAbs=0
   .rw[h0];decide
   .exact(Nat.log2_lt h0).mpr h2
  refine#[rfl,?_,rfl,rfl,?_,?_]
  .show decide (i.natAbs.log2<1920)=q_
   exact decide_eq_true^by lk
  .show decide ((PyData.shown^.int i).length<=60)=q_
   refine decide_eq_true ?_
   have:=int_text_length_le10 (a:=i) (k:=45) (by cbv) hlt
   show(ik^toString i).length<=60;rw[PySem.ofString_length];lk
  .show(if i==0 then 0 else i.natAbs.log2+1)<=200
   split <;>lk
 |.str x,h=>by
  have h':∀c∈cs x,c<1114112:=h;refine#[rfl,rfl,OD h',rfl,?_,Re _];show(x.cps.toList.all λc=>decide (c<16 ^ 8))=q_;rw[i7];intro c hc;exact decide_eq_true^Nat.lt_trans (h' c hc)^by cbv
 |.tup ds,h=>by
  let#[h1,h2,h3,h4,h5,h6]:=Ke hB (ds:=ds) h;refine#[h1,h2,h3,?_,h5,h6];show iS^Bq ds+1=F4 ds+1;rw[h4]
 |.lst ds,h=>by
  let#[h1,h2,h3,h4,h5,h6]:=Ke hB (ds:=ds) h;refine#[h1,h2,h3,?_,h5,h6];show iS^Bq ds+1=F4 ds+1;rw[h4]
 |.dic ks ds,h=>(show False from h).elim
 |.fdi ks ds,h=>(show False from h).elim
 |.dit ks ds,h=>(show False from h).elim
theorem Ke{B:Nat}(hB:B<10 ^ 45):∀{ds:s_ D},Ea B ds->Dv ds=q_/\PyData.showableAll^Bq ds=q_/\jY^Bq ds=q_/\iS^Bq ds=F4 ds/\m8 60^Bq ds=q_/\PyData.weightAll^Bq ds<=CH ds
 |[],_=>#[rfl,rfl,rfl,rfl,rfl,Re _]
 | d::ds,h=>by
  let#[h1,h2,h3,h4,h5,h6]:=NF hB (d:=d) h.1;let#[g1,g2,g3,g4,g5,g6]:=Ke hB (ds:=ds) h.2;refine#[?_,?_,?_,?_,?_,?_]
  .show(F1 d&&Dv ds)=q_
   rw[h1,g1];rfl
  .show((toPy d).showable&&PyData.showableAll^Bq ds)=q_
   rw[h2,g2];rfl
  .show((toPy d).canLay0&&jY^Bq ds)=q_
   rw[h3,g3];rfl
  .show max (toPy d).depth^iS^Bq ds=max (F5 d)^F4 ds
   rw[h4,g4]
  .show((toPy d).leavesShort 60&&m8 60^Bq ds)=q_
   rw[h5,g5];rfl
  .show(toPy d).weight+1+PyData.weightAll^Bq ds<=C7 d+1+CH ds
   omega
end
def UY{B:Nat}{d:D}(a:B<10 ^ 45)(h:fine B d)(hd:F5 d<=100)(g:C7 d<=270000):OF d:=by
 let#[b,c,i,e,f,j]:=NF a h;exists b,c,by rw[e];exact hd
 have:=PyData.shown_le 60 (by cbv) (toPy d) f
 rw[PySem.sizeLine_eq]
 have:62*(toPy d).weight<=62*270000:=Nat.mul_le_mul_left _^by lk
 omega
def RF{B:Nat}{d:D}(a:B<10 ^ 45)(h:fine B d)(hd:F5 d<=100)(b:C7 d<=200000):OF d:=UY a h hd^by lk
def Cd{B:Nat}{d:D}(a:B<10 ^ 45)(h:fine B d)(hd:F5 d<=100):Dw d:=by
 let#[b,f,c,e,g,i]:=NF a h;exact#[b,c,by rw[e];exact hd]
def Tg(b:s_ D)(a:Int)(h:0<=a):CH^Dp.cutD b p_^P3 a+CH^Dp.cutD b (P3 a)^P3 (a+1)<=CH b:=by
 obtain⟨k,rfl⟩:∃k:Nat,a=k:=#[a.toNat,by lk]
 have c:Dp.cutD b p_^P3 k=b.take^min k b.length:=by
  unfold Dp.cutD;rw[HT.sIx_none,HT.sIx_nat,m6,Nat.sub_zero]
 have d:Dp.cutD b (P3 (k:Int))^P3 ((k:Int)+1)=(b.drop^min k b.length).take (min (k+1) b.length - min k b.length):=by
  unfold Dp.cutD;rw[show((k:Int)+1)=(k+1:Nat) by lk,HT.sIx_nat,HT.sIx_nat]
 rw[c,d];have e:=B4 (b.take^min k b.length)^b.drop^min k b.length;rw[kC]at e;have f:=OB (b.drop^min k b.length) (min (k+1) b.length - min k b.length);lk
def aK(b:s_ D)(a:Nat):Dp.cutD b p_^P3 (a:Int)=b.take^min a b.length:=by
 unfold Dp.cutD;rw[HT.sIx_none,HT.sIx_nat,m6,Nat.sub_zero]
def WJ(b:s_ D)(a:Nat):Dp.cutD b (P3 (a:Int)) p_=b.drop^min a b.length:=by
 unfold Dp.cutD;rw[HT.sIx_none];exact my^by simp_all
def Za{b:s_ D}{a:Nat}(h:a<b.length)(e:D):CH (Dp.cutD b p_^P3 (a:Int)++[e]++Dp.cutD b (P3 ((a:Int)+1)) p_)+C7 b[a]=CH b+C7 e:=by
 have c:Dp.cutD b (P3 (a+1)) p_=b.drop (a+1):=by
  rw[show((a:Int)+1)=(a+1:Nat) by lk,WJ,mo^by lk]
 rw[aK b a,c,mo^by lk,B4,B4];have d:=B4 (b.take a)^b.drop a;rw[kC,iO h]at d;have f:CH (b[a]::b.drop (a+1))=C7 _+1+CH _:=rfl;have g:CH [e]=C7 e+1+0:=rfl;lk
def item(d:D):Prop:=fine 1000001 d/\C7 d<=450/\F5 d<=1
theorem Px{k:Nat}:∀{a:s_ D},(∀d∈a,C7 d+1<=k)->CH a<=k*a.length
 |[],_=>f8 _
 |d::a,h=>by
  have c:=Px λe b=>h e^TM _ b;show C7 d+1+CH a<=k*(a.length+1)
  grind
def G1{B:Nat}{a:s_ D}(h:∀d∈a,fine B d):fine B^.tup a:=fines_iff.mpr h
def item_str{x:Str}(b:x.length<=8)(a:∀c∈cs x,c<1114112):item^.str x:=#[a,by show x.length<=450;lk,f8 _]
def Fd{x:Str}(h:Yl x):item^.str x:=item_str h.2.1 λc a=>by have:=h.2.2 c a;lk
def Vh{a b:Str}{l:Int}(e:item^.str a)(f:item^.str b)(h:a.length<=8)(i:b.length<=8)(g:l.natAbs<=1000001):item^.tup [.str a,.str b,.int l]:=by
 exists G1 λd c=>?_,?_
 .simp at c
  rcases c with rfl|rfl|rfl
  .exact e.1
  .exact f.1
  .exact g
 .show a.length+1+(b.length+1+(200+1+0))<=450
  omega
 .show max 0^max 0^max 0 0+1<=1
  decide
def KS{N:Net}(ok:N.Ok):∀d∈N.ts.map Ad,item d:=λd c=>by
 let#[t,e,rfl]:=Tk.mp c;let#[f,g,_,h,i]:=ok.tin t e;have a:=ok.names _ f;have b:=ok.names _ g;exact Vh (Fd a) (Fd b) a.2.1 b.2.1^by lk
def Xp{N:Net}(ok:N.Ok):∀d∈N.ps.map D.str,item d:=λd a=>by
 let#[x,b,rfl]:=Tk.mp a;exact Fd^ok.names x b
def ZE{b c:s_ D}(hx:∀d∈b,item d)(e:∀d∈c,item d)(f:b.length<=26)(g:c.length<=80):fine 1000001^.tup [.tup b,.tup c]/\C7^.tup [.tup b,.tup c]<=48000/\F5^.tup [.tup b,.tup c]<=3:=by
 have h:=Px λd a=>mX (hx d a).2.1;have i:=Px λd a=>mX (e d a).2.1;have j:=dps_le.mpr λd a=>(hx d a).2.2;have k:=dps_le.mpr λd a=>(e d a).2.2;exists G1 λd a=>?_,?_
 .simp at a
  rcases a with rfl|rfl
  .exact G1 λd a=>(hx d a).1
  .exact G1 λd a=>(e d a).1
 .show CH b+1+(CH c+1+0)<=48000
  omega
 .show max (F4 b+1)^max (F4 c+1) 0+1<=3
  omega
def WR{p:D->Prop}{xs:s_ D}(h:∀d∈xs,p d){o:Int}(b:0<=o)(c:o<(xs.length:Int)):∃z,atI xs o=P3 z/\p z:=by
 obtain⟨k,rfl⟩:∃k:Nat,o=k:=#[o.toNat,by lk];have a:k<xs.length:=by lk
 exact#[_,AJ^On a,h _^gn a]
def DL(x:Str):¬cs x<cs x:=je _
def z1:1<=sizeLine:=by cbv
def z2:2<=sizeLine:=by cbv
def z3:3<=sizeLine:=by cbv
def z4:4<=sizeLine:=by cbv
def z0:0<=sizeLine:=f8 _
def bF(s t:Ax):Decidable (s=t):=
 if h:s.a=t.a/\s.b=t.b/\s.len=t.len then .isTrue (by let#[a,b,l]:=s;let#[g,i,j]:=t;let#[c,d,f]:=h;simp only at c d f;subst c d f;rfl)else .isFalse λe=>h^by rw[e];exact#[rfl,rfl,rfl]
instance:DecidableEq Ax:=bF
abbrev EF(a:D->Nat->Prop):E2:={nx:=λn _=>Kd.fr=.sh/\a .non n,rt:=a}
def Bj(t:Ax):s_ Key:=[.inl t.len,.inr t.a,.inr t.b]
def Cj(a:s_ Ax):Prop:=a.Pairwise λs t=>A9 (Bj t)^Bj s=r_
def OP:D->D
 |.tup [x,y,z]=>.tup [z,x,y]
 |d=>d
def eQ(x:Str×Int):D:=.tup [.str x.1,.int x.2]
abbrev Pa:W2:=λa n P=>∃x y z:D,a=[.sh^.tup [x,y,z]]/\P (.tup [z,x,y]) n
def FP:W2:=λc n P=>∃(d:D) (b:s_ Ax),c=[.sh d]/\D9 d=P3^b.map Ad/\b.length<64/\∀a:s_ Ax,a.Perm b->Cj a->P (.lst^a.map Ad) n
def Tl:Aa:=(Au^A_^AD (AU A7 (AC 0)^wC^D.int 2)^AD (AU A7 (AC 0)^wC^D.int 0)^AD (AU A7 (AC 0)^wC^D.int 1) AQ)
def Kr:Aa:=(Au^UB Pa^AC 0)
def OM{s t:Ax}(h:Bj s=Bj t):s=t:=by
 let#[a,b,l]:=s;let#[c,d,e]:=t;unfold Bj at h
 grind
theorem Ms{g:Type}{R:g->g->Prop}(c:∀a b,R a b->R b a->a=b):∀{d f:s_ g},d.Perm f->d.Pairwise R->f.Pairwise R->d=f
 |[],f,p,_,_=>(List.nil_perm.mp p).symm
 |a::d,[],p,_,_=>absurd (List.perm_nil.mp p)^i9 _ _
 | a::d,b::f,p,i,j=>by
  have e:a=b:=by
   rcases T0.mp^p.mem_iff.mp Op with e|h
   .exact e
   .rcases T0.mp^p.mem_iff.mpr^Op with e|k
    .exact e.symm
    .exact c a b ((iF.mp i).1 b k)^(iF.mp j).1 a h
  subst e;rw[Ms c ((List.perm_cons a).mp p) (iF.mp i).2 (iF.mp j).2]
def Dl{c d:s_ Ax}(p:c.Perm d)(e:Cj c)(f:Cj d):c=d:=Ms (λa b x y=>OM^Bv _ _ y x) p e f
def Q_{b:Type}{f:b->D}{g:D->b}(e:∀x,g^f x=x){c:s_ D}{d:s_ b}(h:c.Perm^d.map f):∃a:s_ b,a.Perm d/\c=a.map f:=by
 exists c.map g,?_
 .have:=h.map g
  rw[jG,show g∘f=id from funext e,ln]at this;exact this
 .rw[jG]
  have:∀x∈c,(f∘g) x=x:=λx i=>by
   let#[t,_,rfl]:=Tk.mp^h.mem_iff.mp i
   grind
  rw[lf this,List.map_id']
def aH:D->Ax
 |.tup [.str a,.str b,.int l]=>#[a,b,l]
 |_=>#["","",0]
section
variable {ss:s_ Slot}{n:Nat}{Pd:D->Nat->Prop}
def P7(h:Pa ss n Pd):Tl (EE Pd) n (ss++ZB 0 .no):=by
 let#[x,y,z,rfl,p]:=h;exact#[_,AJ rfl,_,AJ rfl,_,AJ rfl,z3,p]
def VN{a:s_ Ax}(h:HL (λx=>Ct^OP x)^a.map Ad):Cj a:=by
 unfold HL at h;rw[j5]at h;exact h.imp λ{s t} z=>z _ _ rfl rfl
def ON(h:FP ss n Pd):Kr (EF Pd) n (ss++ZB 0 .no):=by
 let#[d,e,rfl,f,b,p]:=h;unfold Kr;refine#[e.map Ad,OP,f,by rw[No];exact b,λx a Q i=>?_,#[λx a=>?_,λx a y j k l m o=>?_],λq r s=>?_]
 .let#[t,_,rfl]:=Tk.mp a
  exact#[_,_,_,rfl,i]
 .let#[t,_,rfl]:=Tk.mp a
  exact#[Bj t,rfl,i9 _ _]
 .let#[t,_,rfl]:=Tk.mp a
  let#[u,_,rfl]:=Tk.mp j;cases(show P3^Bj t=P3 k from m);cases(show P3^Bj u=P3 l from o);rfl
 .let#[c,v,rfl]:=Q_ (g:=aH) (λ_=>rfl) r
  exact p c v^VN s
def M_{N:Net}(ok:N.Ok){x:Str}{p:Str×Int}(h:p∈Do N.ts x):p.1∈N.ps/\1<=p.2/\p.2<=1000000/\∃t∈N.ts,t.len=p.2/\((t.a=x/\t.b=p.1)\/(t.b=x/\t.a=p.1)):=by
 let#[t,c,h]:=jj.mp h;let#[g,i,j,d,f]:=ok.tin t c
 rcases eq.mp h with h|h
 .split at h
  .rename_i e
   rw[Sc.mp h];exact#[i,d,f,t,c,rfl,.inl #[e,rfl]]
  .cases h
 .split at h
  .rename_i e
   rw[Sc.mp h];exact#[g,d,f,t,c,rfl,.inr #[e,rfl]]
  .cases h
def Lx(s t:Ax):Fn (Bj s)^Bj t=A9 (Bj s)^Bj t:=Gx _ _ rfl
def NK(s t:Ax):E_ (Ad s)^Ad t=q_↔s=t:=by
 let#[a,b,l]:=s;let#[c,d,e]:=t;show(a==c&&(b==d&&(l==e&&q_)))=q_↔_
 simp_all
def Lz{a:s_ D}(h:∀d∈a,item d):Dw^.lst a:=by
 have c:=dps_le.mpr λd b=>(h d b).2.2;exact Cd (by cbv) (fines_iff.mpr λd b=>(h d b).1)^by show F4 a+1<=100;lk
theorem Fe{a b:Type}(f:a->b):∀(l:s_ a) (i:Nat),(l.map f).eraseIdx i=(l.eraseIdx i).map f
 |[],i=>rfl
 |x::l,0=>rfl
 |x::l,i+1=>by
  show f x::(l.map f).eraseIdx i=f x::(l.eraseIdx i).map f;rw[Fe f l i]
def V1(a:s_ D):E_ (.lst a)^.lst []=a.isEmpty:=by
 cases a with
 |nil=>rfl
 |cons x r=>rfl
def X0{N:Net}(ok:N.Ok){x o:Str}{s t:Ax}(j:s∈N.ts)(k:t∈N.ts)(e:Bx s t)(l:(s.a=x/\s.b=o)\/(s.b=x/\s.a=o))(m:(t.a=x/\t.b=o)\/(t.b=x/\t.a=o)):False:=by
 have i:=(ok.tin s j).2.2.1;have lt:=(ok.tin t k).2.2.1;have c:∀a,¬cs a<cs a:=λa=>je _
 rcases l with⟨d,f⟩|⟨d,f⟩ <;>rcases m with⟨g,h⟩|⟨g,h⟩ <;>rw[d,f]at i <;>rw[g,h]at lt
 .rcases e with e|⟨_,e⟩
  .rw[d,g]at e;exact c _ e
  grind
 .grind
 .exact c _^List.lt_trans i lt
 .rcases e with e|⟨_,e⟩
  .rw[f,h]at e;exact c _ e
  grind
def S4{N:Net}(ok:N.Ok)(x:Str):((Do N.ts x).map (·.1)).Nodup:=by
 have m:∀c:s_ Ax,(∀t∈c,t∈N.ts)->c.Pairwise Bx->((Do c x).map (·.1)).Nodup:=by
  intro c
  induction c with
  |nil=>intro _ _;exact gl
  | cons t c o=>
   intro d l;have k:=o (λs i=>d s^TM _ i) (iF.mp l).2;have lt:=(ok.tin t^d t Op).2.2.1
   have f:∀y,((t.a=x/\t.b=y)\/(t.b=x/\t.a=y))->y∉(Do c x).map (·.1):=λy p q=>by
    let#[s,i,h]:=M9 q;exact X0 ok (d t Op) (d s^TM _ i) ((iF.mp l).1 s i) p h
   have e:Do (t::c) x=((if t.a=x then [(t.b,t.len)]else [])++(if t.b=x then [(t.a,t.len)]else []))++Do c x:=by
    unfold Do;rw[List.flatMap_cons]
   rw[e]
   by_cases j:t.a=x
   .have g:¬t.b=x:=λz=>by rw[j,z]at lt;exact je _ lt
    rw[if_pos j,if_neg g,gK,lD,g9,gX];exact#[f _^.inl #[j,rfl],k]
   .rw[if_neg j,gu]
    by_cases g:t.b=x
    .rw[if_pos g,lD,g9,gX]
     exact#[f _^.inr #[g,rfl],k]
    .rw[if_neg g,gu]
     exact k
 exact m N.ts (λ_ h=>h) ok.trise
end
def CG(t:Ax):s_ Key:=[.inr t.a,.inr t.b,.inl t.len]
def cX(t:Ax):s_ Key:=[.inr t.a,.inr t.b]
def Ih(a:s_ Ax):Prop:=a.Pairwise λs t=>A9 (CG t)^CG s=r_
def Q5(N:Net)(d:D):Prop:=∃a:s_ Ax,d=.tup [.tup^N.ps.map .str,.tup^a.map Ad]/\(∀t∈a,t∈N.ts)/\a.Pairwise Bx
noncomputable def thinB(N:Net)(d:D):Bool:=@decide (Q5 N d)^jn _
def thinB_iff{N:Net}{d:D}:thinB N d=q_↔Q5 N d:=by
 unfold thinB
 grind
def V0{N:Net}{d:D}{b:Bool}(h:b=q_↔Q5 N d):b=thinB N d:=by
 rw[iK,thinB_iff];exact h
def bE(N:Net)(d:D):Prop:=∃s∈N.ts,d=Ad s
noncomputable def Eh(N:Net)(d:D):Bool:=@decide (bE N d)^jn _
def tofB_iff{N:Net}{d:D}:Eh N d=q_↔bE N d:=by
 unfold Eh
 grind
def Ys{a:Str}{x:D}(h:E_ (.str a) x=q_):x=.str a:=by
 cases x with
 |str b=>
  have h:(a==b)=q_:=h
  grind
 |_=>cases h
def cW{a:Str}{x:D}(h:E_ x^.str a=q_):x=.str a:=by
 cases x with
 |str b=>
  have h:(b==a)=q_:=h
  grind
 |_=>cases h
theorem IZ:∀{a:s_ D}{b:s_ Str},mH (Bq a)^Bq^b.map .str=q_->a=b.map .str
 |[],[],_=>rfl
 |[],_::_,h=>by cases h
 |_::_,[],h=>by cases h
 |x::a,p::b,h=>by
  have h:(iL _ _&&mH _ _)=q_:=h;rw[gP]at h;rw[cW h.1,IZ h.2];rfl
theorem eqvAll_refl:∀a:s_ Str,mH (Bq^a.map .str)^Bq^a.map .str=q_
 |[]=>rfl
 |p::a=>by
  show((p==p)&&mH _ _)=q_;rw[beq_self_eq_true,eqvAll_refl a];rfl
def eqD_strs{p:D}{a:s_ Str}:E_ p^.tup^a.map .str=q_↔p=.tup^a.map .str:=by
 constructor
 .intro h
  cases p with
  |tup b=>rw[IZ h]
  |_=>cases h
 .rintro rfl
  exact eqvAll_refl a
def MA{s:Ax}{d:D}(h:E_ (Ad s) d=q_):∃z,d=.tup [.str s.a,.str s.b,z]/\∀i,z=.int i->i=s.len:=by
 cases d with
 | tup c=>
  match c,h with
  |[x,y,z],h=>
   have h:(iL (toPy^.str s.a)^toPy x&&(iL (toPy^.str s.b)^toPy y&&(iL (.int s.len)^toPy z&&q_)))=q_:=h;rw[Bool.and_true,gP,gP]at h;refine#[z,by rw[Ys (a:=s.a) (x:=x) h.1,Ys (a:=s.b) (x:=y) h.2.1],λi e=>?_];subst e;have f:(s.len==i)=q_:=h.2.2
   grind
  |[],h=>cases h
  |[x],h=>exact absurd h^by show ¬((iL (toPy^.str s.a)^toPy x&&r_)=q_);simp
  |[x,y],h=>exact absurd h^by show ¬((iL (toPy^.str s.a)^toPy x&&(iL (toPy^.str s.b)^toPy y&&r_))=q_);simp
  |x::y::z::u::r,h=>exact absurd h^by show ¬((iL (toPy^.str s.a)^toPy x&&(iL (toPy^.str s.b)^toPy y&&(iL (.int s.len)^toPy z&&r_)))=q_);simp
 |_=>cases h
def NL(s:Ax):E_ (Ad s)^Ad s=q_:=(NK s s).mpr rfl
theorem Nb{f:Ax->D}{k:Ax->s_ Key}(d:∀s t,VX (f s)^f t=P3^A9 (k s)^k t):∀{ts:s_ Ax},Tx^ts.map f=q_↔ts.Pairwise λs t=>A9 (k s)^k t=q_
 |[]=>#[λ_=>.nil,λ_=>rfl]
 |[t]=>#[λ_=>mj _ _,λ_=>rfl]
 | s::t::r=>by
  show((VX _ _==P3 _)&&Tx^(t::r).map f)=q_↔_;rw[gP,Nb d (ts:=t::r),d,iF (a:=s)];constructor
  .rintro⟨b,e⟩
   have b:=gH^eq_of_beq b;refine#[λu c=>?_,e]
   rcases T0.mp c with rfl|c
   .exact b
   .exact B_ _ _ _ b^(iF.mp e).1 u c
  simp_all
def KG(s t:Ax):VX (Ad s)^Ad t=P3^A9 (CG s)^CG t:=by
 show(if(q_&&(q_&&(q_&&q_)))=q_ then P3^Fn (CG s)^CG t else p_)=_;rw[if_pos (show(q_&&(q_&&(q_&&q_)))=q_ from rfl),Gx _ _ rfl]
def ekey_iff{s t:Ax}:A9 (cX s)^cX t=q_↔Bx s t:=by
 show(if i4 _=.inr _ then(if i4 _=.inr _ then r_ else decide (cs _<cs _))else decide (cs _<cs _))=q_↔(cs _<cs _\/(s.a=t.a/\cs _<cs _))
 by_cases c:s.a=t.a
 .rw[if_pos^by rw[c]]
  by_cases d:s.b=t.b
  .simp_all
  .rw[if_neg λe=>d^jA e,decide_eq_true_eq,c]
   constructor
   .intro h;simp_all
   grind
 simp_all
def LR(s:Ax):¬Bx s s:=by
 rintro(h|⟨_,h⟩) <;>exact DL _ h
def MZ{s t:Ax}(h:Bx s t):A9 (CG s)^CG t=q_:=by
 show(if i4 _=.inr _ then(if i4 _=.inr _ then(if kZ _=.inl _ then r_ else decide _)else decide (cs _<cs _))else decide (cs _<cs _))=q_
 rcases h with h|⟨h,c⟩
 .rw[if_neg λe=>DL s.a^by simp_all,decide_eq_true h]
 .rw[if_pos (by rw[h]),if_neg λe=>DL s.b^by grind,decide_eq_true c]
theorem FZ:∀{e:s_ Ax},e.Pairwise Bx->∀s∈e,∀t∈e,s.a=t.a->s.b=t.b->s=t
 |[],_,s,c,_,_,_,_=>by cases c
 | x::e,h,s,c,t,d,g,i=>by
  have h:=iF.mp h
  rcases T0.mp c with j|c
  .rcases T0.mp d with f|d
   .rw[j,f]
   .rcases h.1 t d with h|⟨_,h⟩
    .grind
    grind
  .rcases T0.mp d with f|d
   .rcases h.1 s c with h|⟨_,h⟩
    .rw[←f,g]at h;exact absurd h^DL _
    grind
   .exact FZ h.2 s c t d g i
def Rz{N:Net}(ok:N.Ok){s t:Ax}(f:s∈N.ts)(g:t∈N.ts)(h:A9 (CG s)^CG t=q_):Bx s t:=by
 have h:(if i4 _=.inr _ then(if i4 _=.inr _ then(if kZ _=.inl _ then r_ else decide _)else decide _)else decide _)=q_:=h
 by_cases c:s.a=t.a
 .rw[if_pos^by rw[c]]at h
  by_cases d:s.b=t.b
  .rw[if_pos (by rw[d]),if_pos^by rw[FZ ok.trise s f t g c d]]at h
   cases h
  .rw[if_neg λe=>d^jA e,decide_eq_true_eq]at h
   exact .inr #[c,h]
 .rw[if_neg λe=>c^jA e,decide_eq_true_eq]at h
  exact .inl h
def BC{a:s_ Ax}(h:a.Pairwise Bx):a.Nodup:=h.imp λ{s t} h e=>by rw[e]at h;exact LR _ h
def sub_len{l m:s_ Ax}(a:l.Nodup)(b:m.Nodup)(h:∀t∈l,t∈m):l.length<=m.length:=by
 have:l.Perm (m.filter λt=>decide (t∈l)):=(kO a^b.filter _).mpr λt=>by
  simp_all
 rw[this.length_eq];exact gs _ _
def Py{N:Net}(ok:N.Ok){a:s_ Ax}(h:∀t∈a,t∈N.ts)(b:a.Pairwise Bx):Net.Ok #[N.ps,a]:=#[ok.names,ok.rise,λt c=>ok.tin t^h t c,b]
theorem Li{P:Ax->Prop}:∀{b:s_ D},(∀d∈b,∃s,P s/\d=Ad s)->∃a:s_ Ax,b=a.map Ad/\∀t∈a,P t
 |[],_=>#[[],rfl,λt h=>by cases h]
 |d::b,h=>by
  let#[s,f,rfl]:=h d Op;let#[a,rfl,g]:=Li λe c=>h e^TM _ c;refine#[s::a,rfl,λt z=>?_]
  grind
def JT{N:Net}{a:s_ D}(h:a.all^Eh N=q_):∃b:s_ Ax,a=b.map Ad/\∀t∈b,t∈N.ts:=
 Li λd c=>by
  let#[s,f,e]:=tofB_iff.mp^i7.mp h d c;exact#[s,f,e]
def Lj{N:Net}(ok:N.Ok)(p:D)(b:s_ D):(E_ p^.tup^N.ps.map .str&&(b.all^Eh N&&Tx b))=thinB N^.tup [p,.tup b]:=by
 refine V0 #[λh=>?_,λh=>?_]
 .rw[gP,gP]at h
  let#[f,rfl,a]:=JT h.2.1;exists f,by rw[eqD_strs.mp h.1],a
  have:=(Nb KG).mp h.2.2
  exact this.imp_of_mem λ{s t} g c z=>Rz ok (a s g) (a t c) z
 .let#[f,e,a,i]:=h
  cases e;rw[gP,gP];refine#[eqD_strs.mpr rfl,i7.mpr λd j=>?_,(Nb KG).mpr^i.imp λ{s t} z=>MZ z];let#[t,c,rfl]:=Tk.mp j;exact tofB_iff.mpr #[t,a t c,rfl]
def En{N:Net}{d:D}(h:∀p a,d≠.tup [p,.tup a]):thinB N d=r_:=by
 rw[h9];intro z;let#[b,e,_]:=thinB_iff.mp z;exact h _ _ e
end Nt
namespace L2
open PySem.W
end L2
namespace Dp
open L2
end Dp
namespace Nt
open L2 Dp
def look(a:s_ Ax)(x y:Str):t_ Int:=((Do a x).find? λz=>decide (z.1=y)).map (·.2)
def DV(a:s_ Ax):Str->s_ Str->Int->t_ Int
 |_,[],s=>P3 s
 |x,y::r,s=>match look a x y with
  |some l=>DV a y r (s+l)
  |none=>p_
def Jm:t_ Int->D
 |some i=>.int i
 |none=>.non
def Dx:D->Bool
 |.str _=>q_
 |_=>r_
def QV(N:Net):s_ Str->D
 |x::r=>if x∈N.ps then Jm^DV N.ts x r 0 else .non
 |[]=>.non
def KH(N:Net):D->D
 |.tup a=>if a.all Dx then QV N^strsOf a else .non
 |_=>.non
def NH(d:D):Prop:=fine (10 ^ 40) d/\C7 d<=160000/\F5 d<=50
abbrev aW:W2:=λa n P=>∃(N:Net) (d:D),a=[.sh^enc N,.sh d]/\N.Ok/\N.ps.length<=26/\N.ts.length<=60/\NH d/\P (KH N d) n
def O9:Aa:=(Ae (BH (DM (Cp^AW^El "tuple"^AC 1)^AW^AU (Ej r_) (CB C6^AD (AC 1) AQ)^wC^D.int 0) (Au^wC D.non) Av)
 (Ae (BH (Cp^AW^CB LQ^AD (CQ [p_] (BA^AC 1) (AR 0) Ek^El "str"^AC 0) AQ) (Au^wC D.non) Av)
 (Ae (BI 2^AZ Nq^AE (AL^AC 0) AY)
 (Ae (BH (AW^AU (GJ q_) (AU A7 (AC 1)^wC^D.int 0)^AC 2) (Au^wC D.non) Av)
 (Ae (BI 3^wC^D.int 0)
 (Ae (C8 (T9^AD (AC 1)^AD (HN Cg (AC 1) (Bn^wC^D.int 1) BD) AQ) (CF 2^AX (AR 4)^AX (AR 5) BZ) (Ae (BH (AW^AU (GJ q_) (AC 5)^AU BR (AC 2)^AC 4) (Au^wC D.non) Av)
 (UJ 3^AU BR (AU BR (AC 2)^AC 4)^AC 5)))
 (Au^AC 3)))))))
theorem JU:∀{b:s_ D},b.all Dx=q_->∃a:s_ Str,b=a.map .str
 |[],_=>#[[],rfl]
 |d::r,h=>by
  rw[kN,gP]at h;let#[a,e]:=JU h.2;cases d with
  |str x=>exact#[x::a,by grind]
  |_=>cases h.1
def all_strs(a:s_ Str):(a.map D.str).all Dx=q_:=by rw[List.all_map];exact i7.mpr λ_ _=>rfl
theorem MX{g:Str->D}{x:Str}:∀{a:s_ Str},Bo (a.map .inr) (a.map g)^.inr x=if x∈a then P3^g x else p_
 |[]=>rfl
 |p::a=>by
  show(if i4 p=.inr x then P3 _ else Bo _ _ _)=_;rw[MX]
  grind
theorem MY{y:Str}:∀{a:s_ (Str×Int)},Bo (a.map λx=>.inr x.1) (a.map λx=>.int x.2)^.inr y=((a.find? λz=>decide (z.1=y)).map (·.2)).map .int
 |[]=>rfl
 |p::b=>by
  show(if i4 _=.inr y then P3 _ else Bo _ _ _)=_;rw[MY]
  by_cases e:p.1=y
  .simp_all
  simp_all
def Oh{N:Net}(ok:N.Ok){x y:Str}{l:Int}(h:look N.ts x y=P3 l):y∈N.ps/\1<=l/\l<=1000000:=by
 unfold look at h;cases c:(Do N.ts x).find? λz=>decide (z.1=y)with
 |none=>grind
 |some z=>
  have d:=lQ c;let#[t,b,a]:=jj.mp^jc c;let#[e,f,_,g,i]:=ok.tin t b
  rcases eq.mp a with a|a
  .simp_all
  simp_all
section
variable {ss:s_ Slot}{n:Nat}{Pd:D->Nat->Prop}
theorem Og{N:Net}(ok:N.Ok){d:E2}{e f:Slot}:∀(r:s_ Str) (x:Str) (s:Int) (a b:Slot),x∈N.ps->(match DV N.ts x r s with|some l=>∀a b,d.nx n [e,f,.sh^Ep N,.sh^.int l,a,b]|none=>d.rt .non n)->
  A0 (CF 2^AX (AR 4)^AX (AR 5) BZ) (Ae (BH (AW^AU (GJ q_) (AC 5)^AU BR (AC 2)^AC 4) (Au^wC D.non) Av)^UJ 3^AU BR (AU BR (AC 2)^AC 4)^AC 5) d (Ds ((x::r).map .str)^r.map .str) n [e,f,.sh^Ep N,.sh^.int s,a,b]
 |[],x,s,a,b,g,h=>h a b
 | y::r,x,s,a,b,g,h=>by
  have i:Bo (N.ps.map .inr) (N.ps.map^Wn N.ts)^.inr x=P3^Wn N.ts x:=by rw[MX,if_pos g]
  exists rfl,rfl;exists _,_,.inr x,_,rfl,rfl,i,_,_,.inr y,rfl,rfl;rw[MY];unfold DV at h;have j:((Do N.ts x).find? λz=>decide (z.1=y)).map (·.2)=look N.ts x y:=rfl;rw[j];cases c:look N.ts x y with
  |none=>rw[c]at h;exact Bw h
  |some l=>
   rw[c]at h;have k:Bo ((Do N.ts x).map λz=>.inr z.1) ((Do N.ts x).map λz=>.int z.2)^.inr y=P3^.int l:=by rw[MY,j,c];rfl
   refine Br #[s,rfl,_,_,.inr x,_,rfl,rfl,i,_,_,.inr y,_,rfl,rfl,k,l,rfl,?_];exact Og ok r y (s+l) _ _ (Oh ok c).1 h
def Mj(t:aW ss n Pd):O9 (EE Pd) n (ss++ZB 4 .no):=by
 let#[N,d,rfl,ok,v,lt,fd,p]:=t;cases d with
 | tup b=>
  have w:=EL b;have x:CH b<=160000:=fd.2.1;have f:Pd (if b.all Dx then QV N^strsOf b else .non) n:=p;exists _,_,rfl,rfl;show if((b.length:Int)==0)=q_ then _ else _
  cases b with
  |nil=>exact Bw f
  | cons g h=>
   rw[show(((g::h).length:Int)==0)=r_ from beq_eq_false_iff_ne.mpr^by rw[gB];lk];refine Br #[by lk,?_];refine B0 (λd=>.bl^Dx d) (λq=>∃s,q=[s]) _ _ _ _ ?_ #[_,rfl] ?_
   .rintro d z q m A ⟨s,rfl⟩ i
    have:=i [.sh d] #[_,rfl]
    cases d <;>exact this
   rw[gu];exists _,_,rfl,HG Dx (g::h);rw[WV];show if(!(g::h).all Dx)=q_ then _ else _
   cases k:(g::h).all Dx with
   |false=>rw[k]at f;exact Bw f
   | true=>
    rw[k]at f;let#[u,e]:=JU k;rw[e,B7]at f;cases u with
    |nil=>cases e
    | cons y r=>
     rw[g9]at e;cases e;refine Br #[N,rfl,ok,by lk,by lk,?_];exists .str y,AJ (j:=0) rfl,_,_,.inr y,rfl,rfl;show if(!(Bo (N.ps.map .inr) (N.ps.map^Wn N.ts)^.inr y).isSome)=q_ then _ else _
     rw[MX];have a:Pd (if y∈N.ps then Jm^DV N.ts y r 0 else .non) n:=f
     by_cases o:y∈N.ps
     .rw[if_pos o]at a ⊢
      refine Br #[_,_,(y::r).map .str,r.map .str,rfl,rfl,by show P3^Dp.cutD (D.str y::r.map .str) (P3 1) p_=_;rw[WK];rfl,?_];refine Og ok r y 0 _ _ o ?_;cases c:DV N.ts y r 0 with
      |none=>rw[c]at a;exact a
      |some l=>rw[c]at a;exact λ_ _=>a
     .rw[if_neg o]at a ⊢
      exact Bw a
 |_=>exact p
theorem DR{b:BW}{p:HM}{q:DW}{P:s_ D->Nat->Prop}(c:D->Bool)(g:D->D)(I:s_ Slot->Prop):∀(j e:s_ D) (n:Nat) (f:s_ Slot),
  (∀d∈j,∀(f:s_ Slot) (n:Nat) (r:D->Nat->s_ Slot->Prop) (s:Nat->s_ Slot->Prop),I f->(∀i,I i->c d=q_->r (g d) n i)->(∀i,I i->c d=r_->s n i)->b d f λk=>p n k λc t=>if c=q_ then q t k λy u=>r y u k else s t k)->I f->P (e++(j.filter c).map g) n->E4 b p q P j e n f
 |[],e,n,f,_,_,h=>by rw[List.filter_nil,nN,gK]at h;exact h
 |d::j,e,n,f,l,m,h=>l d Op f n _ _ m
  (λi a v=>DR c g I j _ n _ (λd o=>l d^TM _ o) a^by simp_all)
  (λi a v=>DR c g I j _ n _ (λd o=>l d^TM _ o) a^by grind)
end
def aV:W2:=λa n P=>∃(N:Net) (d:D),a=[.sh^enc N,.sh d]/\N.Ok/\Dw d/\P (.bl^Eh N d) n
def MO:W2:=λa n P=>∃(N:Net) (d:D),a=[.sh^enc N,.sh d]/\N.Ok/\N.ps.length<=24/\N.ts.length<=60/\fine (10 ^ 41) d/\C7 d<=200000/\F5 d<=90/\P (.bl^thinB N d) n
def Pb:W2:=λc n P=>∃(N:Net) (b:s_ Ax),c=[.sh^enc N,.sh^enc #[N.ps,b]]/\N.Ok/\N.ts.length<64/\(∀t∈b,t∈N.ts)/\∀a:s_ Ax,a.Perm (N.ts.filter λt=>decide (t∉b))->Cj a->P (.lst^a.map Ad) n
def Ii:Aa:=(Au^Pp (AU (NI r_) (AC 1)^AU A7 (AC 0)^wC^D.int 1)^AZ Hy^AE (AL^AU A7 (AC 1)^wC^D.int 2) AY)
def ML:Aa:=(Ae (BH (DM (Cp^AW^AZ HI^AE (AL^wC^D.int 2)^AE (AL^AC 1) AY)^Cp^AW^El "tuple"^AU A7 (AC 1)^wC^D.int 1) (Au^wC^D.bl r_) Av)
 (Au^Pp (AU aB (AU A7 (AC 1)^wC^D.int 0)^AU A7 (AC 0)^wC^D.int 0)^Pp (CB LQ^AD (CQ [P3 0,p_] (BA^AU A7 (AC 1)^wC^D.int 1) (AR 1) Ek^AZ aV^AE (AL^AC 0)^AE (AL^AC 1) AY) AQ)^AZ Nv^AE (AL^AU A7 (AC 1)^wC^D.int 1) AY))
def Ks:Aa:=(Au^AZ FP^AE (AL^CQ [P3 1,p_] (BA^AU A7 (AC 0)^wC^D.int 1) (AR 1) (AW^AU (NI q_) (AC 1)^AU A7 (AC 0)^wC^D.int 1)^AC 1) AY)
def RX{a:s_ Ax}(h:HL Ct^a.map Ad):Ih a:=by
 unfold HL at h;rw[j5]at h;exact h.imp λ{s t} z=>z _ _ rfl rfl
def E7{N:Net}(ok:N.Ok){a:s_ Ax}(h:∀t∈a,t∈N.ts):Dw^.tup^a.map Ad/\Dw^.lst^a.map Ad:=by
 have c:∀d∈a.map Ad,item d:=λd b=>by
  let#[t,e,rfl]:=Tk.mp b;exact KS ok _^Tk.mpr #[t,h t e,rfl]
 have f:F4^a.map Ad<=1:=dps_le.mpr λd b=>(c d b).2.2;exact#[Cd (B:=1000001) (by cbv) (fines_iff.mpr λd b=>(c d b).1) (by show F4^a.map Ad+1<=100;lk),Lz c]
def Rf{N:Net}(ok:N.Ok){t:Ax}(h:t∈N.ts):Dw^Ad t:=by
 have a:=KS ok _^Tk.mpr #[t,h,rfl];exact Cd (B:=1000001) (by cbv) a.1^by have:=a.2.2;lk
def Na{a:s_ Ax}{t:Ax}:((a.map Ad).any λy=>E_ y^Ad t)=decide (t∈a):=by
 rw[iK,i8,decide_eq_true_eq];constructor
 .rintro⟨d,b,e⟩
  let#[s,c,rfl]:=Tk.mp b;rw[←(NK s t).mp e];exact c
 .intro h
  exact#[Ad t,Tk.mpr #[t,h,rfl],(NK t t).mpr rfl]
theorem JC:∀a:s_ D,a.length<=CH a
 |[]=>f8 _
 |x::a=>by
  have:=JC a
  show a.length+1<=C7 x+1+CH a;lk
theorem KL:∀c:s_ Ax,200*c.length<=CH^c.map Ad
 |[]=>f8 _
 |t::c=>by
  have:=KL c
  show 200*(c.length+1)<=t.a.length+1+(t.b.length+1+(200+1+0))+1+CH^c.map Ad;lk
section
variable {ss:s_ Slot}{n:Nat}{Pd:D->Nat->Prop}
def Mm(h:aV ss n Pd):Ii (EE Pd) n (ss++ZB 0 .no):=by
 let#[N,d,rfl,ok,g,p]:=h;unfold Ii;exists _,AJ (j:=1) rfl,g,(E7 ok λ_ h=>h).1,_,rfl;cases c:(N.ts.map Ad).any λy=>E_ y d with
 | false=>
  have:Eh N d=r_:=by
   rw[h9];intro z;let#[s,f,rfl]:=tofB_iff.mp z;rw[Na,decide_eq_true f]at c;cases c
  rw[this]at p;exact p
 | true=>
  let#[e,k,q]:=i8.mp c;let#[s,f,rfl]:=Tk.mp k;let#[z,rfl,l]:=MA q;exists _,AJ (j:=2) rfl,[z],rfl,rfl
  have:Eh N^.tup [.str s.a,.str s.b,z]=HP z:=by
   rw[iK,tofB_iff];constructor
   .rintro⟨t,_,e⟩
    have e:z=.int t.len:=by injection e with e;injection e with _ e;injection e with _ e;injection e
    rw[e];rfl
   .intro m
    cases z with
    |int i=>exact#[s,f,by rw[l i rfl];rfl]
    |_=>cases m
  rw[this]at p;exact p
def P_(h:MO ss n Pd):ML (EE Pd) n (ss++ZB 0 .no):=by
 let#[N,d,rfl,ok,H,I,o,u,v,p]:=h;unfold ML;exists 2,d,rfl;cases f:tupleOfB 2 d with
 |false=>
  rw[En λp c e=>by rw[e]at f;cases f]at p;exact Bw p
 | true=>
  let#[x,y,rfl]:=dg f;refine Br #[_,AJ (j:=1) rfl,?_];cases y with
  | tup c=>
   rw[←Lj ok]at p;have w:fine (10 ^ 41) x:=o.1;have z:Ea (10 ^ 41) c:=o.2.1;have A:max (F5 x)^max (F4 c+1) 0+1<=90:=v;have C:C7 x+1+(CH c+1+0)<=200000:=u;refine Br #[_,AJ (j:=0) rfl,_,AJ (j:=0) rfl,Cd (B:=10 ^ 41) (by cbv) w^by lk,Fb ok.names,?_];refine WU (b1:=E_ x^.tup^N.ps.map .str) (b2:=c.all^Eh N&&Tx c) (P:=Pd) (n:=n) (k:=λP=>_) (λ_ g=>?_) p;refine#[_,AJ (j:=1) rfl,by show c.length<=10000000;have:=JC c;lk,?_];refine B0 (λd=>.bl^Eh N d) (λq=>∃s,q=[.sh^enc N,s]) _ _ _ _ ?_ #[_,rfl] ?_
   .rintro e r q m J ⟨s,rfl⟩ i
    have D:F4 c<=88:=by lk
    exact#[N,e,rfl,ok,Cd (B:=10 ^ 41) (by cbv) (fines_iff.mp z e r) (by have:=dps_le.mp D e r;lk),i _ #[_,rfl]]
   rw[gu];exists _,_,rfl,HG (Eh N) c;rw[WV];refine WU (b1:=c.all^Eh N) (b2:=Tx c) (P:=Pd) (n:=n) (k:=λP=>_) (λl g=>?_) g;let#[E,rfl,F]:=JT l
   have:=KL E
   refine#[_,AJ (j:=1) rfl,_,_,rfl,rfl,by rw[No];lk,λa l b G=>?_,g];let#[s,_,rfl]:=Tk.mp l;let#[t,_,rfl]:=Tk.mp G;exact#[_,KG s t]
  |_=>
   rw[En λp c e=>by cases e]at p;exact Bw p
def OO(h:Pb ss n Pd):Ks (EF Pd) n (ss++ZB 0 .no):=by
 let#[N,a,rfl,ok,b,f,p]:=h;unfold Ks;refine#[_,AJ (j:=1) rfl,by show(N.ts.map Ad).length<=10000000;rw[No];lk,?_];refine DR (λd=>!((a.map Ad).any λy=>E_ y d)) id (λg=>∃s,g=[.sh^enc #[N.ps,a],s]) _ _ _ _ ?_ #[_,rfl] ?_
 .rintro d i g m q r ⟨s,rfl⟩ k l
  let#[t,o,rfl]:=Tk.mp i;exists _,AJ (j:=1) rfl,Rf ok o,(E7 ok f).1,_,rfl;exact CI (λc=>k _ #[_,rfl] c) λc=>l _ #[_,rfl]^h9.mpr c
 .rw[gu,ln]
  have e:(N.ts.map Ad).filter (λd=>!((a.map Ad).any λy=>E_ y d))=(N.ts.filter λt=>decide (t∉a)).map Ad:=by
   rw[kR]
   congr 1
   refine List.filter_congr λt _=>?_;show(!((a.map Ad).any λy=>E_ y^Ad t))=decide (t∉a);rw[Na,decide_not]
  rw[e];exact#[_,_,rfl,rfl,jR (gs _ _) b,p]
end
def N_{s t:Ax}(h:CG s=CG t):s=t:=by
 let#[a,b,l]:=s;let#[c,d,e]:=t;unfold CG at h;simp only[List.cons.injEq,Sum.inl.injEq,Sum.inr.injEq,and_true]at h;let#[rfl,rfl,rfl]:=h;rfl
def JS{c d:s_ Ax}(p:c.Perm d)(e:Ih c)(f:Ih d):c=d:=Ms (λa b x y=>N_^Bv _ _ y x) p e f
def Kq{a:s_ Ax}(h:a.Pairwise Bx):Ih a:=h.imp λ{s t} z=>by
 cases e:A9 (CG t)^CG s with
 |false=>rfl
 |true=>
  have:=B_ _ _ _ (MZ z) e
  rw[CS]at this;cases this
def Ed(N:Net)(x y:Str)(l:Int):Prop:=(y,l)∈Do N.ts x
inductive Wk (N:Net) (s:Str):Str->Int->Prop
 |nil:Wk N s s 0
 |snoc {x y:Str}{d l:Int}:Wk N s x d->Ed N x y l->Wk N s y (d+l)
def MQ(N:Net)(s x:Str)(d:Int):Prop:=Wk N s x d/\∀a,Wk N s x a->d<=a
def Ed.pos{N:Net}(ok:N.Ok){x y:Str}{l:Int}(h:Ed N x y l):1<=l/\l<=1000000:=by
 let#[_,a,b,_]:=M_ ok h
 simp_all
def Ed.ins{N:Net}(ok:N.Ok){x y:Str}{l:Int}(h:Ed N x y l):y∈N.ps:=(M_ ok h).1
def Wk.pos{N:Net}(ok:N.Ok){s x:Str}{d:Int}(h:Wk N s x d):0<=d:=by
 induction h with
 |nil=>lk
 |snoc _ a b=>have:=a.pos ok;lk
def G5{N:Net}{s:Str}{F:Str->t_ Int}(c:∃d,F s=P3 d/\d<=0)(f:∀x d,F x=P3 d->Wk N s x d)(j:∀x d y l,F x=P3 d->Ed N x y l->∃b,F y=P3 b/\b<=d+l):
  (∀x d,F x=P3 d->MQ N s x d)/\∀x d,Wk N s x d->F x≠p_:=by
 have a:∀x d,Wk N s x d->∃b,F x=P3 b/\b<=d:=by
  intro x d h
  induction h with
  |nil=>exact c
  |snoc _ k m=>
   grind
 refine#[λx d e=>#[f x d e,λb h=>?_],λx d h e=>?_]
 .let#[g,i,n]:=a x b h
  simp_all
 .let#[g,i,_]:=a x d h
  grind
def Fg{N:Net}{t:Ax}(c:t∈N.ts):Ed N t.a t.b t.len/\Ed N t.b t.a t.len:=by
 constructor
 .exact jj.mpr #[t,c,gQ _^by simp_all]
 .exact jj.mpr #[t,c,gA _^by simp_all]
def Ed.tie{N:Net}(ok:N.Ok){x y:Str}{l:Int}(h:Ed N x y l):∃t∈N.ts,t.len=l/\((t.a=x/\t.b=y)\/(t.b=x/\t.a=y)):=by
 let#[_,_,_,t,c,e,h]:=M_ ok h;exact#[t,c,e,h]
structure Dmap (ks:List Key) (ds:List D) (enc:α->D) (F:Str->Option α):Prop where
 len:ks.length=ds.length
 at_:∀x:Str,Bo ks ds^.inr x=(F x).map enc
 dom:∀k∈ks,∃x:Str,k=.inr x
 nd:ks.Nodup
def Dmap.mem{c:Type}{b:s_ Key}{ds:s_ D}{enc:c->D}{F:Str->t_ c}(h:Dmap b ds enc F)(x:Str):(.inr x∈b)↔F x≠p_:=by
 constructor
 .intro a e
  let#[z,d]:=Lf h.len a;rw[h.at_,e]at d;cases d
 .intro f
  by_cases a:i4 x∈b
  .exact a
  .have:=Lg (ds:=ds) a
   rw[h.at_]at this
   simp_all
def Dmap.one{b:Type}{enc:b->D}{s:Str}{a:b}:Dmap [.inr s] [enc a] enc (λx=>if x=s then P3 a else p_):=by
 refine#[rfl,λx=>?_,λk c=>#[s,Sc.mp c],gX.mpr #[gJ,gl]];show(if i4 s=.inr x then P3 _ else p_)=(if x=s then P3 a else p_).map _
 by_cases e:x=s
 .simp_all
 .rw[if_neg e,if_neg λz=>e (jA z).symm];rfl
def Gb{b:Type}(F:Str->t_ b)(x:Str)(a:b):Str->t_ b:=λy=>if y=x then P3 a else F y
def Bg{b:Type}{F:Str->t_ b}{x:Str}{a:b}:Gb F x a x=P3 a:=if_pos rfl
def BS{b:Type}{F:Str->t_ b}{x y:Str}{a:b}(h:y≠x):Gb F x a y=F y:=if_neg h
def Dmap.put{d:Type}{f:s_ Key}{g:s_ D}{enc:d->D}{F:Str->t_ d}(h:Dmap f g enc F)(x:Str)(a:d):Dmap (C3 f^.inr x) (C_ f g (.inr x)^enc a) enc^Gb F x a:=by
 exists RM h.len,λy=>?_,λk c=>?_
 .rw[UL h.len]
  unfold Gb
  by_cases e:y=x
  .rw[if_pos e,if_pos^by rw[e]];rfl
  .rw[if_neg e,if_neg λz=>e^jA z,h.at_]
 .unfold C3 at c
  split at c
  .exact h.dom k c
  .rcases eq.mp c with c|c
   .exact h.dom k c
   simp_all
 .unfold C3
  split
  .exact h.nd
  .rename_i i
   rw[gm];refine#[h.nd,gX.mpr #[gJ,gl],λa j b l e=>i^hasK_iff.mpr ?_]
   grind
def Dmap.le{d:Type}{a:s_ Key}{g:s_ D}{enc:d->D}{F:Str->t_ d}(h:Dmap a g enc F){b:s_ Str}(i:∀x,F x≠p_->x∈b):a.length<=b.length:=by
 have:∀(a:s_ Key) (b:s_ Str),a.Nodup->(∀k∈a,∃x:Str,k=.inr x/\x∈b)->a.length<=b.length:=by
  intro a
  induction a with
  |nil=>simp_all
  | cons k a l=>
   intro b c e;let#[x,rfl,n]:=e k Op;have c:=gX.mp c
   have o:=l (b.erase x) c.2 λj m=>by
    let#[y,rfl,p]:=e j^TM _ m
    grind
   grind
 refine this a b h.nd λk f=>?_;let#[x,rfl]:=h.dom k f;exact#[x,rfl,i x^(h.mem x).mp f]
abbrev N1:=Str->t_ (Int×t_ Str)
structure Dj (N:Net) (s:Str) (F:N1) (Wt:List Str):Prop where
 start:F s=P3 (0,p_)
 ins:∀x,F x≠p_->x∈N.ps
 wk:∀x d p,F x=P3 (d,p)->Wk N s x d
 prev:∀x d p,F x=P3 (d,p)->(p=p_/\x=s)\/∃y dy q l,p=P3 y/\F y=P3 (dy,q)/\y∉Wt/\Ed N y x l/\d=dy+l
 wfound:∀x∈Wt,F x≠p_
 nd:Wt.Nodup
 done:∀x d p y l,F x=P3 (d,p)->x∉Wt->Ed N x y l->∃dy q,F y=P3 (dy,q)/\dy<=d+l
 near:∀x d p y dy q,F x=P3 (d,p)->x∉Wt->F y=P3 (dy,q)->y∈Wt->d<=dy
def Dj.init{N:Net}{s:Str}(c:s∈N.ps):Dj N s (λx=>if x=s then P3 (0,p_)else p_) [s]:=by
 have a:∀x d p,(if x=s then P3 ((0:Int),(p_:t_ Str))else p_)=P3 (d,p)->x=s/\d=0/\p=p_:=λx d p e=>by
  grind
 refine#[if_pos rfl,λx e=>?_,λx d p e=>?_,λx d p e=>?_,λx b=>?_,gX.mpr #[gJ,gl],λx d p y l e b=>?_,λx d p y f q e b=>?_]
 .grind
 .let#[rfl,rfl,rfl]:=a x d p e
  exact .nil
 .let#[rfl,rfl,rfl]:=a x d p e
  exact .inl #[rfl,rfl]
 .simp_all
 .exact absurd (Sc.mpr (a x d p e).1) b
 .exact absurd (Sc.mpr (a x d p e).1) b
structure Dm (N:Net) (s:Str) (F:N1) (Wt:List Str) (v:Str) (dv:Int) (seen:List (Str×Int)):Prop where
 start:F s=P3 (0,p_)
 ins:∀x,F x≠p_->x∈N.ps
 wk:∀x d p,F x=P3 (d,p)->Wk N s x d
 prev:∀x d p,F x=P3 (d,p)->(p=p_/\x=s)\/∃y dy q l,p=P3 y/\F y=P3 (dy,q)/\y∉Wt/\Ed N y x l/\d=dy+l
 wfound:∀x∈Wt,F x≠p_
 nd:Wt.Nodup
 done:∀x d p y l,F x=P3 (d,p)->x∉Wt->x≠v->Ed N x y l->∃dy q,F y=P3 (dy,q)/\dy<=d+l
 near:∀x d p y dy q,F x=P3 (d,p)->x∉Wt->F y=P3 (dy,q)->y∈Wt->d<=dy
 here:∃p,F v=P3 (dv,p)
 out:v∉Wt
 least:∀x d p,F x=P3 (d,p)->x∉Wt->d<=dv
 gone:∀y l,(y,l)∈seen->∃dy q,F y=P3 (dy,q)/\dy<=dv+l
def Dj.take{N:Net}{s:Str}{F:N1}{c:s_ Str}(h:Dj N s F c){v:Str}{dv:Int}{p:t_ Str}(o:v∈c)(e:F v=P3 (dv,p))(i:∀y∈c,∀g q,F y=P3 (g,q)->dv<=g):Dm N s F (c.erase v) v dv []:=by
 have f:∀x,x∈c.erase v->x∈c:=λx b=>List.mem_of_mem_erase b;have m:v∉c.erase v:=λz=>(h.nd.mem_erase_iff.mp z).1 rfl
 have a:∀x,x∉c.erase v->x=v\/x∉c:=λx b=>by
  grind
 refine#[h.start,h.ins,h.wk,λx d q ex=>?_,λx b=>h.wfound x^f x b,h.nd.erase v,λx d q y l ex b r t=>?_,λx d q y g j ex b n k=>?_,#[p,e],m,λx d q ex b=>?_,λy l k=>by cases k]
 .rcases h.prev x d q ex with z|⟨y,g,j,l,u,w,A,B,C⟩
  .exact .inl z
  .exact .inr #[y,g,j,l,u,w,λz=>A^f y z,B,C]
 .rcases a x b with z|z
  .exact absurd z r
  .exact h.done x d q y l ex z t
 .rcases a x b with z|z
  .subst z
   rw[e]at ex;cases ex;exact i y (f y k) g j n
  .exact h.near x d q y g j ex z n^f y k
 .rcases a x b with z|z
  .grind
  .exact h.near x d q v dv p ex z e o
def Dm.finish{N:Net}{s:Str}{F:N1}{b:s_ Str}{v:Str}{dv:Int}{a:s_ (Str×Int)}(h:Dm N s F b v dv a)(f:∀y l,Ed N v y l->(y,l)∈a):Dj N s F b:=by
 refine#[h.start,h.ins,h.wk,h.prev,h.wfound,h.nd,λx d p y l e g c=>?_,h.near]
 by_cases z:x=v
 .subst z
  let#[j,i]:=h.here;rw[i]at e;cases e;exact h.gone y l^f y l c
 .exact h.done x d p y l e g z c
def Dm.find{N:Net}(ok:N.Ok){s:Str}{F:N1}{m:s_ Str}{v:Str}{dv:Int}{j:s_ (Str×Int)}(h:Dm N s F m v dv j){y:Str}{l:Int}(w:Ed N v y l)(K:F y=p_):Dm N s (Gb F y (dv+l,P3 v)) (m++[y]) v dv (j++[(y,l)]):=by
 have L:=(w.pos ok).1;let#[A,B]:=h.here;have C:∀x d p,F x=P3 (d,p)->x≠y:=λx d p e z=>by rw[z,K]at e;cases e
 have f:∀x d p,F x=P3 (d,p)->Gb F y (dv+l,P3 v) x=P3 (d,p):=λx d p e=>by rw[BS^C x d p e];exact e
 have Q:y∉m:=λz=>h.wfound y z K
 have c:∀x d p,Gb F y (dv+l,P3 v) x=P3 (d,p)->(x=y/\d=dv+l/\p=P3 v)\/(x≠y/\F x=P3 (d,p)):=λx d p e=>by
  by_cases z:x=y
  .rw[z,Bg]at e;cases e;exact .inl #[z,rfl,rfl]
  .rw[BS z]at e;exact .inr #[z,e]
 have k:∀x,x∉m++[y]->x∉m/\x≠y:=λx g=>#[λz=>g^gQ _ z,λz=>g^gA _^by rw[z];exact Sc.mpr rfl]
 have M:v∉m++[y]:=λz=>by
  rcases eq.mp z with z|z
  .exact h.out z
  .exact C v dv A B^Sc.mp z
 refine#[f _ _ _ h.start,λx g=>?_,λx d p e=>?_,λx d p e=>?_,λx g=>?_,?_,λx d p z o e g R D=>?_,λx d p z O q e g E i=>?_,#[A,f _ _ _ B],M,λx d p e g=>?_,λz o i=>?_]
 .by_cases z:x=y
  .rw[z];exact w.ins ok
  .rw[BS z]at g;exact h.ins x g
 .rcases c x d p e with⟨rfl,rfl,_⟩|⟨_,e⟩
  .exact .snoc (h.wk v dv A B) w
  .exact h.wk x d p e
 .rcases c x d p e with⟨rfl,rfl,rfl⟩|⟨_,e⟩
  .exact .inr #[v,dv,A,l,rfl,f _ _ _ B,M,w,rfl]
  .rcases h.prev x d p e with z|⟨u,P,q,o,S,G,r,T,U⟩
   .exact .inl z
   .refine .inr #[u,P,q,o,S,f _ _ _ G,λz=>?_,T,U]
    rcases eq.mp z with z|z
    .exact r z
    .exact C u P q G^Sc.mp z
 .rcases eq.mp g with g|g
  .have:=h.wfound x g
   cases e:F x with
   |none=>exact absurd e this
   |some a=>rw[f x a.1 a.2 e];intro z;cases z
  .rw[Sc.mp g,Bg];intro z;cases z
 .rw[gm]
  exact#[h.nd,gX.mpr #[gJ,gl],λa V b W e=>Q^by rw[←Sc.mp W,←e];exact V]
 .let#[n,t]:=k x g
  rcases c x d p e with⟨z,_⟩|⟨_,e⟩
  .exact absurd z t
  .let#[H,I,r,J]:=h.done x d p z o e n R D
   exact#[H,I,f _ _ _ r,J]
 .let#[n,t]:=k x g
  rcases c x d p e with⟨z,_⟩|⟨_,ex⟩
  .exact absurd z t
  .rcases c z O q E with⟨_,G,_⟩|⟨X,E⟩
   .have:=h.least x d p ex n
    omega
   .rcases eq.mp i with i|i
    .exact h.near x d p z O q ex n E i
    .exact absurd (Sc.mp i) X
 .let#[n,t]:=k x g
  rcases c x d p e with⟨z,_⟩|⟨_,e⟩
  .exact absurd z t
  .exact h.least x d p e n
 .rcases eq.mp i with i|i
  .let#[H,I,r,J]:=h.gone z o i
   exact#[H,I,f _ _ _ r,J]
  .cases Sc.mp i
   exact#[_,_,Bg,ku _]
def Dm.nearer{N:Net}(ok:N.Ok){s:Str}{F:N1}{k:s_ Str}{v:Str}{dv:Int}{f:s_ (Str×Int)}(h:Dm N s F k v dv f){y:Str}{l A:Int}{J:t_ Str}(o:Ed N v y l)(B:F y=P3 (A,J))(Q:dv+l<A):Dm N s (Gb F y (dv+l,P3 v)) k v dv (f++[(y,l)]):=by
 have K:=(o.pos ok).1;let#[r,t]:=h.here
 have L:y∈k:=by
  by_cases z:y∈k
  .exact z
  .have:=h.least y A J B z
   omega
 have M:v≠y:=λz=>h.out (by rw[z];exact L);have c:∀x,x∉k->Gb F y (dv+l,P3 v) x=F x:=λx b=>BS λz=>b^by rw[z];exact L
 have a:∀x d p,Gb F y (dv+l,P3 v) x=P3 (d,p)->(x=y/\d=dv+l/\p=P3 v)\/(x≠y/\F x=P3 (d,p)):=λx d p e=>by
  by_cases z:x=y
  .rw[z,Bg]at e;cases e;exact .inl #[z,rfl,rfl]
  .rw[BS z]at e;exact .inr #[z,e]
 have g:∀x d p,F x=P3 (d,p)->∃O q,Gb F y (dv+l,P3 v) x=P3 (O,q)/\O<=d:=λx d p e=>by
  by_cases z:x=y
  .subst z
   rw[B]at e;cases e;exact#[_,_,Bg,by lk]
  .exact#[d,p,by rw[BS z];exact e,ku _]
 have R:s≠y:=λz=>by
  have:=h.start
  rw[z,B]at this;cases this
  have:=(h.wk v dv r t).pos ok
  omega
 refine#[by rw[BS R];exact h.start,λx b=>?_,λx d p e=>?_,λx d p e=>?_,λx b=>?_,h.nd,λx d p z m e b S C=>?_,λx d p z P q e b D i=>?_,#[r,by rw[BS M];exact t],h.out,λx d p e b=>?_,λz m i=>?_]
 .by_cases z:x=y
  .rw[z];exact o.ins ok
  .rw[BS z]at b;exact h.ins x b
 .rcases a x d p e with⟨rfl,rfl,_⟩|⟨_,e⟩
  .exact .snoc (h.wk v dv r t) o
  .exact h.wk x d p e
 .rcases a x d p e with⟨rfl,rfl,rfl⟩|⟨_,e⟩
  .exact .inr #[v,dv,r,l,rfl,by rw[BS M];exact t,h.out,o,rfl]
  .rcases h.prev x d p e with z|⟨u,T,q,m,U,V,j,n,W⟩
   .exact .inl z
   .exact .inr #[u,T,q,m,U,by rw[c u j];exact V,j,n,W]
 .by_cases z:x=y
  .rw[z,Bg];intro w;cases w
  .rw[BS z];exact h.wfound x b
 .rw[c x b]at e
  let#[E,G,j,X]:=h.done x d p z m e b S C;let#[H,I,n,Y]:=g z E G j;exact#[H,I,n,by lk]
 .rw[c x b]at e
  rcases a z P q D with⟨rfl,rfl,_⟩|⟨Z,D⟩
  .have:=h.least x d p e b
   omega
  .exact h.near x d p z P q e b D i
 .rw[c x b]at e
  exact h.least x d p e b
 .rcases eq.mp i with i|i
  .let#[E,G,j,X]:=h.gone z m i
   let#[H,I,n,Y]:=g z E G j;exact#[H,I,n,by lk]
  .cases Sc.mp i
   exact#[_,_,Bg,ku _]
def Dm.skip{N:Net}{s:Str}{F:N1}{c:s_ Str}{v:Str}{dv:Int}{a:s_ (Str×Int)}(h:Dm N s F c v dv a){y:Str}{l d:Int}{e:t_ Str}(i:F y=P3 (d,e))(f:d<=dv+l):Dm N s F c v dv (a++[(y,l)]):=by
 refine#[h.start,h.ins,h.wk,h.prev,h.wfound,h.nd,h.done,h.near,h.here,h.out,h.least,λz g b=>?_]
 rcases eq.mp b with b|b
 .exact h.gone z g b
 simp_all
structure Told (N:Net) (s:Str) (F:N1):Prop where
 start:F s=P3 (0,p_)
 ins:∀x,F x≠p_->x∈N.ps
 least:∀x d p,F x=P3 (d,p)->MQ N s x d
 all:∀x d,Wk N s x d->F x≠p_
 prev:∀x d p,F x=P3 (d,p)->(p=p_/\x=s)\/∃y dy q l,p=P3 y/\F y=P3 (dy,q)/\Ed N y x l/\d=dy+l
def Dj.told{N:Net}{s:Str}{F:N1}(h:Dj N s F []):Told N s F:=by
 have c:=G5 (N:=N) (s:=s) (F:=λx=>(F x).map (·.1)) #[0,by rw[h.start];rfl,ku _] (λx d e=>by
  let#[#[g,p],a,b]:=iE.mp e;cases b;exact h.wk x _ p a) (λx d y l e i=>by
  let#[#[g,p],a,b]:=iE.mp e;cases b;let#[f,q,j,k]:=h.done x _ p y l a gJ i;exact#[f,by rw[j];rfl,k])
 refine#[h.start,h.ins,λx d p e=>c.1 x d (by rw[e];rfl),λx d m e=>c.2 x d m (by rw[e];rfl),λx d p e=>?_]
 rcases h.prev x d p e with z|⟨y,f,q,l,a,b,_,n,o⟩
 .exact .inl z
 simp_all
abbrev Kn:=Str->t_ Int
structure Bf (N:Net) (s:Str) (c:Nat) (K:Kn):Prop where
 start:∃d,K s=P3 d/\d<=0
 ins:∀x,K x≠p_->x∈N.ps
 wk:∀x d,K x=P3 d->Wk N s x d
 top:∀x d,K x=P3 d->d<=1000000*(c:Int)
def big:Nat:=27000001
def wt(K:Kn)(x:Str):Nat:=match K x with
 |some d=>d.toNat
 |none=>big
def Tv(a:s_ Str)(K:Kn):Nat:=(a.map^wt K).sum
theorem UV{f g:Str->Nat}:∀{a:s_ Str},(∀x∈a,f x<=g x)->(a.map f).sum<=(a.map g).sum
 |[],_=>Re _
 |x::a,h=>by
  have c:=UV λy b=>h y^TM _ b
  grind
theorem UU{f g:Str->Nat}:∀{b:s_ Str},(∀x∈b,f x<=g x)->(∃x∈b,f x<g x)->(b.map f).sum<(b.map g).sum
 |[],_,#[x,c,_]=>by cases c
 | x::b,h,#[y,a,d]=>by
  have i:=h x Op;rw[g9,g9,List.sum_cons,List.sum_cons]
  rcases T0.mp a with rfl|a
  .have e:=UV λy a=>h y^TM _ a
   omega
  .have e:=UU (λy a=>h y^TM _ a) #[y,a,d]
   omega
def Bf.put {N:Net} (ok:N.Ok) {s:Str}{c c':Nat}{K:Kn} (h:Bf N s c K) (t:c' ≤ 26) (m:c ≤ c') {x y:Str}{d l:Int} (hx:K x=P3 d) (b:Ed N x y l) (n:K y=p_ → c'=c + 1) (f:∀ a,K y=P3 a → d + l < a):Bf N s c'^Gb K y (d + l) ∧ Tv N.ps^Gb K y (d + l) < Tv N.ps K:=by
  have u:=b.pos ok;have v:=(h.wk x d hx).pos ok;have o:Wk N s y (d + l):=.snoc (h.wk x d hx) b;have A:=h.top x d hx
  have p : d + l ≤ 1000000 * (c':Int):=by
    cases e:K y with
    | none => rw[n e];have:((c + 1:Nat):Int)=(c:Int) + 1:=by lk
              rw[this,Int.mul_add];lk
    | some a=>
      have B:=f a e;have q:=h.top y a e;have:(1000000:Int) * (c:Int) ≤ 1000000 * (c':Int):=lU (by lk) (by lk);lk
  refine#[#[?_,λz i=>?_,λz g e=>?_,λz g e=>?_],UU (λz _=>?_) #[y,b.ins ok,?_]]
  · let#[j,k,r]:=h.start
    by_cases z:s=y
    · have:=f j^by rw[←z];exact k
      omega
    .exact#[j,by rw[BS z];exact k,r]
  · by_cases e:z=y
    .rw[e];exact b.ins ok
    .rw[BS e]at i;exact h.ins z i
  · by_cases w:z=y
    .rw[w,Bg]at e;cases e;rw[w];exact o
    .rw[BS w]at e;exact h.wk z g e
  · by_cases w:z=y
    .rw[w,Bg]at e;cases e;exact p
    · rw[BS w]at e
      have q:=h.top z g e;have:(1000000:Int) * (c:Int) ≤ 1000000 * (c':Int):=lU (by lk) (by lk);lk
  · unfold wt
    by_cases w:z=y
    · rw[w,Bg]
      cases e:K y with
      |none=>show(d + l).toNat ≤ big;unfold big;lk
      |some a=>show(d + l).toNat ≤ a.toNat;have:=f a e;lk
    · rw[BS w]
      exact Re _
  · unfold wt
    rw[Bg];cases e:K y with
    |none=>show(d + l).toNat < big;unfold big;lk
    |some a=>show(d + l).toNat < a.toNat;have:=f a e;lk
def Bf.init{N:Net}{s:Str}(b:s∈N.ps):Bf N s 1 (λx=>if x=s then P3 0 else p_):=by
 have a:∀x d,(if x=s then P3 (0:Int)else p_)=P3 d->x=s/\d=0:=λx d e=>by
  grind
 refine#[#[0,if_pos rfl,ku _],λx e=>by grind,λx d e=>?_,λx d e=>?_]
 .let#[rfl,rfl]:=a x d e
  exact .nil
 .let#[rfl,rfl]:=a x d e
  decide
def JR(K:Kn)(e:Str×Str×Int):Prop:=∀d,K e.1=P3 d->∃a,K e.2.1=P3 a/\a<=d+e.2.2
structure LTold (N:Net) (s:Str) (K:Kn):Prop where
 ins:∀x,K x≠p_->x∈N.ps
 least:∀x d,K x=P3 d->MQ N s x d
 all:∀x d,Wk N s x d->K x≠p_
 top:∀x d,K x=P3 d->d<=30000000
def Bf.told{N:Net}(ok:N.Ok){s:Str}{c:Nat}{K:Kn}(h:Bf N s c K)(n:c<=26)(f:∀t∈N.ts,JR K (t.a,t.b,t.len)/\JR K (t.b,t.a,t.len)):LTold N s K:=by
 have g:=G5 h.start h.wk (λx d y l e j=>by
  let#[t,i,k,m]:=j.tie ok;subst k
  rcases m with⟨rfl,rfl⟩|⟨rfl,rfl⟩
  .exact(f t i).1 d e
  .exact(f t i).2 d e)
 exact#[h.ins,g.1,g.2,λx d e=>by have:=h.top x d e;lk]
def walk(N:Net):s_ Str->Int->Prop
 |[],_=>False
 |[_],d=>d=0
 |x::y::r,d=>∃l e,Ed N x y l/\walk N (y::r) e/\d=l+e
def SQ{N:Net}{x y:Str}{r:s_ Str}{d l:Int}(a:Ed N x y l)(h:walk N (y::r) d):walk N (x::y::r) (l+d):=#[l,d,a,h,rfl]
def dX(N:Net)(a b:Str):t_ Int->Prop
 |some d=>MQ N a b d
 |none=>∀d,¬Wk N a b d
def Told.far{N:Net}{s:Str}{F:N1}(h:Told N s F)(x:Str):dX N s x ((F x).map (·.1)):=by
 cases e:F x with
 |none=>exact λd b=>h.all x d b e
 |some a=>exact h.least x _ _ e
def LTold.far{N:Net}{s:Str}{K:Kn}(h:LTold N s K)(x:Str):dX N s x^K x:=by
 cases e:K x with
 |none=>exact λd a=>h.all x d a e
 |some d=>exact h.least x d e
def Way(N:Net)(a b:Str)(o:t_^s_ Str):Prop:=match o with
 |some w=>∃d r,w=a::r/\w.getLast?=P3 b/\walk N w d/\MQ N a b d/\w.length<=30/\∀x∈w,x∈N.ps
 |none=>∀d,¬Wk N a b d
def bz:t_ Str->D
 |some y=>.str y
 |none=>.non
def eI:t_ Int->D
 |some y=>.int y
 |none=>.non
def Xb:t_^s_ Str->D
 |some w=>.tup^w.map .str
 |none=>.non
def Iu(p:Int×t_ Str):D:=.tup [.int p.1,bz p.2]
def okN(N:Net):Prop:=N.Ok/\N.ps.length<=25/\N.ts.length<=60
def Wh:W2:=λf n P=>∃(a:s_ Str) (b:s_ Key) (c:s_ D) (F:N1),f=[.br^.lst^a.map .str,.br^.dic b c]/\Dmap b c Iu F/\(∀x∈a,F x≠p_)/\a≠[]/\a.length<=100 /\
 ∀v∈a,(∀y∈a,∀d g e h,F v=P3 (d,g)->F y=P3 (e,h)->d<=e)->P (.str v) n
def Nz:W2:=λc n P=>∃(N:Net) (s:Str),c=[.sh^enc N,.sh^.str s]/\okN N/\s∈N.ps/\∀(a:s_ Key) (b:s_ D) (F:N1),Dmap a b Iu F->Told N s F->P (.dic a b) n
def YM:W2:=λc n P=>∃(N:Net) (a b:Str),c=[.sh^enc N,.sh^.str a,.sh^.str b]/\okN N/\a∈N.ps/\b∈N.ps/\∀o,dX N a b o->P (eI o) n
def YL:W2:=λc n P=>∃(N:Net) (a b:Str),c=[.sh^enc N,.sh^.str a,.sh^.str b]/\okN N/\a∈N.ps/\b∈N.ps/\∀o,Way N a b o->P (Xb o) n
def G7:Aa:=(Au^AU A7 (CB Yp^AD (CQ [P3 1,p_] (BA^Ap 0) (AR 1) Ek^A_^AD (AU A7 (AU BR (Ap 0)^AC 1)^wC^D.int 0)^AD (AC 1) AQ) AQ)^wC^D.int 1)
def G8:Aa:=(Ae (BI 2^AZ Nq^AE (AL^AC 0) AY)
 (Ae (CP 3^Pm (AC 1)^A_^AD (wC^D.int 0)^AD (wC D.non) AQ)
 (Ae (CP 4^CM^AD (AC 1) AQ)
 (Ae (GA (Y8^Ap 4) (Ae (BI 5^AZ Wh^AE (Bu^Ap 4)^AE (Bu^Ap 3) AY)
 (Ae (Ij 4 "list" cR^AD (AC 5) AQ)
 (C8 (wItems^AU BR (AC 2)^AC 5) (CF 2^AX (AR 6)^AX (AR 7) BZ) (Ae (BI 8^AU A2 (AU A7 (AU BR (Ap 3)^AC 5)^wC^D.int 0)^AC 7)
 (BH (AW^AU (GJ q_) (AC 6)^Ap 3) (Ae (Ij 4 "list" Dy^AD (AC 6) AQ)
 (DN 3 (AC 6)^A_^AD (AC 8)^AD (AC 5) AQ))^BH (AW^AU EU (AC 8)^AU A7 (AU BR (Ap 3)^AC 6)^wC^D.int 0) (DN 3 (AC 6)^A_^AD (AC 8)^AD (AC 5) AQ) Av))))))
 (JN 3)))))
def Yw:Aa:=(Ae (BI 3^AZ Nz^AE (AL^AC 0)^AE (AL^AC 1) AY)
 (Au^YV (AW^AU (GJ r_) (AC 2)^AC 3) (AU A7 (AU BR (AC 3)^AC 2)^wC^D.int 0)^wC D.non))
def O7:Aa:=(Ae (BI 3^AZ Nz^AE (AL^AC 0)^AE (AL^AC 1) AY)
 (Ae (BH (AW^AU (GJ q_) (AC 2)^AC 3) (Au^wC D.non) Av)
 (Ae (CP 4^CM AQ)
 (Ae (BI 5^AC 2)
 (Ae (GA (AW^AU (GI q_) (AC 5)^wC D.non) (Ae (Ij 4 "list" Dy^AD (AC 5) AQ)
 (BI 5^AU A7 (AU BR (AC 3)^AC 5)^wC^D.int 1)))
 (Au^Q9^Ap 4))))))
def en{i j:Int}{x y:Str}(h:A9 [.inl j,.inr y] [.inl i,.inr x]=r_):i<=j:=by
 have h:(if kZ j=.inl i then(if i4 y=.inr x then r_ else decide _)else decide _)=r_:=h
 grind
section
variable {ss:s_ Slot}{n:Nat}{Pd:D->Nat->Prop}
def LF(h:Wh ss n Pd):G7 (EE Pd) n (ss++ZB 0 .no):=by
 let#[g,l,o,F,rfl,M,w,i,N,p]:=h;unfold G7;exists by show(g.map D.str).length<=10000000;rw[No];lk
 have c:∀x∈g,∃d q,F x=P3 (d,q):=λx b=>by
  cases e:F x with
  |none=>exact absurd e^w x b
  |some a=>exact#[a.1,a.2,rfl]
 refine B0 (λd=>match d with|.str x=>.tup [.int ((F x).getD (0,p_)).1,.str x]|d=>d) (λt=>∃s,t=[.br^.dic l o,s]) _ _ _ _ ?_ #[_,rfl] ?_
 .rintro d A t m O ⟨s,rfl⟩ B
  let#[x,b,rfl]:=Tk.mp A;let#[C,q,ex]:=c x b;exists l,o,_,Iu (C,q),rfl,rfl,by rw[M.at_,ex];rfl,_,AJ (j:=0) rfl,(by cbv:2<=sizeLine)
  grind
 rw[gu,jG];refine#[_,rfl,?_,#[λx b=>?_,λx b y k E G H I=>?_],λx b f=>?_]
 .rw[No]
  cases g with
  |nil=>exact absurd rfl i
  |cons a r=>exact Nat.succ_pos _
 .let#[z,_,rfl]:=Tk.mp b
  exact#[_,rfl,i9 _ _]
 .let#[z,_,rfl]:=Tk.mp b
  let#[u,_,rfl]:=Tk.mp k;cases(show P3 [kZ _,i4 _]=P3 E from H);cases(show P3 [kZ _,i4 _]=P3 G from I);rfl
 .let#[v,J,rfl]:=Tk.mp b
  refine#[_,AJ (j:=1) rfl,p v J λy k P Q R S K L=>?_]
  have:=en (f _ (Tk.mpr #[y,k,rfl]) _ _ rfl rfl)
  rw[K,L]at this;exact this
def Aw(x:Str):keyOf^.str x=P3^.inr x:=rfl
def S5{N:Net}(ok:N.Ok){a:s_ Str}(h:∀x∈a,x∈N.ps):Dw^.lst^a.map .str:=Lz λd b=>by
  let#[x,c,rfl]:=Tk.mp b;exact Fd^ok.names x^h x c
def MU{N:Net}{d:s_ Str}(b:d.Nodup)(h:∀x∈d,x∈N.ps):d.length<=N.ps.length:=by
 have:∀(a c:s_ Str),a.Nodup->(∀x∈a,x∈c)->a.length<=c.length:=by
  intro a
  induction a with
  |nil=>grind
  |cons x a g=>
   intro c b f;have k:=f x Op;have b:=gX.mp b;have l:=g (c.erase x) b.2 λj i=>(List.mem_erase_of_ne λe=>b.1^by simp_all).mpr^f j^TM _ i
   grind
 simp_all
def Jt(a:s_ Key)(k:Key):(C3 a k).length=if Ka a k=q_ then a.length else a.length+1:=by
 unfold C3
 split
 .rfl
 simp_all
def Dmap.has{b:Type}{a:s_ Key}{d:s_ D}{enc:b->D}{F:Str->t_ b}(h:Dmap a d enc F){x:Str}:(F x=p_->Ka a^.inr x=r_)/\(F x≠p_->Ka a^.inr x=q_):=by
 constructor
 .intro e
  cases c:Ka a _ with
  |false=>rfl
  |true=>exact absurd e^(h.mem x).mp^hasK_iff.mp c
 .intro e
  exact hasK_iff.mpr^(h.mem x).mpr e
def SY{N:Net}{x:Str}(hx:x∈N.ps):Bo (N.ps.map .inr) (N.ps.map^Wn N.ts)^.inr x=P3^Wn N.ts x:=by
 have c:∀a:s_ _,x∈a->Bo (a.map .inr) (a.map^Wn N.ts)^.inr x=P3^Wn N.ts x:=by
  intro a
  induction a with
  |nil=>grind
  | cons q a b=>
   intro h;show(if i4 q=.inr x then P3 _ else Bo _ _ _)=_
   by_cases e:q=x
   .grind
   .rw[if_neg λz=>e^jA z]
    exact b^(T0.mp h).resolve_left λz=>e z.symm
 simp_all
def Wp(l:s_ (Str×Int)):Ds ((l.map λx=>(.inr x.1:Key)).map av) (l.map λx=>.int x.2)=l.map eQ:=by
 induction l with
 |nil=>rfl
 |cons p l a=>
  show D.tup _::Ds _ _=eQ p::l.map _;rw[←a];rfl
def LG(h:Nz ss n Pd):G8 (EF Pd) n (ss++ZB 7 .no):=by
 let#[N,s,rfl,#[ok,lp,lt],hs,p]:=h;have a2:=PySem.sizeLine_eq;unfold G8;refine#[N,rfl,ok,by lk,by lk,?_];exists(by cbv:2<=sizeLine),_,Aw s,(by cbv:1<=sizeLine);refine FW (λm O Y=>O=n/\∃(r:s_ Str) (f:s_ Key) (g:s_ D) (F:N1) (s5 G H I:Slot),Y=[.sh^enc N,.sh^.str s,.sh^Ep N,.ow^.dic f g,.ow^.lst^r.map .str,s5,G,H,I]/\Dmap f g Iu F/\Dj N s F r/\m+f.length=N.ps.length+r.length) (N.ps.length) #[rfl,[s],[.inr s],[Iu (0,p_)],_,_,_,_,_,rfl,Dmap.one,Dj.init hs,rfl] ?_ ?_
 .rintro m O Y N' ⟨rfl,r,f,g,F,s5,G,H,I,rfl,M,J,hm⟩ hN
  cases r with
  |nil=>
   exact#[r_,rfl,_,rfl,p f g F M J.told]
  | cons u w=>
   exists q_,rfl;have o:∀x∈u::w,x∈N.ps:=λx K=>J.ins x^J.wfound x K;have wl:=MU J.nd o;refine#[u::w,f,g,F,rfl,M,J.wfound,i9 _ _,by lk,λv L R=>?_]
   obtain⟨B,pv,X⟩:∃d q,F v=P3 (d,q):=by
    cases e:F v with
    |none=>exact absurd e^J.wfound v L
    |some a=>exact#[a.1,a.2,rfl]
   have A:=J.take L X λy hy S q C=>R y hy B pv S q X C;have T:=o v L;have U:(u::w).idxOf v<(u::w).length:=List.idxOf_lt_length_of_mem L;have V:(u::w)[(u::w).idxOf v]?=P3 v:=by rw[On U,List.getElem_idxOf]
   have ee:((u::w).map D.str).eraseIdx^(u::w).idxOf v=((u::w).erase v).map D.str:=by
    rw[List.erase_eq_eraseIdx_of_idxOf (rfl:(u::w).idxOf v=_),Fe]
   exists _,rfl,rfl,_,_,(u::w).idxOf v,rfl,rfl,S5 ok o,KO^ok.names v T,#[.str v,by rw[gM,V];rfl,by show(v==v)=q_;exact beq_self_eq_true v],λk x hk K=>?_
   .rw[gM]at K
    let#[t,ht,rfl]:=iE.mp K;have a3:k<(u::w).length:=(gC.mp ht).1;have hh:=List.not_of_lt_findIdx (p:=λy=>y==v) (xs:=u::w) hk;have e2:(u::w)[k]=t:=(gC.mp ht).2;have h3:((u::w)[k]==v)=r_:=hh;rw[e2]at h3;exact h3
   rw[ee];exists _,_,_,Wn N.ts v,rfl,Aw v,SY T,_,_,rfl,λk hk=>?_
   .let#[q,hq,rfl]:=Tk.mp hk
    have:=(ok.names _ (M_ ok hq).1).2.1
    show q.1.length<=sizeLine;lk
   rw[Wp];have el:=List.length_erase_of_mem L
   have E:∀(i b:s_ (Str×Int)) (r:s_ Str) (f:s_ Key) (g:s_ D) (F:N1) (G H I:Slot),b++i=Do N.ts v->Dmap f g Iu F->Dm N s F r v B b->m+f.length=N.ps.length+r.length+1->
     A0 (CF 2^AX (AR 6)^AX (AR 7) BZ) (Ae (BI 8^AU A2 (AU A7 (AU BR (Ap 3)^AC 5)^wC^D.int 0)^AC 7)
 (BH (AW^AU (GJ q_) (AC 6)^Ap 3) (Ae (Ij 4 "list" Dy^AD (AC 6) AQ)
 (DN 3 (AC 6)^A_^AD (AC 8)^AD (AC 5) AQ))^BH (AW^AU EU (AC 8)^AU A7 (AU BR (Ap 3)^AC 6)^wC^D.int 0) (DN 3 (AC 6)^A_^AD (AC 8)^AD (AC 5) AQ) Av)) {EF Pd with nx:=N',ct:=N',bk:=JN 3^EF Pd} (i.map eQ) O [.sh^enc N,.sh^.str s,.sh^Ep N,.ow^.dic f g,.ow^.lst^r.map .str,.sh^.str v,G,H,I]:=by
    intro i
    induction i with
    |nil=>
     intro b r f g F G H I e M A hm;rw[gK]at e;exact hN (m - 1) O _ (by have:=M.le A.ins;lk) #[rfl,r,f,g,F,_,_,_,_,rfl,M,A.finish λy l hy=>by rw[e];exact hy,by have:=M.le A.ins;lk]
    | cons q i ih=>
     intro b r f g F G H I e M A hm;let#[y,l]:=q;have he:Ed N v y l:=by show(y,l)∈Do N.ts v;rw[←e];exact gA _ Op
     have e':(b++[(y,l)])++i=Do N.ts v:=by rw[gS];exact e
     let#[pv,X]:=A.here;have kl:=M.le A.ins;have a4:=he.ins ok;have o:∀x∈r,x∈N.ps:=λx K=>A.ins x^A.wfound x K;have wl:=MU A.nd o;exists rfl,rfl;exists f,g,_,Iu (B,pv),rfl,Aw v,by rw[M.at_,X];rfl,_,AJ (j:=0) rfl;exists f,g,_,rfl,Aw y;show if(!(Bo f g^.inr y).isSome)=q_ then _ else _
     cases C:F y with
     |none=>
      have a0:=(M.has (x:=y)).1 C;rw[M.at_,C];refine Bw #[_,rfl,rfl,_,_,rfl,rfl,by rw[No];lk,?_];exists f,g,rfl,(by cbv:2<=sizeLine),_,Aw y,by lk
      have:=ih (b++[(y,l)]) (r++[y]) (C3 f^.inr y) (C_ f g (.inr y)^Iu (B+l,P3 v)) _ (.sh^.str y) (.sh^.int l) (.sh^.int (B+l)) e' (M.put y (B+l,P3 v)) (A.find ok he C)^by rw[Jt,if_neg (by rw[a0];decide),XV,gD];lk
      rw[gU]at this;exact this
     | some a=>
      let#[S,qy]:=a;have W:=(M.has (x:=y)).2 (by rw[C];intro z;cases z);rw[M.at_,C];refine Br #[f,g,_,Iu (S,qy),rfl,Aw y,by rw[M.at_,C];rfl,_,AJ (j:=0) rfl,?_];show if decide (B+l<S)=q_ then _ else _
      by_cases c:B+l<S
      .rw[decide_eq_true c]
       refine Bw #[f,g,rfl,(by cbv:2<=sizeLine),_,Aw y,by lk,?_];exact ih (b++[(y,l)]) r (C3 f^.inr y) (C_ f g (.inr y)^Iu (B+l,P3 v)) _ (.sh^.str y) (.sh^.int l) (.sh^.int (B+l)) e' (M.put y (B+l,P3 v)) (A.nearer ok he C c)^by rw[Jt,if_pos W];lk
      .rw[decide_eq_false c]
       exact Br^ih (b++[(y,l)]) r f g F (.sh^.str y) (.sh^.int l) (.sh^.int (B+l)) e' M (A.skip C^by lk) hm
   exact E (Do N.ts v) [] ((u::w).erase v) f g F _ _ _ rfl M A (by have:=List.length_pos_of_mem L;lk)
 .rintro O Y P Q a1 h
  unfold Y8 Ap at h ⊢
  split at h
  all_goals first
   |exact h.elim
   |(let#[c,hc,h]:=h;exact#[c,hc,a1 _ _ h])
def ZV(h:YM ss n Pd):Yw (EE Pd) n (ss++ZB 1 .no):=by
 let#[N,a,b,rfl,d,i,k,p]:=h;unfold Yw;refine#[N,a,rfl,d,i,λf g F M T=>?_];exists f,g,_,rfl,Aw b;show if((Bo f g^.inr b).isSome)=q_ then _ else _
 have c:=p _^T.far b;cases e:F b with
 |none=>
  rw[M.at_,e];rw[e]at c;exact Br c
 |some x=>
  rw[M.at_,e];rw[e]at c;exact Bw #[f,g,_,Iu x,rfl,Aw b,by rw[M.at_,e];rfl,_,AJ (j:=0) rfl,c]
end
structure WInv (N:Net) (F:N1) (b:Str) (db:Int) (acc:List Str) (pl:Option Str):Prop where
 st:(acc=[]/\pl=P3 b)\/∃z r dz,acc.reverse=z::r/\F z=P3 (dz,pl)/\walk N acc.reverse (db - dz)/\acc.reverse.getLast?=P3 b
 nd:acc.Nodup
 ins:∀x∈acc,x∈N.ps
 less:∀y dy q,pl=P3 y->F y=P3 (dy,q)->∀x∈acc,∃dx qx,F x=P3 (dx,qx)/\dy<dx
 fnd:∀y,pl=P3 y->F y≠p_
def wm(F:N1):t_ Str->Nat
 |none=>0
 |some y=>((F y).getD (0,p_)).1.toNat+1
def WInv.step{N:Net}(ok:N.Ok){a:Str}{F:N1}(T:Told N a F){b:Str}{k:Int}{K:t_ Str}(eb:F b=P3 (k,K)){m:s_ Str}{y:Str}{g:Int}{f:t_ Str}(h:WInv N F b k m^P3 y)(c:F y=P3 (g,f)):WInv N F b k (m++[y]) f/\wm F f<wm F^P3 y:=by
 have L:=(T.least y g f c).1.pos ok
 have A:∀w o q,f=P3 w->F w=P3 (o,q)->o<g:=λw o q e i=>by
  rcases T.prev y g f c with⟨z,_⟩|⟨B,s,C,l,j,n,t,u⟩
  .rw[e]at z;cases z
  .rw[e]at j
   cases j;rw[i]at n;cases n
   have:=(t.pos ok).1
   omega
 have D:∀w,f=P3 w->F w≠p_:=λw e=>by
  rcases T.prev y g f c with⟨z,_⟩|⟨B,s,C,l,j,n,_⟩
  .rw[e]at z;cases z
  .rw[e]at j
   cases j;rw[n];intro z;cases z
 exists#[.inr ?_,?_,λx d=>?_,λw o q e i x d=>?_,D]
 .rw [List.reverse_append,List.reverse_singleton,lD]
  rcases h.st with⟨rfl,e⟩|⟨z,r,E,j,n,t,u⟩
  .cases e
   rw[eb]at c;cases c;exact#[_,_,_,rfl,eb,(by show k - k=0;lk),rfl]
  .exists y,m.reverse,g,rfl,c,?_
   .rw[j]at t ⊢
    rcases T.prev z E (P3 y) n with⟨w,_⟩|⟨B,s,C,l,M,G,O,Q⟩
    .cases w
    .cases M
     rw[c]at G;cases G
     have:=SQ O t
     rw[show l+(k - E)=k - g by lk]at this;exact this
   .rw[j]at u ⊢
    exact u
 .rw[gm]
  refine#[h.nd,gX.mpr #[gJ,gl],λx d z P e=>?_];rw[Sc.mp P]at e;let#[H,I,ex,v]:=h.less y g f rfl c x d;rw[e,c]at ex;cases ex;lk
 .rcases eq.mp d with d|d
  .exact h.ins x d
  .rw[Sc.mp d]
   exact T.ins y^by rw[c];intro z;cases z
 .have J:=A w o q e i
  rcases eq.mp d with d|d
  .let#[H,I,ex,v]:=h.less y g f rfl c x d
   exact#[H,I,ex,by lk]
  .rw[Sc.mp d]
   exact#[g,f,c,J]
 .cases f with
  |none=>exact Nat.succ_pos _
  | some w=>
   cases i:F w with
   |none=>exact absurd i (D w rfl)
   |some p=>
    have J:=A w p.1 p.2 rfl i;have R:=(T.least w p.1 p.2 i).1.pos ok;show((F w).getD (0,p_)).1.toNat+1<((F y).getD (0,p_)).1.toNat+1;rw[i,c];show p.1.toNat+1<g.toNat+1;lk
section
variable {ss:s_ Slot}{n:Nat}{Pd:D->Nat->Prop}
def Se(h:YL ss n Pd):O7 (EE Pd) n (ss++ZB 3 .no):=by
 let#[N,a,b,rfl,f,G,hb,p]:=h;have H:=PySem.sizeLine_eq;have ok:=f.1;unfold O7;refine#[N,a,rfl,f,G,λs t F M T=>?_];exists s,t,_,rfl,Aw b;show if(!(Bo s t^.inr b).isSome)=q_ then _ else _
 have d:=T.far b;cases g:F b with
 |none=>
  rw[M.at_,g];rw[g]at d;exact Bw^p p_ d
 | some x=>
  let#[i,I]:=x;rw[M.at_,g];refine Br #[z0,?_];refine FW (λm u v=>u=n/\∃(c:s_ Str) (k:t_ Str),v=[.sh^enc N,.sh^.str a,.sh^.str b,.sh^.dic s t,.ow^.lst^c.map .str,.sh^bz k]/\WInv N F b i c k/\m=wm F k) (wm F^P3 b) #[rfl,[],P3 b,rfl,#[.inl #[rfl,rfl],gl,(λx o=>by cases o),(λ_ _ _ _ _ x o=>by cases o),λy e=>by cases e;rw[g];intro z;cases z],rfl] ?_ ?_
  .rintro m u v N' ⟨rfl,c,k,rfl,J,rfl⟩ K
   have wl:=MU J.nd J.ins;have L:=f.2.1;cases k with
   | none=>
    exists rfl,_,rfl
    rcases J.st with⟨_,e⟩|⟨z,r,O,R,A,S,U⟩
    .cases e
    .have V:z=a:=by
      rcases T.prev z O p_ A with⟨_,w⟩|⟨w',W,q',l,X,_⟩
      .exact w
      .cases X
     subst V;rw[T.start]at A;cases A;rw[←List.map_reverse];refine p (P3 c.reverse) #[i - 0,r,R,U,S,?_,by rw[iQ];lk,λx o=>J.ins x^lA.mp o];rw[show i - 0=i by lk];exact T.least b i I g
   | some y=>
    cases B:F y with
    |none=>exact absurd B (J.fnd y rfl)
    |some q=>
     let#[Y,C]:=q;let#[Z,D]:=J.step ok T g B;exists rfl;refine#[_,rfl,rfl,_,_,rfl,rfl,by rw[No];lk,?_];exists s,t,_,Iu (Y,C),rfl,Aw y,by rw[M.at_,B];rfl,_,AJ (j:=1) rfl;refine K (wm F C) _ _ D #[rfl,c++[y],C,?_,Z,rfl];rw[gU];rfl
  .rintro u v P Q E h
   unfold AW AU AC wC GI at h ⊢
   split at h
   .exact#[h.1,E _ _ h.2]
   .exact h.elim
end
def Rg{w:s_ Str}{b:Str}(h:w.getLast?=P3 b):atI (w.map D.str) (-1)=P3^.str b:=by
 let#[a,rfl]:=List.getLast?_eq_some_iff.mp h;rw[gU];exact WS _ _
def ends(t:Ax):Str×Str:=(t.a,t.b)
def eL(p q:Str×Str):Prop:=cs p.1<cs q.1\/(p.1=q.1/\cs p.2<cs q.2)
def NS{a e:Type}(f:a->e)(b:s_ a)(c d:t_ Int):Dp.cutD (b.map f) c d=(Dp.cutD b c d).map f:=by
 unfold Dp.cutD
 simp_all
def DC{b:Type}(a:s_ b)(c d:t_ Int):(Dp.cutD a c d).Sublist a:=(mI _ _).trans^List.drop_sublist _ _
def Ui(a:Int)(k:Nat):EA a (k+1)=.int a::EA (a+1) k:=by
 unfold EA;rw[ko,g9,jG];refine mR.mpr #[by grind,lf λi _=>?_]
 grind
def YH{ps:s_ Str}{r:Int}(b:0<=r)(c:r<(ps.length:Int)):∃x∈ps,atI (ps.map D.str) r=P3^.str x:=by
 obtain⟨k,rfl⟩:∃k:Nat,r=k:=#[r.toNat,by lk];have a:k<ps.length:=by lk
 exact#[_,gn a,AJ^by simp_all]
def UT{N:Net}(a:okN N):fine 1000001^enc N/\C7^enc N<=48000/\F5^enc N<=3:=ZE (Xp a.1) (KS a.1) (by rw[No];have:=a.2.1;lk)^by rw[No];have:=a.2.2;lk
def sub(N:Net)(kept:s_ Ax):Net:=#[N.ps,N.ts.filter λu=>decide (u∈kept)]
def GU:W2:=λc n P=>∃(N:Net) (z:D) (b:s_ Ax),c=[.sh^enc N,.br z]/\D9 z=P3^b.map Ad/\b.length<64/\∀a:s_ Ax,a.Perm b->Ih a->P (enc #[N.ps,a]) n
def HJ:W2:=λd n P=>∃(N:Net) (s:Str) (z:D) (a:s_ Ax),d=[.br z,.sh^.str s]/\D9 z=P3^a.map Ad/\(∀u,u∈a↔u∈N.ts)/\okN N/\s∈N.ps/\∀(b:s_ Key) (c:s_ D) (K:Kn),Dmap b c D.int K->LTold N s K->P (.dic b c) n
def O8:Aa:=(Au^A_^AD (AU A7 (AC 0)^wC^D.int 0)^AD (CB BL^AD (CB Cf^AD (Ap 1) AQ) AQ) AQ)
def sub_mem{N:Net}{kept:s_ Ax}{u:Ax}:u∈(sub N kept).ts↔u∈N.ts/\u∈kept:=by
 show u∈N.ts.filter _↔_
 simp_all
def Iz{N:Net}(a:okN N)(kept:s_ Ax):okN^sub N kept:=#[Py a.1 (λt h=>(sub_mem.mp h).1)^a.1.trise.filter _,a.2.1,gG (gs _ _) a.2.2]
def Ma{N:Net}(ok:N.Ok){kept a:s_ Ax}(d:∀t∈kept,t∈N.ts)(nd:kept.Nodup)(b:a.Perm kept)(c:Ih a):(#[N.ps,a]:Net)=sub N kept:=by
 congr 1
 refine JS ((kO (b.nodup_iff.mpr nd)^(BC ok.trise).filter _).mpr λt=>?_) c^Kq^ok.trise.filter _;rw[b.mem_iff]
 simp_all
theorem KC{f g:Type}:∀{l:s_ (f×g)},(l.map (·.1)).Nodup->∀{p q:f×g},p∈l->q∈l->p.1=q.1->p=q
 |a::l,d,p,q,h,i,e=>by
  rw[g9,gX]at d
  rcases T0.mp h with b|b <;>rcases T0.mp i with c|c
  .rw[b,c]
  .grind
  .exact absurd (Tk.mpr #[p,b,by rw[e,c]]) d.1
  .exact KC d.2 b c e
def NA{N:Net}(ok:N.Ok){x y:Str}{l:Int}(h:Ed N x y l):look N.ts x y=P3 l:=by
 unfold look;cases e:(Do _ x).find? _ with
 |none=>exact absurd (List.find?_eq_none.mp e _ h)^by simp
 |some q=>
  have a:=of_decide_eq_true^lQ (p:=λz=>decide _) e;rw[KC (S4 ok x) (jc e) h a];rfl
theorem N4{N:Net}(ok:N.Ok):∀{r:s_ Str}{x:Str}{s d:Int},walk N (x::r) d->DV N.ts x r s=P3 (s+d)
 |[],x,s,d,h=>by
  have:=h
  subst this;show P3 s=P3 _
  grind
 |y::r,x,s,d,h=>by
  let#[l,e,a,b,rfl]:=h;show(match look _ x y with|some l=>DV _ y r _|none=>p_)=_;rw[NA ok a];show DV _ y r _=_;rw[N4 ok b,Int.add_assoc]
def Xk{N:Net}(ok:N.Ok){x:Str}{r:s_ Str}{d:Int}(hx:x∈N.ps)(a:walk N (x::r) d):KH N^.tup^(x::r).map .str=.int d:=by
 show(if((x::r).map _).all _ then QV N _ else .non)=_;rw[if_pos^all_strs _,B7];show(if x∈N.ps then Jm _ else .non)=_;rw[if_pos hx,N4 ok a,Int.zero_add];rfl
theorem Ld{N:Net}{B:Nat}(ok:N.Ok):∀{w:s_ Str},(∀x∈w,x∈N.ps)->Ea B^w.map .str/\CH^w.map .str<=9*w.length/\F4^w.map .str<=0
 |[],_=>#[trivial,Re _,Re _]
 | x::r,h=>by
  let#[a,b,c]:=Ld ok λy e=>h y^TM _ e;have d:=ok.names x^h x Op;exists#[λf g=>by have:=d.2.2 f g;lk,a],?_
  .show x.length+1+CH _<=9*(r.length+1)
   have:=d.2.1
   omega
  assumption
section
variable {ss:s_ Slot}{n:Nat}{Pd:D->Nat->Prop}
def Sg(h:GU ss n Pd):O8 (EE Pd) n (ss++ZB 0 .no):=by
 let#[N,z,s,rfl,c,d,p]:=h;unfold O8;refine#[_,AJ (j:=0) rfl,z,_,rfl,c,by simp_all,#[λx a=>?_,λx a y e f i k l=>?_],λm o q=>?_]
 .let#[t,_,rfl]:=Tk.mp a
  exact#[CG t,rfl,i9 _ _]
 .let#[t,_,rfl]:=Tk.mp a
  let#[u,_,rfl]:=Tk.mp e;cases(show P3^CG t=P3 f from k);cases(show P3^CG u=P3 i from l);rfl
 .let#[b,r,rfl]:=Q_ (g:=aH) (λ_=>rfl) o
  exact#[z2,p b r^RX q]
end
def thn(N:Net)(a:s_ Ax):Prop:=(∀t∈a,t∈N.ts)/\a.Pairwise Bx
def E6(N:Net)(a:s_ Ax):s_ Ax:=N.ts.filter λt=>decide (t∉a)
abbrev Ay(w:s_ Str):D:=.tup^w.map .str
def walkedK(k:Nat)(M:Net)(a b:Str)(w:s_ Str)(d:Int):Prop:=(∃r,w=a::r)/\w.getLast?=P3 b/\walk M w d/\w.length<=k/\∀x∈w,x∈M.ps
abbrev walked:=walkedK 1000
theorem thn.okN{N:Net}(a:okN N){b:s_ Ax}(h:thn N b):okN #[N.ps,b]:=#[Py a.1 h.1 h.2,a.2.1,by
 have:=sub_len (BC h.2) (BC a.1.trise) h.1
 have:=a.2.2
 grind]
theorem thn.thinB{N:Net}{a:s_ Ax}(h:thn N a):thinB N^enc #[N.ps,a]=q_:=thinB_iff.mpr #[a,rfl,h.1,h.2]
def QU{M:Net}(c:okN M){a b:Str}{w:s_ Str}{d:Int}(h:walked M a b w d):KH M^Ay w=.int d:=by
 let#[#[r,rfl],_,f,_,e]:=h;exact Xk c.1 (e _ Op) f
section
def W5{N:Net}(a:okN N){b:s_ Ax}(h:b.Sublist N.ts):thn N b:=#[λt c=>h.subset c,a.1.trise.sublist h]
end
def UW:D->s_ Str
 |.tup a=>strsOf a
 |_=>[]
def Tw(M:Net)(a b:Str)(d:D):D:=match KH M d with
 |.int l=>if((UW d).head?==P3 a&&(UW d).getLast?==P3 b)=q_ then .int l else .non
 |_=>.non
def Pg(w:Str)(k:Nat):D:=.tup [.str w,.int (k:Int)]
def UO(r:D)(P:D->Nat->Prop)(a:PX)(n:Nat):Prop:=match r with
 |.tup [.str w,.int k]=>a "NoPaper" ["word","number"] [.str w,.int k] n
 |_=>P (.bl q_) n
def aN(d:D):Prop:=fine (10 ^ 41) d/\C7 d<=200000/\F5 d<=90
def Wi:W2:=λc n P=>∃(M:Net) (a b:Str) (d:D),c=[.sh^enc M,.sh^.str a,.sh^.str b,.sh d]/\okN M/\NH d/\P (Tw M a b d) n
def DZ:Aa:=(Ae (BI 4^AZ aW^AE (AL^AC 0)^AE (AL^AC 3) AY)
 (Ae (BH (DM (AW^AU (GI r_) (AC 4)^wC D.non)^DM (AW^AU (Ej q_) (AU A7 (AC 3)^wC^D.int 0)^AC 1)^AW^AU (Ej q_) (AU A7 (AC 3)^Pl^wC^D.int 1)^AC 2) (Au^wC D.non) Av)
 (Au^AC 4)))
def Lv(M:Net)(d:D):KH M d=.non\/∃(x:Str) (r:s_ Str) (l:Int),d=Ay (x::r)/\KH M d=.int l:=by
 cases d with
 | tup g=>
  by_cases b:g.all Dx=q_
  .let#[a,rfl]:=JU b
   have e:KH M^.tup^a.map .str=QV M a:=by
    show(if(a.map D.str).all Dx then QV M^strsOf^a.map .str else .non)=_;rw[if_pos b,B7]
   rw[e];cases a with
   |nil=>exact .inl rfl
   | cons x r=>
    show(if x∈M.ps then Nt.Jm^DV M.ts x r 0 else .non)=.non\/_
    by_cases f:x∈M.ps
    .rw[if_pos f]
     cases c:DV M.ts x r 0 with
     |none=>exact .inl rfl
     |some l=>exact .inr #[x,r,l,rfl,by show(if x∈M.ps then Nt.Jm^DV M.ts x r 0 else .non)=_;rw[if_pos f,c];rfl]
    simp_all
  .exact .inl^if_neg b
 |_=>exact .inl rfl
def Ly(M:Net)(a b:Str)(d:D):Tw M a b d=.non\/∃l,Tw M a b d=.int l:=by
 unfold Tw
 split
 .split
  .grind
  grind
 grind
def NG{a:s_ D}(h:NH^.tup a){d:D}(hd:d∈a):NH d:=by
 have b:CH a<=160000:=h.2.1;have c:F4 a+1<=50:=h.2.2
 have:=RE hd
 have:=dps_le.mp (Re _) d hd
 exact#[fines_iff.mp h.1 d hd,by lk,by lk]
section
variable {ss:s_ Slot}{n:Nat}{Pd:D->Nat->Prop}
def XD(h:Wi ss n Pd):DZ (EE Pd) n (ss++ZB 1 .no):=by
 let#[M,a,b,d,rfl,c,k,p]:=h;unfold DZ;exists M,d,rfl,c.1,by have:=c.2.1;lk,c.2.2,k;unfold Tw at p
 rcases Lv M d with e|⟨x,r,l,rfl,e⟩
 .rw[e]at p ⊢
  exact#[rfl,p]
 .rw[e]at p ⊢
  have m:UW^Ay (x::r)=x::r:=B7 _;simp only[m]at p;obtain⟨y,f⟩:∃y,(x::r).getLast?=P3 y:=#[_,lV^by simp];exists rfl,.str x,AJ (j:=0) rfl;show if(!(x==a))=q_ then _ else _
  rw[f]at p;have p:Pd (if(P3 x==P3 a&&P3 y==P3 b)=q_ then .int l else .non) n:=p;rw[lR,lR]at p;cases g:x==a with
  |false=>rw[g]at p;exact Bw p
  |true=>
   rw[g]at p;refine Br #[1,rfl,.str y,Rg f,?_];show if(!(y==b))=q_ then _ else _
   cases i:y==b with
   |false=>rw[i]at p;exact Bw p
   |true=>rw[i]at p;exact Br p
def cD(d e:D):jO ("word":Str)^(["word","number"]:s_ Str).zip [d,e]=P3 d:=rfl
def cC(d e:D):jO ("number":Str)^(["word","number"]:s_ Str).zip [d,e]=P3 e:=by simp[jO];rw[show(("number":Str)=="word")=r_ by cbv]
end
def WW{M:Net}(ok:M.Ok){a x:Str}{K:Kn}(T:LTold M a K){c:Int}(e:K x=P3 c)(h:x≠a):∃y b l,K y=P3 b/\look M.ts y x=P3 l/\b+l=c:=by
 let#[i,j]:=T.least x c e;cases i with
 |nil=>exact absurd rfl h
 | @snoc y _ d l w f=>
  have k:=T.all y d w;cases g:K y with
  |none=>exact absurd g k
  |some b=>
   let#[m,n]:=T.least y b g;exists y,b,l,g,NA ok f
   have:=n d w
   have:=j _^.snoc m f
   omega
structure fw (M:Net) (K:Kn) (acc:List Str) (x:Str):Prop where
 lst:acc.getLast?=P3 x
 nd:acc.Nodup
 ins:∀u∈acc,u∈M.ps
 far:∀dx,K x=P3 dx->∀u∈acc,∃du,K u=P3 du/\dx<=du
end Nt
namespace L2
open PySem.AutoSeq1 (wpAny_loadPart')
end L2
namespace Dp
open L2
end Dp
namespace Nt
open L2 Dp
end Nt
namespace Dp
open L2
mutual
def flat:D->Bool
 |.tup ds=>Vu ds
 |.lst _=>r_
 |.dic _ _=>r_
 |.fdi _ _=>r_
 |.dit _ _=>r_
 |_=>q_
def Vu:s_ D->Bool
 |[]=>q_
 |d::ds=>flat d&&Vu ds
end
section
variable {K:Frag}{M M':Addr->Prop}{H:Hp}
mutual
theorem Xw:∀(d:D) {v:V},flat d=q_->At K M H d v->At K M' H d v
 |.non,_,_,h=>h
 |.bl _,_,_,h=>h
 |.int _,_,_,h=>h
 |.str _,_,_,h=>h
 |.tup ds,_,f,#[a,vs,e,n,h]=>#[a,vs,e,n,Oq ds f h]
 |.lst _,_,f,_=>by cases f
 |.dic _ _,_,f,_=>by cases f
 |.fdi _ _,_,f,_=>by cases f
 |.dit _ _,_,f,_=>by cases f
theorem Oq:∀(ds:s_ D) {vs:s_ V},Vu ds=q_->Ats K M H ds vs->Ats K M' H ds vs
 |[],_,_,h=>h
 |d::ds,_,f,#[v,r,e,h,hs]=>#[v,r,e,Xw d (gP _ _▸f:_/\_).1 h,Oq ds (gP _ _▸f:_/\_).2 hs]
end
end
end Dp
set_option maxHeartbeats 400000
namespace Dp
open L2
end Dp
namespace Nt
open L2 Dp
def FS:W2:=λa n P=>∃(M:Net) (u:Ax),a=[.sh^enc M,.sh^Ad u]/\okN M/\P (enc #[M.ps,M.ts.filter λv=>A9 (Bj v)^Bj u]) n
def G9:Aa:=(Au^AZ GU^AE (AL^AC 0)^AE (Bu^CQ [P3 1,p_] (BA^AU A7 (AC 0)^wC^D.int 1) (AR 1) (AW^AU EU (AZ Pa^AE (AL^AC 1) AY)^AZ Pa^AE (AL^AC 0) AY)^AC 1) AY)
def walkedK.up{k:Nat}(c:k<=1000){M:Net}{a b:Str}{w:s_ Str}{d:Int}(h:walkedK k M a b w d):walked M a b w d:=#[h.1,h.2.1,h.2.2.1,gG h.2.2.2.1 c,h.2.2.2.2]
section
variable {ss:s_ Slot}{n:Nat}{Pd:D->Nat->Prop}
def QA(h:FS ss n Pd):G9 (EE Pd) n (ss++ZB 0 .no):=by
 let#[M,u,rfl,a,p]:=h;have ok:=a.1;have g:=a.2.2;unfold G9;refine#[_,AJ (j:=1) rfl,by show(M.ts.map Ad).length<=10000000;rw[No];lk,?_];refine DR (λd=>match d with|.tup [.str x,.str y,.int l]=>A9 [.inl l,.inr x,.inr y]^Bj u|_=>r_) id (λf=>∃s,f=[.sh^Ad u,s]) _ _ _ _ ?_ #[_,rfl] ?_
 .rintro d i f m w z ⟨s,rfl⟩ k o
  let#[v,A,rfl]:=Tk.mp i;exists _,_,_,rfl,_,_,_,rfl,Bj v,Bj u,rfl,rfl,rfl;rw[Lx];show if A9 (Bj v) (Bj u)=q_ then _ else _
  exact CI (λc=>k _ #[_,rfl] c) λc=>o _ #[_,rfl]^h9.mpr c
 .rw[gu,ln]
  have e:(M.ts.map Ad).filter (λd=>match d with|.tup [.str x,.str y,.int l]=>A9 [.inl l,.inr x,.inr y]^Bj u|_=>r_)=(M.ts.filter λv=>A9 (Bj v)^Bj u).map Ad:=by
   rw[kR];rfl
  rw[e];have b:=W5 a^List.filter_sublist (l:=M.ts) (p:=λv=>A9 (Bj v)^Bj u);refine#[M,_,M.ts.filter λv=>A9 (Bj v)^Bj u,rfl,rfl,by have:=gs (λv=>A9 (Bj v)^Bj u) M.ts;lk,λq r t=>?_];rw[JS r t^Kq b.2];exact p
end
end Nt
set_option maxHeartbeats 4000000
namespace Dp
open L2
end Dp
namespace Nt
open L2 Dp
def K3:W2:=λb n P=>∃m:Nat,b=[.fd,.sh^.int m]/\m<=24/\1<=n/\∀a:s_ Str,a.length=m->(∀x∈a,Yl x)->rising a->P (.tup^a.map .str) (n - 1)
def Ny:W2:=λa n P=>∃s:Int,a=[.fd,.sh^.int s]/\0<=s/\1<=n/\∀r:Int,1<=r->r<=1000000->P (.int r) (n - 1)
def Q2:W2:=λd n P=>∃a b:Nat,d=[.fd,.sh^.int a,.sh^.int b]/\2<=a/\a<=24/\3<=b/\b<=60/\130<=n/\∀(N:Net) (c:Nat),N.Ok->2<=N.ps.length->N.ps.length<=a->N.ts.length<=b->n - 130<=c->P (enc N) c
def FJ:Aa:=(Ae (BI 2^CM^AD (wC^D.str "a")^AD (wC^D.str "ab")^AD (wC^D.str "aba")^AD (wC^D.str "b")^AD (wC^D.str "in")^AD (wC^D.str "out")^AD (wC^D.str "place")^AD (wC^D.str "tie")^AD (wC^D.str "c")^AD (wC^D.str "ca")^AD (wC^D.str "near")^AD (wC^D.str "z") AQ)
 (Ae (BI 2^AU A2 (AC 2)^CM^AD (wC^D.str "za")^AD (wC^D.str "zb")^AD (wC^D.str "x")^AD (wC^D.str "xy")^AD (wC^D.str "y")^AD (wC^D.str "q")^AD (wC^D.str "qq")^AD (wC^D.str "d")^AD (wC^D.str "e")^AD (wC^D.str "f")^AD (wC^D.str "g")^AD (wC^D.str "h") AQ)
 (Ae (BI 3^AZ Bt^AE (BE 0)^AE (AL^wC^D.int 24) AY)
 (Au^CB BL^AD (CB Vx^AD (CQ [P3 2,P3 3,p_] (IA^AD (AC 1) AQ) (AR 2) Ek^AU A7 (AC 0)^AU (Yr (λ_ j=>0<j) λi j=>D.int (i % j)) (AU A2 (AC 1)^AC 2)^wC^D.int 24) AQ) AQ))))
def Eb:Aa:=(Ae (BH (AW^AU EU (AC 1)^wC^D.int 3) (Au^AU A2 (wC^D.int 1)^AZ Bt^AE (BE 0)^AE (AL^AU A7 (CM^AD (wC^D.int 2)^AD (wC^D.int 4)^AD (wC^D.int 9) AQ)^AC 1) AY) Av)
 (Ae (BH (AW^AU (Ej r_) (AC 1)^wC^D.int 3) (Au^AU A2 (wC^D.int 1)^AZ Bt^AE (BE 0)^AE (AL^wC^D.int 60) AY) Av)
 (Au^AU E9 (AU (Yr Q6 λi j=>D.int (i ^ j.toNat)) (wC^D.int 10)^wC^D.int 6)^AZ Bt^AE (BE 0)^AE (AL^wC^D.int 3) AY)))
def HC:Aa:=(Ae (BI 3^AZ K3^AE (BE 0)^AE (AL^AU A2 (wC^D.int 2)^AZ Bt^AE (BE 0)^AE (AL^AU E9 (AC 1)^wC^D.int 1) AY) AY)
 (Ae (CP 4^CM AQ)
 (Ae (C8 (BA^AC 3) (AR 5)^Ij 4 "list" cT^AD (CQ [P3 5,p_] (BA^AC 3) (AR 1) (AW^AU EU (AC 0)^AC 1)^A_^AD (AC 0)^AD (AC 1) AQ) AQ)
 (Ae (BI 6^AZ Bt^AE (BE 0)^AE (AL^wC^D.int 5) AY)
 (Ae (BI 7^AU E9 (AC 2)^AZ Bt^AE (BE 0)^AE (AL^AU A2 (AU (Yr Wm λi j=>D.int (i / j)) (AC 2)^wC^D.int 2)^wC^D.int 1) AY)
 (Ae (BH (AW^AU (Ej r_) (AZ Bt^AE (BE 0)^AE (AL^wC^D.int 6) AY)^wC^D.int 0) (BI 7^AZ Bt^AE (BE 0)^AE (AL^wC^D.int 4) AY) Av)
 (Ae (CP 8^CM AQ)
 (Ae (C8 (IA^AD (CB Rt^AD (AC 7)^AD (CB C6^AD (Ap 4) AQ) AQ) AQ) (AR 9) (Ae (Wu 4 (AZ Bt^AE (BE 0)^AE (AL^CB C6^AD (Ap 4) AQ) AY)^CF 2^AX (AR 5)^AX (AR 10) BZ)
 (Ij 8 "list" Dy^AD (A_^AD (AC 5)^AD (AC 10)^AD (AZ Ny^AE (BE 0)^AE (AL^AC 6) AY) AQ) AQ)))
 (Au^A_^AD (AC 3)^AD (CB BL^AD (CB Cf^AD (Ap 8) AQ) AQ) AQ)))))))))
def words24:s_ Str:=["a","ab","aba","b","in","out","place","tie","c","ca","near","z","za","zb","x","xy","y","q","qq","d","e","f","g","h"]
def Dg(i:Nat):Str:=words24.getD i "a"
def Pj:∀i,i<24->Yl^Dg i:=by
 have h:∀i∈gi 24,1<=(Dg i).length/\(Dg i).length<=8/\∀c∈cs^Dg i,97<=c/\c<=122:=by decide +kernel
 exact λi a=>h i^i_.mpr a
def SO:∀i j,i<24->j<24->Dg i=Dg j->i=j:=by
 have h:∀i∈gi 24,∀j∈gi 24,cs^Dg i=cs^Dg j->i=j:=by decide +kernel
 exact λi j a b e=>h i (i_.mpr a) j (i_.mpr b)^congrArg cs e
def T7(i:Nat)(h:i<24):(words24.map D.str)[i]?=P3^.str^Dg i:=by
 have a:i<words24.length:=h;unfold Dg
 simp_all
section
variable {ss:s_ Slot}{n:Nat}{Pd:D->Nat->Prop}
def Jo(h:K3 ss n Pd):FJ (EE Pd) n (ss++ZB 2 .no):=by
 let#[m,rfl,o,q,p]:=h;unfold FJ;exists(by cbv:12<=sizeLine),(by cbv:12<=sizeLine),(by cbv:24<=sizeLine);refine#[24,rfl,by cbv,by cbv,q,λfirst w x=>?_];obtain⟨f,rfl⟩:∃f:Nat,first=(f:Int):=#[first.toNat,(by first|exact u0|exact u1|exact u2|exact w0|exact w1|omega)]
 refine#[(m:Int),rfl,#[(by first|exact u0|exact u1|exact u2|exact w0|exact w1|omega),(by first|exact u0|exact u1|exact u2|exact w0|exact w1|omega)],by rw[Gm];lk,?_];refine B0 (λd=>match d with|.int k=>.str^Dg ((f+k.toNat) % 24)|_=>.non) (λi=>∃s,i=[.sh^.lst^words24.map .str,.sh^.int f,s]) _ _ _ _ ?_ #[_,rfl] ?_
 .rintro d r i z A ⟨s,rfl⟩ a
  let#[k,l,rfl]:=Jl r;have b:(f+k) % 24<24:=nC _ (by cbv);exists by show(0:Int)<24;decide,.str^Dg ((f+k) % 24),?_
  .rw[show((f:Int)+(0+(k:Int))) % 24=(((f+k) % 24:Nat):Int) by lk]
   exact AJ^T7 _ b
  .have:=a [.sh^.lst^words24.map .str,.sh^.int f,.sh^.int (0+(k:Int))] #[_,rfl]
   rw[show(0+(k:Int))=k by lk]at this ⊢;exact this
 .have e:[]++(EA 0 ((m:Int)).toNat).map (λd=>match d with|.int k=>D.str^Dg ((f+k.toNat) % 24)|_=>.non)=((gi m).map λk:Nat=>Dg ((f+k) % 24)).map .str:=by
   unfold EA;rw[gu,jG,jG,jX];refine lf λk _=>?_
   have:(0+(k:Int)).toNat=k:=by lk
   simp only[Function.comp,this]
  rw[e];refine#[_,_,rfl,PC _,by rw[No,mQ];lk,λc g t=>p c ?_ ?_ ?_]
  .rw[g.length_eq,No,mQ]
  .intro y u
   let#[k,_,rfl]:=Tk.mp^g.mem_iff.mp u;exact Pj _^nC _^by cbv
  .refine K9 t^g.nodup_iff.mpr^Lr List.nodup_range λj v k l e=>?_
   exact Xh o (i_.mp v) (i_.mp l)^SO _ _ (nC _^by cbv) (nC _^by cbv) e
def Im(h:Ny ss n Pd):Eb (EE Pd) n (ss++ZB 0 .no):=by
 let#[s,rfl,f,a,p]:=h;have i:((10:Int) ^ (6:Int).toNat)=1000000:=by cbv
 unfold Eb;refine CI (λc=>?_) λ_=>?_
 .have c:s<3:=of_decide_eq_true c
  let#[z,g,w,rfl,j]:=WR (p:=λd=>∃w:Int,d=.int w/\1<=w/\w<=9) (xs:=[D.int 2,D.int 4,D.int 9]) (λd k=>by
   grind) f^by lk
  exact#[(by cbv:3<=sizeLine),_,g,w,rfl,(by grind),(by grind),a,λr b e=>p _ ((by lk))^(by lk)]
 refine CI (λ_=>#[60,rfl,by cbv,by cbv,a,λr b e=>p _ ((by lk))^(by grind)]) λ_=>?_;exact#[#[by cbv,by cbv,by cbv],3,rfl,by cbv,by cbv,a,λr b e=>p _ (by lk)^by lk]
end
def pairD(p:Str×Str):D:=.tup [.str p.1,.str p.2]
def Co(a:Str)(c:s_ Str):s_ (Str×Str):=(c.filter λb=>decide (cs a<cs b)).map λb=>(a,b)
def pairsOf(b c:s_ Str):s_ (Str×Str):=b.flatMap λa=>Co a c
def WZ(a:Str):D->Bool
 |.str b=>decide (cs a<cs b)
 |_=>r_
def WY(a:Str)(b:s_ Str):[]++((b.map D.str).filter^WZ a).map (λd=>D.tup [.str a,d])=(Co a b).map pairD:=by
 rw[kR,jG];unfold Co;rw[jG];rfl
def OS{c d:s_ Str}{p:Str×Str}(h:p∈pairsOf c d):p.1∈c/\p.2∈d/\cs p.1<cs p.2:=by
 let#[a,e,h]:=jj.mp h;let#[b,f,rfl]:=Tk.mp h
 simp_all
def Mt{d f:s_ Str}(g:rising d)(e:rising f):(pairsOf d f).Pairwise eL:=by
 unfold pairsOf;rw[List.pairwise_flatMap];refine#[λa _=>?_,g.imp λ{a b} h x e y i=>?_]
 .unfold Co
  rw[j5];exact(e.filter _).imp λ{b c} h=>.inr #[rfl,h]
 .let#[_,_,rfl]:=Tk.mp e
  let#[_,_,rfl]:=Tk.mp i;exact .inl h
def WL(x:Str):¬cs x<cs x:=je _
def V5{l:s_ (Str×Str)}(h:l.Pairwise eL):l.Nodup:=h.imp λ{p q} h e=>by
 subst e
 rcases h with h|⟨_,h⟩ <;>exact WL _ h
theorem Ey{c:s_ Str}:∀{b:s_ Str},(pairsOf b c).length<=b.length*c.length
 |[]=>f8 _
 |a::b=>by
  have d:=@Ey c b;show(Co a c++pairsOf _ c).length<=_;rw[XV,gB,Nat.add_mul,Nat.one_mul]
  have:(Co a c).length<=c.length:=by unfold Co;rw[No];grind
  omega
theorem GK{b:Type}:∀{l:s_ b}{k:Nat}{x:b},l[k]?=P3 x->(x::l.eraseIdx k).Perm l
 |[],k,x,e=>by simp at e
 |a::l,0,x,e=>by simp_all
 |a::l,k+1,x,e=>(List.Perm.swap a x _).trans^(GK (l:=l) e).cons a
def WP{e:s_ Ax}(h:Ih e)(nd:(e.map ends).Nodup):e.Pairwise Bx:=by
 refine(h.and^j5.mp nd).imp λ{s t} #[a,b]=>jb λc=>?_
 by_cases d:Bx t s
 .have:=MZ d
  grind
 .refine b ?_
  injection Bv _ _ (by rw[h9];exact λz=>c^ekey_iff.mp z) (by rw[h9];exact λz=>d^ekey_iff.mp z)with f i
  injection i with g _
  injection f with f
  injection g with g
  unfold ends;rw[f,g]
def u0{n k j:Nat}(h:k<=n:=by assumption)(e:m9 j k=q_:=by rfl):j<=n:=gG (Nat.le_of_ble_eq_true e) h
def u1{n k j a:Nat}(h:k<=n:=by assumption)(e:m9 (j+a) k=q_:=by rfl):j<=n - a:=jd^gG (Nat.le_of_ble_eq_true e) h
def u2{n k j a b:Nat}(h:k<=n:=by assumption)(e:m9 (j+b+a) k=q_:=by rfl):j<=n - a - b:=jd^u1 h e
def u3{n k j a b c:Nat}(h:k<=n:=by assumption)(e:m9 (j+c+b+a) k=q_:=by rfl):j<=n - a - b - c:=jd^u2 h e
def u4{n k j a b c d:Nat}(h:k<=n:=by assumption)(e:m9 (j+d+c+b+a) k=q_:=by rfl):j<=n - a - b - c - d:=jd^u3 h e
def u5{n k j a b c d f:Nat}(h:k<=n:=by assumption)(e:m9 (j+f+d+c+b+a) k=q_:=by rfl):j<=n - a - b - c - d - f:=jd^u4 h e
def v1{a n m j:Nat}(h:a<=n)(e:n - j<=m):a - j<=m:=gG (Nat.sub_le_sub_right h j) e
def eX{n m j c:Nat}(a:124<=n)(b:n - 2*j<=m)(d:j<c)(e:c<=60):3<=m/\n - 2*(j+1)<=m - 1 - 1:=by lk
def eg{n a m c:Nat}(h:n - 6<=a)(b:a - 2*c<=m)(d:c<=60):n - 130<=m:=by lk
def fK(n:Nat):n - 6<=n - 1 - 1 - 1 - 1 - 1/\n - 6<=n - 1 - 1 - 1 - 1 - 1 - 1:=by lk
def EM{ts:s_ Ax}{z:D}{P:D->Prop}(c:D9 z=P3^ts.map Ad)(d:ts.length<64)(p:∀a:s_ Ax,a.Perm ts->Ih a->P^.lst^a.map Ad):Cf [z] P:=by
 refine#[z,_,rfl,c,by simp_all,#[λx b=>?_,λx b y e m n f h=>?_],λi j k=>?_]
 .let#[t,_,rfl]:=Tk.mp b
  exact#[_,rfl,i9 _ _]
 .let#[t,_,rfl]:=Tk.mp b
  let#[u,_,rfl]:=Tk.mp e;cases(f);cases(h);rfl
 .let#[a,l,rfl]:=Q_ (g:=aH) (λ_=>rfl) j
  exact p _ l^RX k
def QO{b:Type}{a:s_ b}{x:b}{l:s_ b}{k:Nat}(e:l[k]?=P3 x):((a++[x])++l.eraseIdx k).Perm (a++l):=by
 rw[gS];exact(GK e).append_left a
section
variable {ss:s_ Slot}{n:Nat}{Pd:D->Nat->Prop}
theorem L9{i:E2}{m:Nat}{d:s_ Str}(k:d.length<=24){l:BW}{mk:s_ D->Slot->s_ Slot}(f:Aa)
  (g:∀(fr:s_ D) (s:Slot) (a:Str) (nx:Nat->s_ Slot->Prop),fr.length+24<=1000->(∀j,nx m^mk (fr++(Co a d).map pairD) j)->l (.str a) (mk fr s) λo=>f {i with nx:=nx,ct:=nx,bk:=i.nx} m o)
  (h:∀s,i.nx m^mk ((pairsOf d d).map pairD) s):∀(c b:s_ Str) (s:Slot),b++c=d->A0 l f i (c.map .str) m^mk ((pairsOf b d).map pairD) s
 |[],b,s,e=>by
  rw[gK]at e;subst e;exact h s
 |a::c,b,s,e=>by
  have q:=@Ey d b;have p:b.length<=24:=by grind
  have r:b.length*d.length<=24*24:=Nat.mul_le_mul p k;refine g _ s a _ (by grind) λj=>?_;have t:=L9 k f g h c (b++[a]) j (by grind);have u:pairsOf (b++[a]) d=pairsOf b d++Co a d:=by unfold pairsOf;grind
  grind
def Ml(h:Q2 ss n Pd):HC (EE Pd) n (ss++ZB 8 .no):=by
 let#[u,i,rfl,W,X,Y,a9,hn,p]:=h;have Z:=PySem.sizeLine_eq;unfold HC;refine#[_,rfl,by lk,by lk,u0,λr r0 r1=>?_];refine#[(2+r).toNat,by rw[show(((2+r).toNat:Nat):Int)=2+r by lk],by lk,by lk,λf hl hx hr=>#[(by cbv:0<=sizeLine),?_]];have w:f.length<=24:=by lk
 have a0:2<=f.length:=by lk
 have a1:f.length<=u:=by lk
 clear hl r0 r1;refine L9 (m:=n - 1 - 1) w (mk:=λfr s=>[.fd,.sh^.int u,.sh^.int i,.sh^.tup^f.map .str,.ow^.lst fr,s,.no,.no,.no,.no,.no]) _ (λfr s a nx F x=>?_) (λQ=>?_) f [] .no rfl
 .exists _,rfl,rfl,by rw[No];lk
  refine DR (WZ a) (λd=>.tup [.str a,d]) (λO=>∃s,O=[.sh^.str a,s]) _ _ _ _ ?_ #[_,rfl] ?_
  .rintro d hd O m b0 sk ⟨s2,rfl⟩ G H
   let#[b,hb,rfl]:=Tk.mp hd;refine CI (λc=>#[z2,G _ #[_,rfl] c]) λc=>H _ #[_,rfl]^h9.mpr c
  .rw[WY]
   have b1:(Co a f).length<=24:=by unfold Co;rw[No];exact gG (gs _ _) w
   exact#[fr,_,rfl,rfl,by rw[No];lk,x _]
 refine#[5,rfl,by cbv,by cbv,(by first|exact u0|exact u1|exact u2|exact u3|exact u4|exact u5|exact u6),λI w0 w1=>?_];refine#[#[by cbv,by cbv],_,rfl,by lk,by lk,(by first|exact u0|exact u1|exact u2|exact u3|exact u4|exact u5|exact u6),λq q0 q1=>?_];refine#[6,rfl,by cbv,by cbv,(by first|exact u0|exact u1|exact u2|exact u3|exact u4|exact u5|exact u6),λr6 _ _=>?_];have E:∀(g:Int) (R:Nat),0<=g->g<=i->n - 6<=R->(Ae (CP 8^CM AQ)
 (Ae (C8 (IA^AD (CB Rt^AD (AC 7)^AD (CB C6^AD (Ap 4) AQ) AQ) AQ) (AR 9) (Ae (Wu 4 (AZ Bt^AE (BE 0)^AE (AL^CB C6^AD (Ap 4) AQ) AY)^CF 2^AX (AR 5)^AX (AR 10) BZ)
 (Ij 8 "list" Dy^AD (A_^AD (AC 5)^AD (AC 10)^AD (AZ Ny^AE (BE 0)^AE (AL^AC 6) AY) AQ) AQ)))
 (Au^A_^AD (AC 3)^AD (CB BL^AD (CB Cf^AD (Ap 8) AQ) AQ) AQ))) (EE Pd) R [.fd,.sh^.int u,.sh^.int i,.sh^.tup^f.map .str,.ow^.lst^(pairsOf f f).map pairD,Q,.sh^.int I,.sh^.int g,.no,.no,.no]:=by
  intro g R A J K;clear q0 q1 W X Y;have pl:=@Ey f f;have S:f.length*f.length<=24*24:=Nat.mul_le_mul w w;exists(by cbv:0<=sizeLine),_,_,rfl,rfl;obtain⟨j,o⟩:∃j:Int,j=(if(((pairsOf f f).map pairD).length:Int)<g then(((pairsOf f f).map pairD).length:Int)else g):=#[_,rfl];have a2:j<=g:=by rw[o];split <;>lk
  have a3:j<=(pairsOf f f).length:=by rw[o,No];split <;>lk
  have a4:0<=j:=by rw[o];split <;>lk
  exists j,by rw[o],#[by lk,by lk];clear o;obtain⟨c,rfl⟩:∃c:Nat,j=(c:Int):=#[j.toNat,by lk];have v:c<=60:=by lk
  have a5:c<=i:=by lk
  have b2:c<=(pairsOf f f).length:=by lk
  have a7:(pairsOf f f).length<=576:=gG pl S;have L:124<=R:=v1 hn K;clear a2 a3 a4 J A pl S;rw[jX]
  refine Ls (all:=EA 0 c) (λM m O=>R - 2*M.length<=m/\∃(e:s_ Ax) (free:s_ (Str×Str)) (Q s9 N:Slot),e.length=M.length/\(e.map ends++free).Perm^pairsOf f f/\(∀t∈e,1<=t.len/\t.len<=1000000) /\
   O=[.fd,.sh^.int u,.sh^.int i,.sh^.tup^f.map .str,.ow^.lst^free.map pairD,Q,.sh^.int I,.sh^.int g,.ow^.lst^e.map Ad,s9,N]) ?_ ?_ _ [] _ _ rfl #[by simp,[],pairsOf f f,_,_,_,rfl,.refl _,(λ_ h=>by cases h),rfl]
  .rintro m O ⟨P,e,free,Q,s9,N,G,H,h3,rfl⟩
   rw[Gm]at G P;show Cf [D.lst^e.map Ad] λz=>BL [z] λy=>2<=sizeLine/\Pd (.tup [.tup^f.map .str,y]) m;refine EM (ts:=e) rfl (by rw[G];exact jR v^by cbv) λB p1 p2=>?_
   have T:∀t∈B,(t.a∈f/\t.b∈f/\cs t.a<cs t.b)/\1<=t.len/\t.len<=1000000:=λt C=>by
    have hf:=p1.mem_iff.mp C
    have:ends t∈pairsOf f f:=H.mem_iff.mp^gQ _^List.mem_map_of_mem hf
    exact#[OS this,h3 t hf]
   have nd:(B.map ends).Nodup:=by
    have a:=H.nodup_iff.mpr^V5^Mt hr hr;exact((p1.map ends).nodup_iff).mpr (gm.mp a).1
   refine#[z2,p #[f,B] m #[hx,hr,λt C=>?_,WP p2 nd] a0 a1 (by show B.length<=i;rw[p1.length_eq,G];exact a5)^eg K P v];let#[#[a,b,c],d]:=T t C;exact#[a,b,c,d]
  .rintro M d a8 m O nx U ⟨P,e,free,Q,s9,N,G,H,h3,rfl⟩ x
   let#[rfl,hk]:=XA U;have V:=H.length_eq;rw[XV,No]at V;rw[XV,gD]at x;have F:(free.map pairD).length=free.length:=No ..;let#[f3,f4]:=eX L P hk v;have ff:1<=free.length/\free.length<=576/\e.length<=576:=by clear P K hn f3 f4;lk
   clear P;refine#[_,rfl,_,_,rfl,rfl,_,rfl,by rw[F];exact Int.ofNat_le.mpr ff.1,by rw[F];exact Int.ofNat_lt.mpr^jR ff.2.1^by cbv,u0,λr r0 r1=>?_];obtain⟨k,rfl⟩:∃k:Nat,r=(k:Int):=#[r.toNat,by lk];have a6:k<free.length:=by lk
   have e1:free[k]?=P3 free[k]:=On a6;exists k,pairD free[k],rfl,by rw[gM,e1];rfl,by lk,rfl,rfl;refine#[_,rfl,rfl,I,rfl,w0,u1,λl l0 l1=>#[z3,_,_,rfl,rfl,by rw[No,Z];exact jR ff.2.2^by cbv,?_]];rw[Fe];refine x _ _ #[f4,e++[#[free[k].1,free[k].2,l]],free.eraseIdx k,_,_,_,by rw[XV,gD,G],?_,λt C=>?_,by rw[gU];rfl]
   .rw[gU]
    exact(QO (a:=e.map ends) e1).trans H
   .rcases eq.mp C with C|C
    .exact h3 t C
    .rw[Sc.mp C]
     exact#[l0,l1]
 refine CI (λ_=>#[4,rfl,by cbv,by cbv,(by first|exact u0|exact u1|exact u2|exact u3|exact u4|exact u5|exact u6),λr4 _ _=>E _ _ (by lk) (by lk) (fK n).2]) λ_=>E _ _ (by lk) (by lk) (fK n).1
end
def EI:Aa:=(Ae (CP 2^Pm (AC 1)^wC^D.int 0)
 (Ae (BI 3^wC^D.bl q_)
 (Ae (GA (AW^AC 3) (Ae (BI 3^wC^D.bl r_)
 (N5 0 (CF 3^AX (AR 4)^AX (AR 5)^AX (AR 6) BZ) (C8 (BA^CM^AD (A_^AD (AC 4)^AD (AC 5) AQ)^AD (A_^AD (AC 5)^AD (AC 4) AQ) AQ) (CF 2^AX (AR 7)^AX (AR 8) BZ) (BH (Em (AW^AU (GJ r_) (AC 7)^Ap 2)^AW^AU EU (AU A2 (AU BR (Ap 2)^AC 7)^AC 6)^UE (Ap 2) (AC 8)^AU (Yr Q6 λi j=>D.int (i ^ j.toNat)) (wC^D.int 10)^wC^D.int 20) (Ae (DN 2 (AC 8)^AU A2 (AU BR (Ap 2)^AC 7)^AC 6)
 (BI 3^wC^D.bl q_)) Av)))))
 (JN 2))))
def FI:Aa:=(Ae (BI 1^CB Cf^AD (CQ [p_] (BA^AC 0) (AR 0) Ek^A_^AD (AU A7 (AC 0)^wC^D.int 2)^AD (AU A7 (AC 0)^wC^D.int 0)^AD (AU A7 (AC 0)^wC^D.int 1) AQ) AQ)
 (Au^CQ [p_,p_,p_] (BA^AC 1) (CF 3^AX (AR 0)^AX (AR 1)^AX (AR 2) BZ) Ek^A_^AD (AC 1)^AD (AC 2)^AD (AC 0) AQ))
abbrev WQ:Aa:=(BH (Em (AW^AU (GJ r_) (AC 7)^Ap 2)^AW^AU EU (AU A2 (AU BR (Ap 2)^AC 7)^AC 6)^UE (Ap 2) (AC 8)^AU (Yr Q6 λi j=>D.int (i ^ j.toNat)) (wC^D.int 10)^wC^D.int 20) (Ae (DN 2 (AC 8)^AU A2 (AU BR (Ap 2)^AC 7)^AC 6)
 (BI 3^wC^D.bl q_)) Av)
def fo:((10:Int) ^ (20:Int).toNat)=100000000000000000000:=by decide +kernel
section
variable {ss:s_ Slot}{n:Nat}{Pd:D->Nat->Prop}
def HU(h:HJ ss n Pd):EI (EF Pd) n (ss++ZB 7 .no):=by
 let#[N,s,H,us,rfl,a0,J,L,hs,p]:=h;have a7:=PySem.sizeLine_eq;have ok:=L.1;have a8:=L.2.1;unfold EI;exists _,Aw s
 have step:∀(X:E2) (x y:Str) (l:Int),Ed N x y l->∀(f:s_ Key) (i:s_ D) (K:Kn) (g:Bool) (o q v w:Slot),Dmap f i D.int K->Bf N s f.length K->
   (∀(C:s_ Key) (O:s_ D) (k:Kn) (g':Bool) (t7 t8:Slot),Dmap C O D.int k->Bf N s C.length k->((g'=g/\k=K/\JR K (x,y,l))\/(g'=q_/\Tv N.ps k<Tv N.ps K))->
    X.nx n [.br H,.sh^.str s,.ow^.dic C O,.sh^.bl g',o,q,.sh^.int l,t7,t8])->
   WQ X n [.br H,.sh^.str s,.ow^.dic f i,.sh^.bl g,o,q,.sh^.int l,.sh^.str x,.sh^.str y]:=by
  intro X x y l he f i K g o q v w M B hD;have kl:=M.le B.ins;exists f,i,_,rfl,Aw x;show if((Bo f i^.inr x).isSome)=q_ then _ else _
  cases ex:K x with
  |none=>
   rw[M.at_,ex];exact Br^hD f i K g _ _ M B^.inl #[rfl,rfl,λd e=>by rw[show K x=P3 d from e]at ex;cases ex]
  | some d=>
   have a9:=B.top x d ex;have lp:=(he.pos ok).2;rw[M.at_,ex];refine Bw #[f,i,_,_,rfl,Aw x,by rw[M.at_,ex];rfl,?_];exists f,i,rfl,#[by cbv,by cbv,by cbv],_,Aw y
   have R:(K y=p_\/∃A,K y=P3 A/\d+l<A)->(Ae (DN 2 (AC 8)^AU A2 (AU BR (Ap 2)^AC 7)^AC 6)^BI 3^wC^D.bl q_) X n [.br H,.sh^.str s,.ow^.dic f i,.sh^.bl g,o,q,.sh^.int l,.sh^.str x,.sh^.str y]:=λE=>by
    refine#[f,i,rfl,f,i,_,.int d,rfl,Aw x,by rw[M.at_,ex];rfl,_,Aw y,by lk,?_];have r:=Jt f^.inr y
    have S:=B.put ok (c':=(C3 f^.inr y).length) (by rw[r];split <;>lk) (by rw[r];split <;>lk) ex he (λe=>by rw[r,if_neg^by rw[(M.has (x:=y)).1 e];decide]) (λA e=>by
     rcases E with E|⟨d2,E,T⟩
     .rw[e]at E;cases E
     .rw[e]at E;cases E;exact T)
    exact hD _ _ _ q_ _ _ (M.put y (d+l)) S.1^.inr #[rfl,S.2]
   rw[M.at_];cases ey:K y with
   |none=>
    show if decide (d+l<(10:Int) ^ (20:Int).toNat)=q_ then _ else _
    rw[decide_eq_true^by rw[fo];lk];exact Bw^R^.inl ey
   | some A=>
    show if decide (d+l<A)=q_ then _ else _
    by_cases c:d+l<A
    .rw[decide_eq_true c]
     exact Bw^R^.inr #[A,ey,c]
    .rw[decide_eq_false c]
     refine Br^hD f i K g _ _ M B^.inl #[rfl,rfl,λd2 e=>?_];rw[show K x=P3 d2 from e]at ex;cases ex;exact#[A,ey,by show A<=d+l;lk]
 refine FW (λm Y ρ=>Y=n/\∃(f:s_ Key) (i:s_ D) (K:Kn) (g:Bool) (o q I v w:Slot),ρ=[.br H,.sh^.str s,.ow^.dic f i,.sh^.bl g,o,q,I,v,w]/\Dmap f i D.int K/\Bf N s f.length K/\((g=q_/\m=Tv N.ps K+1)\/(g=r_/\m=0/\∀t∈N.ts,JR K (t.a,t.b,t.len)/\JR K (t.b,t.a,t.len)))) _ #[rfl,_,_,_,q_,_,_,_,_,_,rfl,Dmap.one (enc:=D.int) (a:=(0:Int)),Bf.init hs,.inl #[rfl,rfl]] ?_ ?_
 .rintro m Y ρ N' ⟨rfl,f,i,K,g,o,q,I,v,w,rfl,M,B,F⟩ hN
  rcases F with⟨rfl,hm⟩|⟨rfl,_,ht⟩
  .have G:∀(j done:s_ Ax) (f:s_ Key) (i:s_ D) (k:Kn) (g:Bool) (o q I v w:Slot),done++j=us->Dmap f i D.int k->Bf N s f.length k->((g=q_/\Tv N.ps k<Tv N.ps K)\/(g=r_/\Tv N.ps k<=Tv N.ps K/\∀t∈done,JR k (t.a,t.b,t.len)/\JR k (t.b,t.a,t.len)))->
     A0 (CF 3^AX (AR 4)^AX (AR 5)^AX (AR 6) BZ) (C8 (BA^CM^AD (A_^AD (AC 4)^AD (AC 5) AQ)^AD (A_^AD (AC 5)^AD (AC 4) AQ) AQ) (CF 2^AX (AR 7)^AX (AR 8) BZ) WQ) {EF Pd with nx:=N',ct:=N',bk:=JN 2^EF Pd} (j.map Ad) Y [.br H,.sh^.str s,.ow^.dic f i,.sh^.bl g,o,q,I,v,w]:=by
    intro j
    induction j with
    |nil=>
     intro done f i k g o q I v w e M B F;rw[gK]at e;subst e
     rcases F with⟨rfl,T⟩|⟨rfl,_,ht⟩
     .exact hN (Tv N.ps k+1) _ _ (by lk) #[rfl,f,i,k,q_,_,_,_,_,_,rfl,M,B,.inl #[rfl,rfl]]
     .exact hN 0 _ _ (by lk) #[rfl,f,i,k,r_,_,_,_,_,_,rfl,M,B,.inr #[rfl,rfl,λt h=>ht t^(J t).mpr h]]
    | cons t j ih=>
     intro done f i k g o q I v w e M B F;have U:t∈N.ts:=(J t).mp (by rw[←e];exact gA _ Op);have e':(done++[t])++j=us:=by rw[gS];exact e
     have ed:=Fg U;exists rfl,rfl,z2,z2,z2;exists rfl,rfl;refine step _ t.a t.b t.len ed.1 f i k g _ _ v w M B λa1 a2 K1 g1 t7 t8 M1 B1 h1=>?_;exists rfl,rfl;refine step _ t.b t.a t.len ed.2 a1 a2 K1 g1 _ _ t7 t8 M1 B1 λa3 a4 K2 g2 u7 u8 M2 B2 h2=>?_;refine ih (done++[t]) a3 a4 K2 g2 _ _ _ _ _ e' M2 B2 ?_
     rcases h1 with⟨rfl,rfl,t1⟩|⟨rfl,b0⟩
     .rcases h2 with⟨rfl,rfl,t2⟩|⟨rfl,a5⟩
      .rcases F with z|⟨z1,z2,z3⟩
       .exact .inl z
       .refine .inr #[z1,z2,λu V=>?_]
        rcases eq.mp V with V|V
        .exact z3 u V
        .rw[Sc.mp V];exact#[t1,t2]
      .refine .inl #[rfl,?_]
       rcases F with⟨_,z⟩|⟨_,z,_⟩ <;>lk
     .have W:Tv N.ps K1<Tv N.ps K:=by rcases F with⟨_,z⟩|⟨_,z,_⟩ <;>lk
      rcases h2 with⟨rfl,rfl,t2⟩|⟨rfl,a5⟩
      .exact .inl #[rfl,W]
      .exact .inl #[rfl,by lk]
   exact#[H,_,rfl,a0,G us [] f i K r_ _ _ _ _ _ rfl M B (.inr #[rfl,Re _,λt h=>by cases h])]
  .exact#[_,rfl,p f i K M^B.told ok (by have:=M.le B.ins;lk) ht]
 .rintro Y ρ P Q a6 h
  unfold AW AC at h ⊢
  split at h
  .rename_i d hd
   cases d with
   |bl b=>exact a6 _ _ h
   |_=>exact h.elim
  .exact h.elim
def Jn(h:FP ss n Pd):FI (EF Pd) n (ss++ZB 1 .no):=by
 let#[d,B,rfl,e,v,p]:=h;have G:=PySem.sizeLine_eq;unfold FI
 have C:(B.map Ad).length<=10000000/\E4 (AR 0) Ek (A_^AD (AU A7 (AC 0)^wC^D.int 2)^AD (AU A7 (AC 0)^wC^D.int 0)^AD (AU A7 (AC 0)^wC^D.int 1) AQ) (λi w=>Cf [.lst i] λz=>BA (wC z) w [] λE H=>E.length<=10000000/\E4 (CF 3^AX (AR 0)^AX (AR 1)^AX (AR 2) BZ) Ek (A_^AD (AC 1)^AD (AC 2)^AD (AC 0) AQ) (λi w=>Pd (.lst i) w) E [] H [.no,.no,.no]) (B.map Ad) [] n [.no]:=by
  refine#[by rw[No];lk,?_];refine B0 OP (λq=>∃s,q=[s]) _ _ _ _ ?_ #[_,rfl] ?_
  .rintro d e q m I ⟨s,rfl⟩ k
   let#[t,J,rfl]:=Tk.mp e;exact#[_,AJ (j:=2) rfl,_,AJ (j:=0) rfl,_,AJ (j:=1) rfl,z3,k _ #[_,rfl]]
  rw[gu,jG];refine#[_,_,rfl,rfl,by rw[No];exact v,#[λx A=>?_,λx A y K L M N O=>?_],λP Q r=>?_]
  .let#[t,_,rfl]:=Tk.mp A
   exact#[Bj t,rfl,i9 _ _]
  .let#[t,_,rfl]:=Tk.mp A
   let#[u,_,rfl]:=Tk.mp K;cases(show P3^Bj t=P3 L from N);cases(show P3^Bj u=P3 M from O);rfl
  .let#[o,F,rfl]:=Q_ (f:=OP∘Ad) (g:=λd=>match d with|.tup [.int l,.str a,.str b]=>#[a,b,l]|_=>#["","",0]) (λ_=>rfl) Q
   have r:Cj o:=by
    unfold HL at r;rw[j5]at r;exact r.imp λ{s t} z=>z _ _ rfl rfl
   refine#[by show(o.map (OP∘Ad)).length<=10000000;rw[No,F.length_eq];lk,?_];refine B0 (λd=>match d with|.tup [l,a,b]=>.tup [a,b,l]|d=>d) (λq=>∃a b c,q=[a,b,c]) _ _ _ _ ?_ #[_,_,_,rfl] ?_
   .rintro d e q m I ⟨a,b,c,rfl⟩ k
    let#[t,J,rfl]:=Tk.mp e;exact#[rfl,rfl,z3,k _ #[_,_,_,rfl]]
   .rw[gu,jG]
    exact p o F r
 cases d with
 |lst R=>cases e;exact C
 |tup R=>cases e;exact C
 |_=>cases e
end
end Nt
namespace L2
end L2
namespace Dp
open L2
end Dp
namespace Nt
open L2 Dp
end Nt
set_option maxRecDepth 10000
namespace St
open PySem.SetTable
def st(t:ll)(p:Probe):Nat->Probe
 |0=>p
 |n+1=>t.advance^st t p n
structure Ok (t:ll) (p:Probe):Prop where
 more:p.more<=9
 i:p.i<=t.mask
 j:p.j+p.more<=t.mask
 per:p.perturb<2 ^ 64
def it(m:Nat)(i:Nat):Nat->Nat
 |0=>i
 |n+1=>(it m i n*5+1) % (m+1)
def f6(m:Nat):Prop:=∀a,a<=m->∀b,b<=m->∃n,n<=m/\it m a n=b
def Up(c:Array Nat):Prop:=∀i k:Nat,i<k->∀a b:Nat,c[i]?=P3 a->c[k]?=P3 b->a<b
def In(t:ll)(j:Nat):Prop:=∃i:Nat,t.place[i]?=P3 j
structure Tab (t:ll) (hs:Nat->Option Int):Prop where
 cov:f6 t.mask
 dum:t.dummies=#[]
 up:Up t.place
 le:∀i j:Nat,t.place[i]?=P3 j->j<=t.mask
 few:t.place.size<=t.mask
 has:∀i j:Nat,t.place[i]?=P3 j->∃x,hs i=P3 x/\∃k:Nat,(st t (t.probeStart x) k).j=j/\∀k':Nat,k'<k->In t (st t (t.probeStart x) k').j
structure Lay (t:ll) (done:List Int) (o:Array^Option Nat):Prop where
 size:o.size=t.mask+1
 own:∀j q:Nat,o[j]?=P3^P3 q->∃x,done[q]?=P3 x/\∃k:Nat,(st t (t.probeStart x) k).j=j/\∀k':Nat,k'<k->∃q':Nat,o[(st t (t.probeStart x) k').j]?=P3 (P3 q')
 all:∀q:Nat,q<done.length->∃j:Nat,o[j]?=P3 (P3 q)
 inj:∀j j' q:Nat,o[j]?=P3^P3 q->o[j']?=P3^P3 q->j=j'
end St
set_option maxRecDepth 10000
set_option maxHeartbeats 1000000
namespace St
open PySem.SetTable
section
variable {prog:Program}{w:World}{K:Type}[DecidableEq K](knd:KeyKind prog w K)
def Holds(h:gI)(e:Int×Ev)(k:s_ K):Prop:=e.1=tupleKeyHash knd k/\∃b,e.2=.ref b/\IsTupleKey knd h k b
inductive YS (h:gI):List (Int×Ev)->List^List K->Prop
 |nil:YS h [] []
 |cons {e:Int×Ev}{k:List K}{es:List (Int×Ev)}{ks:List^List K}:Holds knd h e k->YS h es ks->YS h (e::es) (k::ks)
variable {knd}
variable (knd)
structure fQ (B h:gI) (a:Db) (ks:List^List K) (o:Obj) (es:Array (Int×Ev)) (ep:Nat) (t:ll):Prop where
 sub:∀b o,B.get? b=P3 o->h.get? b=P3 o
 out:B.get? a=p_
 obj:h.get? a=P3 o
 ex:o.ExactSet
 dat:o.data=.set es ep t
 tab:Tab t (λi=>es[i]?.map (·.1))
 size:t.place.size=es.size
 mask:(t.mask=7/\es.size<=4)\/t.mask=31
 few:es.size<=18
 ents:∃kk,YS knd B es.toList kk/\List.Perm kk ks
 nd:ks.Nodup
 plain:es.size=0\/t.plain=r_
 led:t.led=!(w.params.followText "set-order")
variable {knd}
end
end St
set_option maxHeartbeats 4000000
namespace St
open PySem.SetTable
section
variable {w:World}
variable {o:Obj}{es:Array (Int×Value)}{ep:Nat}{t:SetTable}
structure Rw (w:gY) (o:Obj) (es:Array (Int×Ev)) (ep:Nat) (t:ll):Prop where
 ex:o.ExactSet
 dat:o.data=.set es ep t
 fit:t.fits es.size=q_
 up:Up t.place
 size:t.place.size=es.size
 few:es.size<=sizeLine
 led:w.params.followText "set-order"=r_->t.led=q_
end
end St
namespace L2
open PySem.W
structure e_ (keys:List^List Key) (js:List Nat):Prop where
 lt:∀j∈js,j<keys.length
 nd:(js.map λj=>keys.getD j []).Nodup
 all:∀x∈keys,x∈js.map λj=>keys.getD j []
 ord:∀i j,i<=j->j<js.length->A9 (keys.getD (js.getD j 0) [])^keys.getD (js.getD i 0) []=r_
end L2
namespace Dp
open L2
end Dp
namespace L2
open PySem.W
end L2
namespace Dp
open L2
end Dp
namespace L2
open PySem.W
end L2
namespace Dp
open L2
end Dp
namespace L2
end L2
namespace Dp
open L2
end Dp
namespace Nt
open L2 Dp
structure fO (N:Net) (s:Str) (F:N1) (c:Nat) (T:List Ax):Prop where
 ins:∀t∈T,t∈N.ts
 nd:T.Nodup
 many:T.length+1=c
 wk:∀x d q,F x=P3 (d,q)->Wk (sub N T) s x d
def EJ:Aa:=(Ae (BH (DM (Cp^AW^El "tuple"^AC 1)^DM (AW^AU Qb (CB C6^AD (AC 1) AQ)^wC^D.int 2)^DM (AW^AU Qb (AU A7 (AC 1)^wC^D.int 0)^AU A7 (AC 0)^wC^D.int 0)^Cp^AW^El "tuple"^AU A7 (AC 1)^wC^D.int 1) (Au^wC^D.bl r_) Av)
 (Ae (C8 (BA^AU A7 (AC 1)^wC^D.int 1) (AR 2)^BH (DM (Cp^AW^El "tuple"^AC 2)^DM (AW^AU Qb (CB C6^AD (AC 2) AQ)^wC^D.int 3)^DM (Cp^AW^AZ Hy^AE (AL^AU A7 (AC 2)^wC^D.int 2) AY)^AW^AU (NI q_) (AC 2)^AU A7 (AC 0)^wC^D.int 1) (Au^wC^D.bl r_) Av)
 (Au^CB LQ^AD (CQ [P3 1,p_] (IA^AD (AU E9 (CB C6^AD (AU A7 (AC 1)^wC^D.int 1) AQ)^wC^D.int 1) AQ) (AR 1) Ek^AU EU (AU A7 (AU A7 (AC 0)^wC^D.int 1)^AC 1)^AU A7 (AU A7 (AC 0)^wC^D.int 1)^AU A2 (AC 1)^wC^D.int 1) AQ)))
inductive Cn (K:List Ax) (x:Str):Str->Prop
 |refl:Cn K x x
 |step {y z:Str}:Cn K x y->(∃t∈K,(t.a=y/\t.b=z)\/(t.b=y/\t.a=z))->Cn K x z
def Cn.trans{K:s_ Ax}{x y z:Str}(h:Cn K x y)(g:Cn K y z):Cn K x z:=by
 induction g with
 |refl=>exact h
 |step _ e a=>exact .step a e
def Cn.tie{K:s_ Ax}{t:Ax}(h:t∈K):Cn K t.a t.b/\Cn K t.b t.a:=#[.step .refl #[t,h,.inl #[rfl,rfl]],.step .refl #[t,h,.inr #[rfl,rfl]]]
def Cn.symm{K:s_ Ax}{x y:Str}(h:Cn K x y):Cn K y x:=by
 induction h with
 |refl=>exact .refl
 |step _ e a=>
  let#[t,b,e]:=e;refine Cn.trans (.step .refl #[t,b,?_]) a;exact e.elim (λe=>.inr #[e.2,e.1]) λe=>.inl #[e.2,e.1]
def Cn.bridge{K c:s_ Ax}(d:∀t∈K,Cn c t.a t.b){x y:Str}(h:Cn K x y):Cn c x y:=by
 induction h with
 |refl=>exact .refl
 |step _ e f=>
  obtain⟨t,g,⟨rfl,rfl⟩|⟨rfl,rfl⟩⟩:=e
  .exact f.trans^d t g
  .exact f.trans (d t g).symm
def Cn.mono{K a:s_ Ax}(b:∀t∈K,t∈a){x y:Str}(h:Cn K x y):Cn a x y:=h.bridge λt c=>(Cn.tie^b t c).1
def Cn.add{B K:s_ Ax}{t:Ax}(i:∀s∈K,s∈B\/s=t){x y:Str}(h:Cn K x y):Cn B x y\/(Cn B x t.a/\Cn B t.b y)\/(Cn B x t.b/\Cn B t.a y):=by
 induction h with
 |refl=>exact .inl .refl
 | step _ e f=>
  let#[s,j,e]:=e
  rcases i s j with k|rfl
  .have g:∀{w y z:Str},((s.a=y/\s.b=z)\/(s.b=y/\s.a=z))->Cn B w y->Cn B w z:=λe h=>.step h #[s,k,e]
   rcases f with h|⟨c,d⟩|⟨c,d⟩
   .exact .inl^g e h
   .exact .inr^.inl #[c,g e d]
   .exact .inr^.inr #[c,g e d]
  .rcases e with⟨rfl,rfl⟩|⟨rfl,rfl⟩
   .rcases f with h|⟨c,d⟩|⟨c,d⟩
    .exact .inr^.inl #[h,.refl]
    .exact .inr^.inl #[c,.refl]
    .exact .inl c
   .rcases f with h|⟨c,d⟩|⟨c,d⟩
    .exact .inr^.inr #[h,.refl]
    .exact .inl c
    .exact .inr^.inr #[c,.refl]
def Wk.cn{N:Net}(ok:N.Ok){s x:Str}{d:Int}(h:Wk N s x d):Cn N.ts s x:=by
 induction h with
 |nil=>exact .refl
 |snoc _ a b=>
  let#[t,c,_,e]:=a.tie ok;exact .step b #[t,c,e]
def Cn.wk{N:Net}{s x:Str}(h:Cn N.ts s x):∃d,Wk N s x d:=by
 induction h with
 |refl=>exact#[0,.nil]
 |step _ e c=>
  let#[d,a]:=c;obtain⟨t,b,⟨rfl,rfl⟩|⟨rfl,rfl⟩⟩:=e
  .exact#[_,.snoc a (Fg b).1]
  .exact#[_,.snoc a (Fg b).2]
def Vv{N:Net}(ok:N.Ok){a b:Str}{o:t_ Int}(h:dX N a b o):o=p_↔¬Cn N.ts a b:=by
 cases o with
 |none=>exact#[λ_ z=>by let#[d,c]:=z.wk;exact h d c,λ_=>rfl]
 |some d=>exact#[(λz=>by cases z),λz=>absurd (Wk.cn ok (show Wk N a b d from h.1)) z]
noncomputable def dQ(K:s_ Ax)(x y:Str):Bool:=@decide (Cn K x y)^jn _
def cnB_iff{K:s_ Ax}{x y:Str}:dQ K x y=q_↔Cn K x y:=by
 unfold dQ;exact @decide_eq_true_iff _^jn _
noncomputable def BM:s_ Ax->s_ Ax->s_ Ax
 |c,[]=>c
 |c,u::r=>if dQ c u.a u.b=q_ then BM c r else BM (c++[u]) r
def Bh{kept r:s_ Ax}{u:Ax}:BM kept (u::r)=if dQ kept u.a u.b=q_ then BM kept r else BM (kept++[u]) r:=rfl
theorem Kc{a b:Str}:∀(R B:s_ Ax),¬Cn B a b->Cn (B++R) a b->∃d t R2,R=d++t::R2/\¬Cn (B++d) a b/\Cn (B++d++[t]) a b
 |[],B,g,f=>by rw[gK]at f;exact absurd f g
 | t::R,B,g,f=>by
  by_cases c:Cn (B++[t]) a b
  .exact#[[],t,R,rfl,by rw[gK];exact g,by rw[gK];exact c]
  .let#[d,s,R2,e,h,i]:=Kc R (B++[t]) c^by rw[gS];exact f
   exists t::d,s,R2,by rw[e];rfl,?_
   .rw[gS]at h;exact h
   .rw[gS B [t] d]at i;exact i
theorem E8:∀{rest a:s_ Ax},(∀u∈BM a rest,u∈a\/u∈rest)
 |[],a,u,b=>.inl b
 | v::rest,a,u,b=>by
  rw[Bh]at b
  split at b
  .exact(E8 u b).imp id λh=>TM _ h
  .rcases E8 u b with h|h
   .rcases eq.mp h with h|h
    .exact .inl h
    .rw[Sc.mp h];exact .inr Op
   .exact .inr^TM _ h
theorem ES:∀{b a:s_ Ax},(a++b).Nodup->(BM a b).Nodup
 |[],a,h=>by rw[gK]at h;exact h
 | v::b,a,h=>by
  rw[Bh]
  split
  .refine ES^h.sublist ?_
   exact(mT a).append^List.sublist_cons_self _ _
  .refine ES ?_
   rw[gS];exact h
def Kz:W2:=λb n P=>∃N:Net,b=[.sh^enc N]/\okN N/\∀a:s_ Ax,a.Perm N.ts->Cj a->P (enc^sub N^BM [] a) n
def Q4:W2:=λe n P=>∃N:Net,e=[.fd,.sh^enc N]/\okN N/\N.ts.length<=n/\∀(c:s_ Ax) (d:Nat),(∀t∈c,t∈N.ts)->c.Pairwise Bx->(∀u∈N.ts,Cn c u.a u.b)->n - N.ts.length<=d->P (enc #[N.ps,c]) d
def FH:Aa:=(Ae (CP 1^CM AQ)
 (Ae (C8 (BA^AZ FP^AE (AL^AU A7 (AC 0)^wC^D.int 1) AY) (AR 2)^BH (AW^AU (GI r_) (AZ YM^AE (AL^AZ GU^AE (AL^AC 0)^AE (Bu^Ap 1) AY)^AE (AL^AU A7 (AC 2)^wC^D.int 0)^AE (AL^AU A7 (AC 2)^wC^D.int 1) AY)^wC D.non) (Ij 1 "list" Dy^AD (AC 2) AQ) Av)
 (Au^AZ GU^AE (AL^AC 0)^AE (Bu^Ap 1) AY)))
def DB:Aa:=(Ae (CP 1 Pn)
 (Ae (C8 (BA^AU A7 (AC 0)^wC^D.int 0) (AR 2)^DN 1 (AC 2)^AC 2)
 (Ae (CP 3^CM AQ)
 (Ae (C8 (BA^AZ FP^AE (AL^AU A7 (AC 0)^wC^D.int 1) AY) (AR 4) (Ae (BI 5^AU BR (Ap 1)^AU A7 (AC 4)^wC^D.int 0)
 (Ae (BI 6^AU BR (Ap 1)^AU A7 (AC 4)^wC^D.int 1)
 (BH (AW^AU (Ej q_) (AC 5)^AC 6) (Ae (Ij 3 "list" Dy^AD (AC 4) AQ)
 (C8 (BA^AU A7 (AC 0)^wC^D.int 0) (AR 2)^BH (AW^AU (Ej r_) (AU BR (Ap 1)^AC 2)^AC 6) (DN 1 (AC 2)^AC 5) Av)) Av))))
 (Au^A_^AD (AU A7 (AC 0)^wC^D.int 0)^AD (CB BL^AD (CB Cf^AD (Ap 3) AQ) AQ) AQ)))))
def Dr:Aa:=(Ae (CP 2^CB Ho^AD (AU A7 (AC 1)^wC^D.int 1) AQ)
 (Ae (CP 3^CM AQ)
 (Ae (GA (AW^AU Qb (Ap 2)^CM AQ) (Ae (Wu 2 (AZ Bt^AE (BE 0)^AE (AL^CB C6^AD (Ap 2) AQ) AY)^AR 4)
 (BH (AW^AU (GJ q_) (AU A7 (AC 4)^wC^D.int 1)^AZ HJ^AE (Bu^Ap 3)^AE (AL^AU A7 (AC 4)^wC^D.int 0) AY) (Ij 3 "list" Dy^AD (AC 4) AQ) Av)))
 (Au^A_^AD (AU A7 (AC 1)^wC^D.int 0)^AD (CB BL^AD (CB Cf^AD (Ap 3) AQ) AQ) AQ))))
def sub_cn{N:Net}{kept:s_ Ax}(b:∀t∈kept,t∈N.ts){x y:Str}:Cn (sub N kept).ts x y↔Cn kept x y:=
 #[λh=>h.mono λt a=>(sub_mem.mp a).2,λh=>h.mono λt a=>sub_mem.mpr #[b t a,a]]
section
variable {ss:s_ Slot}{n:Nat}{Pd:D->Nat->Prop}
def Il(h:Kz ss n Pd):FH (EE Pd) n (ss++ZB 2 .no):=by
 let#[N,rfl,l,p]:=h;have ok:=l.1;have L:=l.2.2;have M:=PySem.sizeLine_eq;unfold FH;refine#[z0,_,AJ (j:=1) rfl,_,N.ts,rfl,rfl,by lk,λk t O=>?_];have w:k.Nodup:=t.nodup_iff.mpr^BC ok.trise
 have P:∀(g done f:s_ Ax) (A:Slot),done++g=k->(∀u∈f,u∈done)->f.Nodup->BM f g=BM [] k->
   A0 (AR 2) (BH (AW^AU (GI r_) (AZ YM^AE (AL^AZ GU^AE (AL^AC 0)^AE (Bu^Ap 1) AY)^AE (AL^AU A7 (AC 2)^wC^D.int 0)^AE (AL^AU A7 (AC 2)^wC^D.int 1) AY)^wC D.non) (Ij 1 "list" Dy^AD (AC 2) AQ) Av) {EE Pd with nx:=Au (AZ GU^AE (AL^AC 0)^AE (Bu^Ap 1) AY)^EE Pd} (g.map Ad) n [.sh^enc N,.ow^.lst^f.map Ad,A]:=by
  intro g
  induction g with
  |nil=>
   intro done f A e s q r;rw[gK]at e;subst e;have i:∀u∈f,u∈N.ts:=λu B=>t.mem_iff.mp^s u B;have C:=sub_len q (BC ok.trise) i;refine#[N,_,f,rfl,rfl,by lk,λE F G=>?_];rw[Ma ok i q F G,show f=BM [] done from r];exact p done t O
  | cons u g J=>
   intro done f A e s q r;have i:∀v∈f,v∈N.ts:=λv m=>t.mem_iff.mp (by rw[←e];exact gQ _^s v m);have C:=sub_len q (BC ok.trise) i;have B:u∈N.ts:=t.mem_iff.mp^by rw[←e];exact gA _ Op
   have H:u∉done:=by
    rw[←e,gm]at w;exact λz=>w.2.2 u z u Op rfl
   have K:(done++[u])++g=k:=by rw[gS];exact e
   let#[R,S,_]:=ok.tin u B;refine#[N,_,f,rfl,rfl,by lk,λE F G=>?_];rw[Ma ok i q F G];refine#[_,AJ (j:=0) rfl,_,AJ (j:=1) rfl,sub N f,u.a,u.b,rfl,Iz l f,R,S,λo T=>#[rfl,?_]];have I:=Vv (Iz l f).1 T;rw[sub_cn i]at I;rw[Bh]at r;cases o with
   |some d=>
    have c:Cn f u.a u.b:=jb λz=>by cases I.mpr z
    rw[if_pos^cnB_iff.mpr c]at r;exact J (done++[u]) f _ K (λv m=>gQ _^s v m) q r
   | none=>
    rw[if_neg λz=>(I.mp rfl)^cnB_iff.mp z]at r;exists _,rfl,rfl,_,_,rfl,rfl,by rw[No];lk
    have:=J (done++[u]) (f++[u]) (.sh^Ad u) K (λv m=>by
     rcases eq.mp m with m|m
     .exact gQ _^s v m
     .exact gA _ m) (by
     rw[gm];exact#[q,gX.mpr #[gJ,gl],λx U y V z=>H^by rw[←Sc.mp V,←z];exact s x U]) r
    rw[gU]at this;exact this
 exact P k [] [] _ rfl (λu h=>by cases h) gl rfl
structure Pcs (N:Net) (ks:List Key) (ds:List D) (F:Str->Option Str):Prop where
 m:Dmap ks ds D.str F
 i:∀x,F x≠p_->x∈N.ps
def Pcs.put{N:Net}{b:s_ Key}{c:s_ D}{F:Str->t_ Str}(h:Pcs N b c F){x:Str}(hx:x∈N.ps)(a:Str):Pcs N (C3 b^.inr x) (C_ b c (.inr x)^.str a)^Gb F x a:=#[h.m.put x a,λy d=>by
 by_cases e:y=x
 .rw[e];exact hx
 .rw[BS e]at d;exact h.i y d]
def Pcs.len{N:Net}(a:okN N){b:s_ Key}{c:s_ D}{F:Str->t_ Str}(h:Pcs N b c F):b.length<sizeLine:=by
 have:=h.m.le h.i
 have:=a.2.1
 rw[PySem.sizeLine_eq];lk
def Q8{i n:Nat}{a:s_ Slot}{d:D}{P:D->Nat->Prop}(h:a[i]?=P3^.sh d)(p:P d n):AC i n a P:=by
 unfold AC;rw[h];exact p
theorem HZ{N:Net}(f:okN N){l:E2}{m:Slot}{r:s_ Slot}:∀(a done:s_ Str) (b:s_ Key) (c:s_ D) (F:Str->t_ Str) (d:Slot),done++a=N.ps->Pcs N b c F->(∀x∈done,F x=P3 x)->
  (∀b c F d,Pcs N b c F->(∀x∈N.ps,F x=P3 x)->l.nx n (m::.ow^.dic b c::d::r))->A0 (AR 2) (DN 1 (AC 2)^AC 2) l (a.map .str) n (m::.ow^.dic b c::d::r)
 |[],done,b,c,F,d,e,h,i,j=>by
  rw[gK]at e;subst e;exact j b c F d h i
 | x::a,done,b,c,F,d,e,h,i,j=>by
  have o:x∈N.ps:=by rw[←e];exact gA _ Op
  exists b,c,rfl,_,Aw x,h.len f;refine HZ f a (done++[x]) _ _ _ _ (by rw[gS];exact e) (h.put o x) (λy g=>?_) j
  by_cases k:y=x
  .rw[k,Bg]
  .rw[BS k]
   rcases eq.mp g with g|g
   .exact i y g
   .exact absurd (Sc.mp g) k
def IB(F:Str->t_ Str)(a b:Str)(x:Str):t_ Str:=if F x=P3 b then P3 a else F x
theorem EO{N:Net}(l:okN N){C:E2}{E:Slot}{r:s_ Slot}{i j:Nat}{a b:Str}(v:r[i]?=P3^.sh^.str a)(w:r[j]?=P3^.sh^.str b){F:Str->t_ Str}:∀(d done:s_ Str) (g:s_ Key) (k:s_ D) (G:Str->t_ Str) (o:Slot),done++d=N.ps->Pcs N g k G->(∀x∈N.ps,F x≠p_)->(∀x∈done,G x=IB F a b x)->(∀x∈d,G x=F x)->
  (∀g k G o,Pcs N g k G->(∀x∈N.ps,G x=IB F a b x)->C.nx n (E::.ow^.dic g k::o::r))->
  A0 (AR 2) (BH (AW^AU (Ej r_) (AU BR (Ap 1)^AC 2)^AC (j+3)) (DN 1 (AC 2)^AC (i+3)) Av) C (d.map .str) n (E::.ow^.dic g k::o::r)
 |[],done,g,k,G,o,e,h,q,s,_,t=>by
  rw[gK]at e;subst e;exact t g k G o h s
 | x::d,done,g,k,G,o,e,h,q,s,u,t=>by
  have H:x∈N.ps:=by rw[←e];exact gA _ Op
  have A:(done++x::d).Nodup:=by rw[e];exact l.1.rise.imp λ{a b} h z=>by rw[z]at h;exact WL _ h
  have B:x∉d:=by
   rw[gm,gX]at A;exact A.2.1.1
  have K:x∉done:=λz=>(gm.mp A).2.2 x z x Op rfl;have I:(done++[x])++d=N.ps:=by rw[gS];exact e
  cases ex:G x with
  |none=>exact absurd ((u x Op).symm.trans ex)^q x H
  | some y=>
   have J:F x=P3 y:=(u x Op).symm.trans ex;refine#[g,k,_,.str y,rfl,Aw x,by rw[h.m.at_,ex];rfl,Q8 w ?_];show if(y==b)=q_ then _ else _
   by_cases c:y=b
   .rw[c,beq_self_eq_true]
    refine Bw #[g,k,rfl,Q8 v #[_,Aw x,h.len l,?_]];refine EO l v w d (done++[x]) _ _ _ _ I (h.put H a) q (λz f=>?_) (λz f=>?_) t
    .by_cases p:z=x
     .rw[p,Bg];unfold IB;rw[J,c,if_pos rfl]
     .rw[BS p]
      rcases eq.mp f with f|f
      .exact s z f
      .exact absurd (Sc.mp f) p
    .rw[BS λp=>B^by rw[←p];exact f]
     exact u z^TM _ f
   .rw[beq_eq_false_iff_ne.mpr c]
    refine Br^EO l v w d (done++[x]) g k G _ I h q (λz f=>?_) (λz f=>u z^TM _ f) t
    rcases eq.mp f with f|f
    .exact s z f
    .rw[Sc.mp f]
     unfold IB;rw[J,if_neg λz=>c^gH z];exact ex
def RA{N:Net}{kept:s_ Ax}{u:Ax}{F G:Str->t_ Str}{x y:Str}(I:u.a∈N.ps)(J:u.b∈N.ps)(L:F u.a=P3 x)(eb:F u.b=P3 y)(c:¬x=y)(i:∀x∈N.ps,∀y∈N.ps,F x=F y↔Cn kept x y)(M:∀z∈N.ps,G z=IB F x y z):∀v∈N.ps,∀w∈N.ps,G v=G w↔Cn (kept++[u]) v w:=λv f w g=>by
 have d:∀{p q:Str},Cn kept p q->Cn (kept++[u]) p q:=λh=>h.mono λs j=>gQ _ j;have o:=Cn.tie (K:=kept++[u]) (gA _ Op:u∈kept++[u]);have r:∀z∈N.ps,F z=P3 x->Cn kept z u.a:=λz k e=>(i z k _ I).mp (by rw[e,L]);have A:∀z∈N.ps,F z=P3 y->Cn kept z u.b:=λz k e=>(i z k _ J).mp (by rw[e,eb]);rw[M v f,M w g];unfold IB;constructor
 .intro l
  by_cases C:F v=P3 y
  .by_cases m:F w=P3 y
   .exact d^(i v f w g).mp^by rw[C,m]
   .rw[if_pos C,if_neg m]at l
    exact((d^A v f C).trans o.2).trans^d (r w g l.symm).symm
  .by_cases m:F w=P3 y
   .rw[if_neg C,if_pos m]at l
    exact((d^r v f l).trans o.1).trans^d (A w g m).symm
   .rw[if_neg C,if_neg m]at l
    exact d^(i v f w g).mp l
 .intro Q
  have O:∀z∈N.ps,Cn kept z u.a->F z=P3 x:=λz k h=>by rw[(i z k _ I).mpr h,L]
  have P:∀z∈N.ps,Cn kept z u.b->F z=P3 y:=λz k h=>by rw[(i z k _ J).mpr h,eb]
  have D:P3 x≠P3 y:=λz=>c^gH z
  rcases Cn.add (B:=kept) (t:=u) (λs j=>by
   rcases eq.mp j with j|j
   .exact .inl j
   .exact .inr^Sc.mp j) Q with h|⟨E,H⟩|⟨E,H⟩
  .rw[(i v f w g).mpr h]
  .rw[O v f E,P w g H.symm,if_neg D,if_pos rfl]
  .rw[P v f E,O w g H.symm,if_pos rfl,if_neg D]
def Jp(h:Kz ss n Pd):DB (EE Pd) n (ss++ZB 6 .no):=by
 let#[N,rfl,r,p]:=h;have ok:=r.1;have a4:=r.2.2;have a5:=PySem.sizeLine_eq;unfold DB;exists _,AJ (j:=0) rfl;refine HZ r N.ps [] [] [] (λ_=>p_) _ rfl #[#[rfl,λx=>rfl,λk hk=>(by cases hk),gl],λx g=>absurd rfl g] (λx g=>by cases g) λl o F M B q=>?_;refine#[z0,_,AJ (j:=1) rfl,_,N.ts,rfl,rfl,by lk,λi I o2=>?_];have J:i.Nodup:=I.nodup_iff.mpr^BC ok.trise
 have go:∀(f done d:s_ Ax) (l:s_ Key) (o:s_ D) (F:Str->t_ Str) (M R S T:Slot),done++f=i->(∀u∈d,u∈done)->d.Nodup->Pcs N l o F->(∀x∈N.ps,F x≠p_)->(∀x∈N.ps,∀y∈N.ps,F x=F y↔Cn d x y)->BM d f=BM [] i->
   A0 (AR 4) (Ae (BI 5^AU BR (Ap 1)^AU A7 (AC 4)^wC^D.int 0)
 (Ae (BI 6^AU BR (Ap 1)^AU A7 (AC 4)^wC^D.int 1)
 (BH (AW^AU (Ej q_) (AC 5)^AC 6) (Ae (Ij 3 "list" Dy^AD (AC 4) AQ)
 (C8 (BA^AU A7 (AC 0)^wC^D.int 0) (AR 2)^BH (AW^AU (Ej r_) (AU BR (Ap 1)^AC 2)^AC 6) (DN 1 (AC 2)^AC 5) Av)) Av))) {EE Pd with nx:=Au (A_^AD (AU A7 (AC 0)^wC^D.int 0)^AD (CB BL^AD (CB Cf^AD (Ap 3) AQ) AQ) AQ)^EE Pd} (f.map Ad) n [.sh^enc N,.ow^.dic l o,M,.ow^.lst^d.map Ad,R,S,T]:=by
  intro f
  induction f with
  |nil=>
   intro done d l o F M R S T e E H B q _ C;rw[gK]at e;subst e;have s:∀u∈d,u∈N.ts:=λu W=>I.mem_iff.mp^E u W;have X:=sub_len H (BC ok.trise) s;exists _,AJ (j:=0) rfl;show Cf [D.lst^d.map Ad] λz=>BL [z] λy=>2<=sizeLine/\Pd (.tup [.tup^N.ps.map .str,y]) n;refine EM (ts:=d) rfl (by lk) λa6 p1 p2=>#[z2,?_];have es:=Ma ok s H p1 p2
   have:Pd (enc^sub N d) n:=by rw[show d=BM [] done from C];exact p done I o2
   rw[←es]at this;exact this
  | cons u f ih=>
   intro done d l o F M R S T e E H B q O C;have W:u∈N.ts:=I.mem_iff.mp (by rw[←e];exact gA _ Op);have s:∀v∈d,v∈N.ts:=λv A=>I.mem_iff.mp (by rw[←e];exact gQ _^E v A);have X:=sub_len H (BC ok.trise) s;have e':(done++[u])++f=i:=by rw[gS];exact e
   have Y:u∉done:=by
    rw[←e,gm]at J;exact λz=>J.2.2 u z u Op rfl
   let#[P,Q,_]:=ok.tin u W;rw[Bh]at C;cases K:F u.a with
   |none=>exact absurd K^q _ P
   | some x=>
    cases L:F u.b with
    |none=>exact absurd L^q _ Q
    | some y=>
     refine#[_,AJ (j:=0) rfl,l,o,_,.str x,rfl,Aw u.a,by rw[B.m.at_,K];rfl,?_];refine#[_,AJ (j:=1) rfl,l,o,_,.str y,rfl,Aw u.b,by rw[B.m.at_,L];rfl,?_];show if(!(x==y))=q_ then _ else _
     by_cases c:x=y
     .rw[c,beq_self_eq_true]
      have Z:Cn d u.a u.b:=(O _ P _ Q).mp (by rw[K,L,c]);rw[if_pos^cnB_iff.mpr Z]at C;exact Br^ih (done++[u]) d l o F _ _ _ _ e' (λv A=>gQ _^E v A) H B q O C
     .have Z:¬Cn d u.a u.b:=λz=>c^gH^by rw[←K,←L];exact(O _ P _ Q).mpr z
      rw[if_neg λz=>Z^cnB_iff.mp z]at C;rw[beq_eq_false_iff_ne.mpr c];refine Bw #[_,rfl,rfl,_,_,rfl,rfl,by rw[No];lk,?_];exists _,AJ (j:=0) rfl;refine EO r (F:=F) rfl rfl N.ps [] l o F _ rfl B q (λx g=>by cases g) (λx _=>rfl) λa0 a1 G a2 hG tG=>?_
      have tt:∀w∈N.ps,G w≠p_:=λw hw=>by
       rw[tG w hw];unfold IB
       split
       .exact λz=>by cases z
       .exact q w hw
      have a3:=RA P Q K L c O tG
      have:=ih (done++[u]) (d++[u]) a0 a1 G a2 (.sh^Ad u) (.sh^.str x) (.sh^.str y) e' (λv A=>by
       rcases eq.mp A with A|A
       .exact gQ _^E v A
       .exact gA _ A) (by
       rw[gm];exact#[H,gX.mpr #[gJ,gl],λx g y hy z=>Y^by rw[←Sc.mp hy,←z];exact E x g]) hG tt a3 C
      rw[gU]at this;exact this
 refine go i [] [] l o F _ _ _ _ rfl (λu h=>by cases h) gl B (λx g=>by rw[q x g];exact λz=>by cases z) (λx g y hy=>?_) rfl;rw[q x g,q y hy];constructor
 .intro h
  rw[gH h];exact .refl
 .intro h
  cases h with
  |refl=>rfl
  |step _ e=>let#[t,ht,_]:=e;cases ht
def Gp(h:Q4 ss n Pd):Dr (EE Pd) n (ss++ZB 3 .no):=by
 let#[N,rfl,o,hn,p]:=h;have ok:=o.1;have a2:=o.2.2;have a3:=PySem.sizeLine_eq;unfold Dr;exists _,AJ (j:=1) rfl,z0;refine FW (λm R V=>∃(L K:s_ Ax) (s4:Slot),m=L.length/\V=[.fd,.sh^enc N,.ow^.lst^L.map Ad,.ow^.lst^K.map Ad,s4]/\(∀t∈L,t∈N.ts)/\L.Nodup/\(∀t∈K,t∈N.ts/\t∉L)/\K.Nodup/\(∀u∈N.ts,u∈L\/Cn K u.a u.b)/\L.length<=N.ts.length/\n - (N.ts.length - L.length)<=R) N.ts.length #[N.ts,[],_,rfl,rfl,λt h=>h,BC ok.trise,(λt h=>by cases h),gl,λu h=>.inl h,Re _,by lk] ?_ ?_
 .rintro m R V N' ⟨L,K,s4,rfl,rfl,S,W,U,q,X,a4,Y⟩ hN
  exists z0,(E7 ok S).2,Cd (B:=0) (by cbv) trivial (by cbv);show if(!(E_ (.lst^L.map Ad)^.lst []))=q_ then _ else _
  rw[V1];have i:∀t∈K,t∈N.ts:=λt h=>(U t h).1;have a5:=sub_len q (BC ok.trise) i
  by_cases G:L=[]
  .subst G
   refine Br #[_,AJ (j:=0) rfl,?_];show Cf [D.lst^K.map Ad] λz=>BL [z] λy=>2<=sizeLine/\Pd (.tup [.tup^N.ps.map .str,y]) R;refine EM (ts:=K) rfl (by lk) λI Z p2=>#[z2,?_];have l:∀u∈I,u∈N.ts:=λu H=>i u^Z.mem_iff.mp H;refine p I R l ?_ (λu H=>?_)^by simpa using Y
   .refine(p2.and^q.perm Z.symm).imp_of_mem λ{s t} J ht #[a,b]=>?_
    refine Rz ok (l s J) (l t ht) ?_;rw[←Bool.not_eq_false];exact λz=>b^N_^Bv _ _ z a
   .rcases X u H with h|h
    .cases h
    .exact h.mono λs J=>Z.mem_iff.mpr J
  .have a1:1<=L.length:=by
    cases L with
    |nil=>exact absurd rfl G
    |cons _ _=>rw[gB];lk
   have a6:(L.map Ad).length=L.length:=No ..;rw[show(L.map Ad).isEmpty=r_ by cases L with|nil=>exact absurd rfl G|cons _ _=>rfl];refine Bw #[_,rfl,_,_,rfl,rfl,_,rfl,by lk,by lk,by lk,λr r0 r1=>?_];obtain⟨k,rfl⟩:∃k:Nat,r=(k:Int):=#[r.toNat,by lk];have e1:L[k]?=P3 L[k]:=On (by lk);refine#[k,Ad L[k],rfl,by rw[gM,e1];rfl,by lk,?_];have f:=GK e1;generalize L[k]=u at e1 f;have O:u∈L:=f.mem_iff.mp Op;have H:=S u O;have g:∀t∈L.eraseIdx k,t∈L:=λt ht=>f.mem_iff.mp^TM _ ht;have A:=f.nodup_iff.mpr W;rw[gX]at A;have a7:(L.eraseIdx k).length+1=L.length:=by have:=f.length_eq;rw[gB]at this;lk
   let#[m1,m2,_]:=ok.tin u H;refine#[_,AJ (j:=1) rfl,_,AJ (j:=0) rfl,sub N K,u.a,_,K,rfl,rfl,λv=>#[λE=>sub_mem.mpr #[i v E,E],λE=>(sub_mem.mp E).2],Iz o K,m1,λks ds F M T=>?_];exists ks,ds,_,rfl,Aw u.b;show if(!(Bo ks ds^.inr u.b).isSome)=q_ then _ else _
   rw[M.at_,Fe];have fc:=Vv (Iz o K).1 (T.far u.b);rw[sub_cn i]at fc;cases ef:F u.b with
   | some d=>
    rw[ef]at fc;have c:Cn K u.a u.b:=jb λz=>by cases fc.mpr z
    refine Br^hN (L.eraseIdx k).length _ _ (by lk) #[L.eraseIdx k,K,_,rfl,rfl,λt h=>S t^g t h,A.2,λt h=>#[i t h,λz=>(U t h).2 (g t z)],q,λv E=>?_,by lk,by lk]
    rcases X v E with h|h
    .rcases T0.mp^f.mem_iff.mpr h with e|h
     .rw[e];exact .inr c
     .exact .inl h
    .exact .inr h
   | none=>
    refine Bw #[_,rfl,rfl,_,_,rfl,rfl,by rw[No];lk,?_];have a0:u∉K:=λz=>(U u z).2 O;refine hN (L.eraseIdx k).length _ _ (by lk) #[L.eraseIdx k,K++[u],_,rfl,by rw[gU];rfl,λt h=>S t^g t h,A.2,λt h=>?_,?_,λv E=>?_,by lk,by lk]
    .rcases eq.mp h with h|h
     .exact#[i t h,λz=>(U t h).2 (g t z)]
     .rw[Sc.mp h];exact#[H,A.1]
    .rw[gm]
     exact#[q,gX.mpr #[gJ,gl],λx hx y hy z=>a0^by rw[←Sc.mp hy,←z];exact hx]
    .rcases X v E with h|h
     .rcases T0.mp^f.mem_iff.mpr h with e|h
      .rw[e];exact .inr (Cn.tie^gA _ Op).1
      .exact .inl h
     .exact .inr^h.mono λs J=>gQ _ J
 .intro m V P Q C w
  revert w;unfold AW AU Ap
  split
  .exact λw=>#[w.1,w.2.1,w.2.2.1,C _ _ w.2.2.2]
  .exact λw=>#[w.1,w.2.1,w.2.2.1,C _ _ w.2.2.2]
  .exact λw=>#[w.1,w.2.1,w.2.2.1,C _ _ w.2.2.2]
  .exact λw=>#[w.1,w.2.1,w.2.2.1,C _ _ w.2.2.2]
  .exact id
end
def OC{N:Net}(ok:N.Ok){K:s_ Ax}(a:∀t∈K,t∈N.ts)(nd:K.Nodup):(sub N K).ts.Perm K:=by
 refine(kO ((BC ok.trise).filter _) nd).mpr λt=>?_;rw[ia,decide_eq_true_eq];exact#[λh=>h.2,λh=>#[a t h,h]]
end Nt
namespace L2
end L2
namespace Dp
open L2
end Dp
namespace L2
open AutoSeq1 (wpAny_loadPart')
def Sz:typeLookup (.type "tuple") "__reversed__"=pure p_:=by rw[jH,iR];kernel_rfl
def item_tup:typeLookup (.type "tuple") "__getitem__"=pure^P3^.builtin "tuple.__getitem__":=by rw[jH,iR];kernel_rfl
def N9:isSubtype (.type "tuple")^.type "dict"=pure r_:=by rw[j_];kernel_rfl
def K_:Slot "reversed" "__init__" "object.__init__":=
 .of (owner:="object") (n:="__init__") (by rw[jH,iR];kernel_rfl) (by decide +kernel) (by decide +kernel) (by decide +kernel)
  (by first|exact .inl (by decide +kernel)|exact .inr^by decide +kernel) (by rw[j_];kernel_rfl)
def called_reversed:TypeCalled "reversed" "reversed.__new__" "object.__init__":=
 #[by decide +kernel,F.create_reversed,#[_,_,F.mro_reversed],F.made_reversed,lS,F.sub_reversed_self,K_]
def slot_rev_next:Slot "reversed" "__next__" "reversed.__next__":=
 .of (owner:="reversed") (n:="__next__") (by rw[jH,iR];kernel_rfl) (by decide +kernel) (by decide +kernel) (by decide +kernel)
  (by first|exact .inl (by decide +kernel)|exact .inr^by decide +kernel) (by rw[j_];kernel_rfl)
def FA:entryFor table "reversed.__next__"=P3 ir.«reversed.__next__»:=entryFor_of_tree^by kernel_rfl
def Hb:Manifest.owners.lookup^String.ofList ['d','e','s','r','e','v','e','r'].reverse=P3 Manifest.sig_reversed:=by kernel_rfl
def F_(a:Ev):argsOk "reversed.__next__" #[[a],[]]:=by
 unfold argsOk;rw[signature?_of (id:="reversed.__next__") (n:=['_','_','t','x','e','n','_','_']) (o:=['d','e','s','r','e','v','e','r']) (by kernel_rfl) Hb];kernel_rfl
def Fq:Slot "reversed" "__iter__" "reversed.__iter__":=
 .of (owner:="reversed") (n:="__iter__") (by rw[jH,iR];kernel_rfl) (by decide +kernel) (by decide +kernel) (by decide +kernel)
  (by first|exact .inl (by decide +kernel)|exact .inr^by decide +kernel) (by rw[j_];kernel_rfl)
def LX(a:Ev):argsOk "reversed.__iter__" #[[a],[]]:=by
 unfold argsOk;rw[signature?_of (id:="reversed.__iter__") (n:=['_','_','r','e','t','i','_','_']) (o:=['d','e','s','r','e','v','e','r']) (by kernel_rfl) Hb];kernel_rfl
def Kg:entryFor table "reversed.__iter__"=P3 ir.«dict_keyiterator.__iter__»:=
 entryFor_alias (id':="dict_keyiterator.__iter__") (by kernel_rfl) (by first|rfl|decide +kernel|(unfold String.splitOn;simp +decide [String.splitOnAux])) (by decide +kernel) (by kernel_rfl)
def S0:typeLookup (.type "reversed") "__len__"=pure p_:=by rw[jH,iR];kernel_rfl
def Vq:typeLookup (.type "reversed") "__length_hint__"=pure^P3^.builtin "reversed.__length_hint__":=by rw[jH,iR];kernel_rfl
def OL(l:Db)(i:Int):Obj:={cls:=.type "reversed",data:=.fields #[ .ref l,rawInt i]}
def IsRt(h:gI)(a l:Db)(i:Int):Prop:=∃o,h.get? a=P3 o/\o.cls=.type "reversed"/\o.data=.fields #[ .ref l,rawInt i]
section
variable {prog:Program}{w:World}{A:Around}{E:Value->Shared->Prop}{s:Shared}
def NU{l:Db}{c:Array Ev}{d:Ev->Go->Prop}(g:kc s.heap l c)(e:(c.size:Int)<2 ^ 63)
  (h:∀i,d (.ref s.heap.objs.size) {s with heap:=s.heap.push^OL l ((c.size:Int) - 1),toks:=i}):
  codeAny (model prog w) A (.call (.builtin "reversed.__new__") #[[.type "reversed",.ref l],[]]) (wants d E) s:=by
 refine kQ ?_;show wpAny _ A.in1 (do checkBuiltinCall "reversed.__new__" #[[.type "reversed",.ref l],[]];again^.builtin "reversed.__new__" #[[.type "reversed",.ref l],[]]) _ _ s;refine Ch^iX (F.newCall_reversed_1 _)^Rs #[iJ lS _,iB F.entry_reversed_new ?_];rw[iD lS _];have f:s.TypeIs (.ref l) "tuple":=by let#[o,j,k,_]:=g;exact#[o,j,k]
 unfold ir.«reversed.__new__»;refine Ch^iX (newClass_reversed _) ?_
 try dsimp only
 refine Ch^iX (a:=()) (by first|rfl|kernel_rfl) ?_;refine Ch^iX (a:=()) (by first|rfl|kernel_rfl) ?_
 try dsimp only
 refine Ch^jE f Sz ?_
 try dsimp only
 refine Ch^Ch^kG (b:=r_) f N9 ?_;simp only[iA,if_false];refine Ch^jE f item_tup ?_;show wpAny _ _ (if ["tuple.__getitem__","str.__getitem__","bytes.__getitem__","bytearray.__getitem__","memoryview.__getitem__","numpy.ndarray.__getitem__","sqlite3.Row.__getitem__"].contains "tuple.__getitem__"=q_ then pure q_ else _) _ _ _;rw[if_pos^by decide +kernel];refine Rs ?_;simp only[Bool.not_true,iA,if_false];refine Ch^len_tuple g e ?_;refine Ch^Rs ?_;show wpAny _ _ (newObj (.type "reversed")^.fields [gE l,rawInt ((c.size:Int) - 1)].toArray >>=_) _ _ _;exact Ch^hZ^Rs^h _
def NX{l:Db}{a:Array Ev}{Q:Ev->Go->Prop}(g:kc s.heap l a)(e:(a.size:Int)<2 ^ 63)
  (h:∀f,Q (.ref s.heap.objs.size) {s with heap:=s.heap.push^OL l ((a.size:Int) - 1),toks:=f}):wpAny (model prog w) A (call (.type "reversed") [.ref l]) Q E s:=by
 refine callType_codes (Q₁:=λd b=>b.TypeIs d "reversed"/\Q d b) called_reversed (F.typeCall_reversed_1 _) lc
  (NU g e λf=>#[#[_,UF _ rfl,rfl],h f]) λd b c=>?_
 exact#[c.1,kI d _,mS called_reversed.init.lookup called_reversed.made (by cbv) prog w A.in1 _ b #[c.1,rfl,c.2]]
def IsRt.typeIs{a l:Db}{i:Int}(x:IsRt s.heap a l i):s.TypeIs (.ref a) "reversed":=let #[o,b,c,_]:=x;#[o,b,c]
def IsRt.at{h b:gI}{a l:Db}{i:Int}(x:IsRt h a l i)(e:∀o,h.get? a=P3 o->b.get? a=P3 o):IsRt b a l i:=let #[o,c,r]:=x;#[o,e _ c,r]
def Xf{g l:Db}{i:Nat}{b:Array Ev}{x:Ev}{Q:t_ Ev->Go->Prop}(d:IsRt s.heap g l (i:Int))(p:kc s.heap l b)(hx:b[i]?=P3 x)(q:(i:Int)<2 ^ 63)
  (r:∀m t,IsRt m g l ((i:Int) - 1)->jf g s.heap m->Q (P3 x) {s with heap:=m,toks:=t}):wpAny (model prog w) A (pyNext^.ref g) Q E s:=by
 let#[o,e,n,k]:=id d;have u:s.TypeIs (.ref l) "tuple":=by let#[o,e,n,_]:=p;exact#[o,e,n]
 have v:i<b.size:=by
  rcases Nat.lt_or_ge i b.size with h|h
  .exact h
  .rw[kr h]at hx;cases hx
 unfold pyNext
 refine Ch (jK (iC (name:=ik "__next__") d.typeIs slot_rev_next
  (iN slot_rev_next d.typeIs FA ?_^F_ _)))
 unfold ir.«reversed.__next__»;refine Ch (iX (a:=(gE g,[])) rfl ?_)
 try dsimp only
 refine Ch (gj e k (x:=.ref l) rfl ?_);refine Ch (gj e k (x:=rawInt (i:Int)) rfl ?_);show wpAny _ _ (if(i:Int)<0 then _ else _) _ _ s;rw[if_neg^by lk];refine Ch^jE u item_tup ?_;simp only[Option.isNone_some,iA,if_false];refine Ch^wpAny_mkInt ?_;refine Ch^jK^getItem_tuple (s:={s with toks:=s.toks+1}) (j:=i) p (by lk) q (by unfold seqIndex?;simp;lk) hx ?_;refine Ch (gj e k (x:=rawInt (i:Int)) rfl ?_);show wpAny _ _ (setField (.ref g) 1^rawInt ((i:Int) - 1) >>=_) _ _ _;refine Ch^jN e k (by simp) ?_;refine Rs #[x,rfl,Rs^r _ _ ?_ (lX ..)]
 exact#[_,g7 _ e^j7^io k _,(Obj.cls_mapFields ..).trans n,by
  rw[io k];simp]
def Ob{f l:Db}{Q:t_ Ev->Go->Prop}(j:A.handled=p_)(d:IsRt s.heap f l (-1))
  (p:∀k,mw f s.heap k->Q p_ {s with heap:=k}):wpAny (model prog w) A (pyNext^.ref f) Q E s:=by
 let#[o,h,r,g]:=id d;unfold pyNext
 refine Ch (jK (iC (name:=ik "__next__") d.typeIs slot_rev_next
  (iN slot_rev_next d.typeIs FA ?_^F_ _)))
 unfold ir.«reversed.__next__»;refine Ch (iX (a:=(gE f,[])) rfl ?_)
 try dsimp only
 refine Ch (gj h g (x:=.ref l) rfl ?_);refine Ch (gj h g (x:=rawInt (-1)) rfl ?_);show wpAny _ _ (if(-1:Int)<0 then _ else _) _ _ s;rw[if_pos^by cbv];refine Ch^kF ?_;refine Ch ?_;show wpAny _ _ (setField (.ref f) 1^rawInt (-1) >>=λ_=>setField (.ref f) 0 .none) _ _ _;refine Ch^jN h g (by simp) ?_;have i:=g7 (jJ λq=>q.set! 1^rawInt (-1)) h^j7^io g _;refine jN i (io g _) (by simp) ?_;refine Ch ?_;show wpAny _ _ (newExc (.type "StopIteration") [] >>=_) _ _ _;refine Ch ?_;simp only[newExc,newTuple];refine Ch (hZ ?_^by size_fits);refine Ch (m:=firstArgMember _ _)^iX (a:=gh) (by first|rfl|(simp only[firstArgMember];rfl)) ?_;refine hZ ?_ (by size_fits);simp only[raiseNew];refine Ch^wpAny_handled ?_
 first|rw[show A.in1.handled=p_ from j]|rw[j]
 refine Ch^Rs^wpAny_throw ?_;refine Ch^kG (T:="StopIteration") (b:=q_) #[_,UF _ rfl,rfl] isSubtype_stop ?_;refine Rs^p _ ?_;refine nO (nO ?_ _) _;intro b t n e;rw[kP _ _ _ _ n,kP _ _ _ _ n];exact e
def Xo{it l:Db}{i:Int}{Q:Ev->Go->Prop}(a:IsRt s.heap it l i)(h:Q (.ref it) s):wpAny (model prog w) A (pyIter^.ref it) Q E s:=by
 refine wpAny_pyIter_slot a.typeIs Fq^iN Fq a.typeIs Kg ?_^LX _;show wpAny _ _ (ret^.ref it) _ _ s;exact Rs #[_,rfl,"reversed",_,a.typeIs,slot_rev_next.lookup,h]
end
def T8{g:gN}{w:gY}{A:gc}(z:A.handled=p_)(I l:Db)(m:l≠I)(a:Array Ev)(F:(a.size:Int)<2 ^ 63):
  Walks g w A I [I,l] [I] a.size (λi v=>a[a.size - 1 - i]?=P3 v) (λi h=>i<=a.size/\IsRt h I l ((a.size:Int) - 1 - (i:Int))/\kc h l a) where
 sub:=λb f=>by simp at f;simp[f]
 frame:=λ_ _ _ x u=>#[x.1,x.2.1.at λo e=>u I (by simp) o e,let #[o,n,r]:=x.2.2;#[o,u l (by simp) o n,r]]
 item:=λi s Q E B x j=>by
  have e:(a.size:Int) - 1 - (i:Int)=((a.size - 1 - i:Nat):Int):=by lk
  have c:=x.2.1;rw[e]at c;have y:a[a.size - 1 - i]?=P3 (a[a.size - 1 - i]'(by lk)):=ie (by lk);refine Xf c x.2.2 y (by lk) λp C d k=>?_;have D:((a.size - 1 - i:Nat):Int) - 1=(a.size:Int) - 1 - ((i+1:Nat):Int):=by lk
  rw[D]at d;exact j _ p C y #[B,d,let #[o,n,r]:=x.2.2;#[o,(k.2 l m).trans n,r]] λb o f q=>k.extBut b o (λh=>f^by simp[h]) q
 done:=λs Q E x j=>by
  have e:(a.size:Int) - 1 - (a.size:Int)=-1:=by lk
  have c:=x.2.1;rw[e]at c;exact Ob z c λp t=>j p s.toks λb o f q=>t b o (λh=>f^by simp[h]) q
 self:=λ_ _ _ _ x j=>Xo x.2.1 j
def slot_rev_hint:Slot "reversed" "__length_hint__" "reversed.__length_hint__":=
 .of (owner:="reversed") (n:="__length_hint__") (by rw[jH,iR];kernel_rfl) (by decide +kernel) (by decide +kernel) (by decide +kernel)
  (by first|exact .inl (by decide +kernel)|exact .inr^by decide +kernel) (by rw[j_];kernel_rfl)
def Kh:entryFor table "reversed.__length_hint__"=P3 ir.«reversed.__length_hint__»:=entryFor_of_tree^by kernel_rfl
def LY(a:Ev):argsOk "reversed.__length_hint__" #[[a],[]]:=by
 unfold argsOk;rw[signature?_of (id:="reversed.__length_hint__") (n:=['_','_','t','n','i','h','_','h','t','g','n','e','l','_','_']) (o:=['d','e','s','r','e','v','e','r']) (by kernel_rfl) Hb];kernel_rfl
def W_{e:gN}{w:gY}{A:gc}{E:Ev->Go->Prop}{s:Go}{I l:Db}{c:Array Ev}{Q:Bool->Go->Prop}(d:IsRt s.heap I l ((c.size:Int) - 1))(j:kc s.heap l c)(p:c.size<=sizeLine)
  (k:∀b g,s.toks<=g->Q b {s with toks:=g}):wpAny (model e w) A (iU^.ref I) Q E s:=by
 have n:=gz;let#[o,h,q,i]:=id d;unfold iU;refine Ch^jE d.typeIs S0 ?_;show wpAny _ A (specialOf (gE I)^ik "__length_hint__" >>=_) _ _ _;refine Ch (jE d.typeIs Vq ?_)
 (generalize f:("reversed.__length_hint__":String)=id0;wp_delta;rw[show splitId id0=P3 ("reversed","__length_hint__")from by subst f;decide +kernel];subst f)
 refine Ch^kG (b:=q_) d.typeIs F.sub_reversed_self ?_;simp only[Bool.not_true,iA,if_false];rw[if_neg^by decide +kernel];refine Ch^kF ?_;refine Ch^iX (slot_rev_hint.bind _) ?_;refine Ch^jK^iN slot_rev_hint d.typeIs Kh ?_^LY _;unfold ir.«reversed.__length_hint__»;refine Ch (iX (a:=gE I) rfl ?_);refine Ch (gj h i (x:=.ref l) rfl ?_);show wpAny _ _ (if(gE l==gh)=q_ then _ else _) _ _ _;rw[if_neg (show ¬((gE l==gh)=q_)from gR)];refine Ch^len_tuple j (by lk) ?_;refine Ch^Rs ?_;refine Ch (gj h i (x:=rawInt ((c.size:Int) - 1)) rfl ?_);show wpAny _ _ (if(c.size:Int)<((c.size:Int) - 1)+1 then _ else _) _ _ _;rw[if_neg^by lk];refine Ch^wpAny_mkInt^Rs #[_,rfl,?_];refine Ch^Rs ?_;show wpAny _ _ (if(!Builtin.List.listFitsIndex ((c.size:Int) - 1+1))=q_ then _ else _) _ _ _;rw[if_neg (by unfold Builtin.List.listFitsIndex;simp;lk),if_neg^by lk,if_neg^by unfold jh;simp;lk];exact Rs^k _ _^gG (gG (g_ _)^g_ _)^g_ _
section
variable {prog:Program}{w:World}{A:Around}{E:Value->Shared->Prop}{s:Shared}{I:Addr}{fp wr:s_ Addr}{G:Array GenState->Array GenState->Prop}{n:Nat}{P:Nat->Value->Prop}{St:Nat->Shared->Prop}
def Qg{Q:s_ Ev->Go->Prop}(S:∀(A:gc) (E:Ev->Go->Prop) (f:Go) (Q:Bool->Go->Prop),St 0 f->(∀b p,f.toks<=p->Q b {f with toks:=p})->wpAny (model prog w) A (iU^.ref I) Q E f)
  (W:WalksS prog w A.in1 I fp wr G n P St) (T:∀i s,St i s->s.TypeIs (.ref I) "reversed") (J:St 0 s) (K:∀b∈fp,b<s.heap.objs.size) (U:I∈fp)
  (V:∀f d,Moved wr G s f->lj P d n->Q d.toList f) (hn:n<=sizeLine):wpAny (model prog w) A (collect^.ref I) Q E s:=by
 have t:s.heap.objs.size∉fp:=λu=>gv _^K _ u;have L:s.heap.objs.size≠I:=λe=>t (e▸U);unfold collect;refine Ch^wpAny_runValue^iB F.entry_proto_collect ?_;rw[iD F.plain_proto_collect _];show wpAny _ A.in1 (newList [] >>=λl=>again^.builtin "list.__iadd__" #[[l,.ref I],[]]) _ _ s;refine Ch^hZ ?_;refine Rs #[iJ kj _,iB F.entry_list_iadd ?_];rw[iD kj _];have a:=W.frame 0 s (s.heap.push {cls:=.type "list",data:=.seq ([]:s_ Ev).toArray}) s.toks J (Re _) λb _ o e=>FM _ e;have g:(s.heap.push {cls:=.type "list",data:=.seq ([]:s_ Ev).toArray}).get? s.heap.objs.size=P3 {cls:=.type "list",data:=.seq ([]:s_ Ev).toArray}:=UF _ rfl;have M:jk (.ref s.heap.objs.size)^.ref I=r_:=by simp[jk,L]
 show wpAny _ A.in1 (iT (.ref s.heap.objs.size) (.ref I)^.ref s.heap.objs.size) _ _ _;unfold iT;refine Ch^jQ (T 0 _ a) ?_;rw[if_neg^by rw[M];decide];refine Ch^W.self 0 _ _ _ a ?_;refine Ch^gw ?_;refine S _ _ _ _ a λb p v=>?_
 have z:∀(h:gI) (q m:Nat),s.toks<=m->St 0 {s with heap:=h,toks:=m}->h.get? s.heap.objs.size=P3 {cls:=.type "list",data:=.seq #[] q}->(∀b o,b≠s.heap.objs.size->s.heap.get? b=P3 o->h.get? b=P3 o)->
   ∀R:Result->Go->Prop,(∀f d c,f.heap.get? s.heap.objs.size=P3 {cls:=.type "list",dict:=p_,data:=.seq d c,slots:=#[]}->Moved wr G s f->lj P d n->R (.ok^.ret^.ref s.heap.objs.size) f)->
   codeAny (model prog w) A (.builtin "list.extend.loop" #[[.ref s.heap.objs.size,.ref I,.ref s.heap.objs.size],[]]) R {s with heap:=h,toks:=m}:=by
  intro h q m X N Y Z R hR;refine codeAny_extend_loopS W hn _ t _ n 0 _ _ _ rfl (f8 _) N Y (ItemsOf.nil P) λf B c' u O C=>hR f B c' O #[λb o y e=>u.heap b o (λj=>?_)^Z b o (gO^Uf e) e,u.gens,u.drawn,u.os,gG X u.toks] C
  rcases T0.mp j with e'|j
  .exact absurd (Uf e)^by rw[e'];exact gv _
  .exact y j
 have r:∀f d c,f.heap.get? s.heap.objs.size=P3 {cls:=.type "list",dict:=p_,data:=.seq d c,slots:=#[]}->Moved wr G s f->lj P d n->wpAny (model prog w) A (load s.heap.objs.size >>=λo=>match o.data with
   |.seq xs _=>pure xs.toList
   |_=>unsupported "internal:collect") Q E f:=λf d c M h2 h3=>Ch^wpAny_load M^Rs^V f d h2 h3
 have D:=W.frame 0 _ (s.heap.push {cls:=.type "list",data:=.seq ([]:s_ Ev).toArray}) p a v λb _ o e=>e;refine wpAny_ite_split (λ_=>?_) λ_=>Rs #[iJ lZ _,z _ 0 p v D g (λb o _ e=>FM _ e) _ r];refine Ch^kF ?_;refine Ch ?_;show wpAny _ _ (updateSeq s.heap.objs.size (·.push .none) >>=λ_=>updateSeq s.heap.objs.size (·.pop)) _ _ _;refine Ch (jx g rfl ?_);have k:=g7 (hV (·.push gh)) g rfl;refine jx (hz:=by seq_fits) k rfl ?_;have x:=g7 (hV (·.pop)) k rfl;refine Rs #[iJ lZ _,z _ _ p v ?_ x (λb o y e=>?_) _ r]
 .refine W.frame 0 {s with heap:=s.heap.push {cls:=.type "list",data:=.seq ([]:s_ Ev).toArray},toks:=p} _ p D (Re _) λb y o e=>?_
  have H:b≠s.heap.objs.size:=λh=>t (h▸y);exact(gF _ _^g0 H).trans^(gF _ _^g0 H).trans e
 .exact(gF _ _^g0 y).trans^(gF _ _^g0 y).trans^FM _ e
def LS{Q₁:Ev->Go->Prop}(hH:∀(A:gc) (E:Ev->Go->Prop) (s':Go) (Q:Bool->Go->Prop),St 0 s'->(∀b tk,s'.toks<=tk->Q b {s' with toks:=tk})->wpAny (model prog w) A (iU^.ref I) Q E s')(W:WalksS prog w A.in1.in1 I fp wr G n P St)(hT:∀i s,St i s->s.TypeIs (.ref I) "reversed")(hst:St 0 s)(hfp:∀b∈fp,b<s.heap.objs.size)(hI:I∈fp)
  (h:∀s' acc,Moved wr G s s'->lj P acc n->Q₁ (.ref s'.heap.objs.size) {s' with heap:=s'.heap.push {cls:=.type "tuple",data:=.seq acc}}) (hsz:n<=sizeLine):
  codeAny (model prog w) A (.call (.builtin "tuple.__new__") #[[.type "tuple",.ref I],[]]) (wants Q₁ E) s:=by
 refine kQ ?_;show wpAny _ A.in1 (do checkBuiltinCall "tuple.__new__" #[[.type "tuple",.ref I],[]];again^.builtin "tuple.__new__" #[[.type "tuple",.ref I],[]]) _ _ s;refine Ch^iX (F.newCall_tuple_1 _)^Rs #[iJ km _,iB F.entry_tuple_new ?_];rw[iD km _];have hsub:=sub_tuple_self;have hinit:=init_tuple_lookup;have hmh:=madeHere_tuple;have hTI:=hT 0 s hst
 wp_walk using jQ hTI,Qg (hn:=hsz) hH W hT hst hfp hI
 intro s' acc hm hacc;show wpAny _ _ (im acc.toList.toArray >>=λv=>ret v) _ _ _;unfold im;refine Ch (hZ ?_^by show acc.toList.toArray.size<=sizeLine;simp only[nB];rw[hacc.1];exact hsz);refine Rs ?_;have e:acc.toList.toArray=acc:=by simp
 rw[e];exact h s' acc hm hacc
def LU{Q:Ev->Go->Prop}(hH:∀(A:gc) (E:Ev->Go->Prop) (c:Go) (Q:Bool->Go->Prop),St 0 c->(∀b k,c.toks<=k->Q b {c with toks:=k})->wpAny (model prog w) A (iU^.ref I) Q E c)(W:WalksS prog w A.in1.in1.in1 I fp wr G n P St)(l:∀i s,St i s->s.TypeIs (.ref I) "reversed")(h:St 0 s)(j:∀b∈fp,b<s.heap.objs.size)(m:I∈fp)
  (o:∀c e,Moved wr G s c->lj P e n->Q (.ref c.heap.objs.size) {c with heap:=c.heap.push {cls:=.type "tuple",data:=.seq e}}) (hsz:n<=sizeLine):
  wpAny (model prog w) A (call (.type "tuple") [.ref I]) Q E s:=by
 refine callType_codes (Q₁:=λf a=>a.TypeIs f "tuple"/\Q f a) kA (F.typeCall_tuple_1 _) lc
  (LS (hsz:=hsz) hH W l h j m λc e p g=>#[#[_,UF _ rfl,rfl],o c e p g]) λf a d=>?_
 exact#[d.1,kI f _,mS kA.init.lookup kA.made (by cbv) prog w A.in1 _ a #[d.1,rfl,d.2]]
end
section
variable {X:Cx}{e:Expr}{te:TE}{p1 p2 q1 q2:Pos}
def UP(K:Frag)(te:TE):TE:=λZ H Q=>te Z H λx a=>∃l b,x=.ref l/\SqT K a l b/\∀r,a r=p_->Q (.ref r)^A5 a r^.tup b.reverse
def QH(D:X.calm=q_)(he:PE X e te)(E:Gl X "tuple")(F:X.mg "tuple"=p_)(G:Gl X "reversed")(J:X.mg "reversed"=p_)(W:starEach [kY (.Name "reversed" p2) [e] [] q2] X.env=[(r_,eval (kY (.Name "reversed" p2) [e] [] q2) X.env)]:=by rfl)
  (Y:starEach [e] X.env=[(r_,eval e X.env)]:=by rfl):PE X (.Call (.Name "tuple" p1) [.Call (.Name "reversed" p2) [e] [] q2] [] q1)^UP X.K te:=by
 intro B s Z H Q I h;refine hU^DX I E F jF ?_;refine h_ ?_ W rfl;rw[W];refine ij ?_;refine hU^DX I G J boot_reversed ?_;refine h_ ?_ Y rfl;rw[Y];refine ij^thn (he B s Z H _ I h) λu d #[x,n,p,r1,l,L,ex,M,q]=>jI ?_;subst ex;cases r1;let#[a,r',pl,N]:=p.tuple M;have g:=r'.length;have O:kc d.heap l a.toArray:=pl;have t:l<d.heap.objs.size:=by let#[_,e,_]:=id O;exact Uf e
 have j:((a.toArray.size:Nat):Int)<2 ^ 63:=by rw[f_,←g];have:=gz;lk
 refine NX O j λk=>jI ?_;have P:n d.heap.objs.size=p_:=p.fresh;have I2:Inv X B Z n {d with heap:=d.heap.push^OL l ((a.toArray.size:Int) - 1),toks:=k}:=p.kept (t':=k) λb o e=>FM _ e;have R:FU X B n d.heap.objs.size:=p.fpOk (Re _) P;refine LU (hH:=λ_ _ S _ h M=>W_ (by have:=h.2.1;rw[show((a.toArray.size:Nat):Int) - 1 - ((0:Nat):Int)=((a.toArray.size:Nat):Int) - 1 by lk]at this;exact this) h.2.2 (by rw[f_,←g];exact N) M) (s:={d with heap:=d.heap.push^OL l ((a.toArray.size:Int) - 1),toks:=k}) (T8 (A:=X.A.in1.in1.in1) (p.ok.hd D) d.heap.objs.size l (gO t) a.toArray j).toS (λi S hs=>hs.2.1.typeIs) #[f8 _,#[_,UF _ rfl,rfl,by show Data.fields _=_;simp[OL]],(let #[o,ho,r]:=O;#[o,FM _ ho,r])] (λb v=>?_) Op (λS f C y=>?_)^by rw[f_,←g];exact N
 .rcases T0.mp v with rfl|v
  .exact Uf (UF _ rfl)
  .obtain rfl:=Sc.mp v
   exact gW t^by show d.heap.objs.size<=(d.heap.push _).objs.size;rw[size_push'];exact g_ _
 .let#[h',g',d',m,T]:=S
  have e1:g'=d.gens:=C.gens;have e2:d'=d.drawn:=C.drawn;have e3:T=d.os:=C.os;subst e1 e2 e3;have U:=I2.turnedL (h':=h') (t':=m) (ch:=[d.heap.objs.size]) (λc D=>by rw[Sc.mp D];exact R) λb o v e=>C.heap b o v e;have I3:Inv X B Z n {d with heap:=h',toks:=m}:=U
  have hv:f.toList=a.reverse:=by
   refine List.ext_getElem? λi=>?_;let#[a1,a2]:=y;have e0:f.toList[i]?=f[i]?:=by simp
   rw[e0]
   by_cases hi:i<a.length
   .have z:i<f.size:=by rw[a1,f_];exact hi
    have a3:=a2 i f[i] (ie z);rw[m7 hi,ie z,←a3,f_];simp
   .rw[lC^by rw[iQ];lk]
    exact kr^by rw[a1,f_];lk
  have V:f=a.reverse.toArray:=by rw[←hv]
  have rr:Vals L.reverse a.reverse:=r'.reverse;refine#[.ref h'.objs.size,A5 n h'.objs.size^.tup L.reverse,I3.laid (t':=m) (λb o e=>FM _ e) (Re _) (show ObjOk X.prog X.w _ _ _^.tup L.reverse from#[by rw[iQ];exact N,a.reverse,rr,by rw[V];exact IsTupN.new _ _]),rfl,q _^I3.hok.fresh^Re _]
end
end L2
namespace Dp
open L2
def JM(b:DW):DW:=λn c P=>b n c λd e=>∃a,d=.tup a/\P (.tup a.reverse) e
section
variable {X:Cx}{a:Expr}{zS:Kd}{wa:DW}{p1 p2 q1 q2:Pos}
def Qe(m:X.calm=q_)(o:DE X a zS wa)(b:Gl X "tuple")(c:X.mg "tuple"=p_)(e:Gl X "reversed")(f:X.mg "reversed"=p_)(s:starEach [kY (.Name "reversed" p2) [a] [] q2] X.env=[(r_,eval (kY (.Name "reversed" p2) [a] [] q2) X.env)]:=by rfl)
  (u:starEach [a] X.env=[(r_,eval a X.env)]:=by rfl):DE X (.Call (.Name "tuple" p1) [.Call (.Name "reversed" p2) [a] [] q2] [] q1) .sh^JM wa:=by
 let#[t,x,y]:=o;refine#[_,QH m x b c e f s u,λC M H n z Z P Q R w q=>?_];refine y C M H n z Z _ _ R w λv h d A i j B p=>?_;let#[D,rfl,p]:=p;have E:=R.step i j;let#[F,k,rfl,G,I]:=(B.tpOf R.dom R.vM).tup;refine#[F,k,rfl,G.sq,λr l=>?_];have g:Grow h^A5 h r^.tup k.reverse:=A1 l;exact q _ _ (.tup D.reverse) A (i.trans g.ext) (j.grow g) (Ce E.dom l^I.reverse) p
end
end Dp
namespace Nt
open L2 Dp
def fu(N:Net)(s x:Str):Prop:=∃d,Wk N s x d
structure fV (N:Net) (s:Str) (ks:List Key):Prop where
 nd:ks.Nodup
 dom:∀k∈ks,∃x:Str,k=.inr x
 mem:∀x:Str,.inr x∈ks↔fu N s x
def FQ:W2:=λa n P=>a=[.fd]/\1<=n/\∀(e:D),fine (10 ^ 35) e->C7 e<=250->F5 e<=2->P e (n - 1)
inductive aX:D->Prop
 |s (x:Str):aX^.str x
 |i (k:Int):aX^.int k
 |t (xs:List D) (h:∀x,x∈xs->aX x):aX^.tup xs
def K8(j:Nat):W2:=λc n P=>∃(d:D) (a:s_ Str) (i:Nat),c=[.fd,.sh d,.sh^.tup^a.map .str,.sh^.int i]/\i<=j/\aX d/\fine (10 ^ 34) d/\a≠[]/\a.length<=24/\(∀x∈a,Yl x)/\C7 d<=50000/\3*j+3<=n/\∀(e:D) (b:Nat),fine (10 ^ 35) e->C7 e<=2*C7 d+500->F5 e<=F5 d+3->n - (3*j+3)<=b->P e b
def Nu:W2:=λd n P=>∃a:s_ Ax,d=[.fd,.sh^.tup^a.map Ad]/\a.length+1<=n/\a.length<=60/\∀(b:s_ Ax) (c:Nat),b.Sublist a->n - 1 - a.length<=c->P (.tup^b.map Ad) c
def F7:Aa:=(Ae (BI 2^AU A2 (wC^D.int 1)^AZ Bt^AE (BE 0)^AE (AL^wC^D.int 4) AY)
 (Au^CB BL^AD (CQ [P3 0,P3 2,p_] (BA^AC 1) (AR 2) (AW^AU (f2 λi j=>D.bl (decide (j<i))) (AZ Bt^AE (BE 0)^AE (AL^AU A2 (wC^D.int 1)^AC 1) AY)^wC^D.int 0)^AC 2) AQ))
def HB:Aa:=(Ae (BI 1^CM^AD (wC D.non)^AD (wC^D.bl q_)^AD (wC^D.int 0)^AD (wC^D.int 1)^AD (Pl^wC^D.int 1)^AD (wC^D.int 7)^AD (wC^D.str "a")^AD (wC^D.str "in")^AD (wC^D.str "")^AD (A_ AQ)^AD (CM AQ)^AD (A_^AD (wC^D.str "a") AQ)^AD (CM^AD (wC^D.str "a") AQ)^AD (A_^AD (wC^D.str "in")^AD (A_ AQ) AQ)^AD (AU (Yr Q6 λi j=>D.int (i ^ j.toNat)) (wC^D.int 10)^wC^D.int 30)^AD (A_^AD (wC^D.str "a")^AD (wC^D.str "a") AQ) AQ)
 (Au^AU A7 (AC 1)^AZ Bt^AE (BE 0)^AE (AL^wC^D.int 16) AY))
def F9(Wbent:W2):Aa:=(Ae (BI 4^AZ Bt^AE (BE 0)^AE (AL^wC^D.int 9) AY)
 (Ae (BH (AW^El "tuple"^AC 1) (Ae (BI 5^AZ Bt^AE (BE 0)^AE (AL^AU A2 (CB C6^AD (AC 1) AQ)^wC^D.int 1) AY)
 (Ae (BH (Em (AW^AU (f2 λi j=>D.bl (decide (j<i))) (AC 4)^wC^D.int 3)^Em (AW^AU EU (AC 5)^CB C6^AD (AC 1) AQ)^AW^AU (f2 λi j=>D.bl (decide (j<i))) (AC 3)^wC^D.int 0) (Ae (BI 6^AZ Wbent^AE (BE 0)^AE (AL^AU A7 (AC 1)^AC 5)^AE (AL^AC 2)^AE (AL^AU E9 (AC 3)^wC^D.int 1) AY)
 (Au^AU A2 (AU A2 (HN Cg (AC 1) BD^Bn^AC 5)^A_^AD (AC 6) AQ)^HN Cg (AC 1) (Bn^AU A2 (AC 5)^wC^D.int 1) BD)) Av)
 (Ae (BH (DM (AW^AU (Ej r_) (AC 4)^wC^D.int 0)^AW^AU (Ej r_) (AC 4)^wC^D.int 4) (Au^AU A2 (HN Cg (AC 1) BD^Bn^AC 5)^HN Cg (AC 1) (Bn^AU A2 (AC 5)^wC^D.int 1) BD) Av)
 (Ae (BH (AW^AU (Ej r_) (AC 4)^wC^D.int 1) (Au^AU A2 (AU A2 (HN Cg (AC 1) BD^Bn^AC 5)^HN Cg (AC 1) (Bn^AC 5)^Bn^AU A2 (AC 5)^wC^D.int 1)^HN Cg (AC 1) (Bn^AC 5) BD) Av)
 (Ae (BH (AW^AU (Ej r_) (AC 4)^wC^D.int 2) (Au^AU A2 (AU A2 (HN Cg (AC 1) BD^Bn^AC 5)^A_^AD (AZ FQ^AE (BE 0) AY) AQ)^HN Cg (AC 1) (Bn^AC 5) BD) Av)
 (Au^AU A7 (CM^AD (CB Ho^AD (AC 1) AQ)^AD (JM^AC 1) AQ)^AZ Bt^AE (BE 0)^AE (AL^wC^D.int 2) AY)))))) Av)
 (Ae (BH (Em (AW^El "str"^AC 1)^AW^AU (f2 λi j=>D.bl (decide (j<i))) (AC 4)^wC^D.int 1) (Au^AU A7 (AC 2)^AZ Bt^AE (BE 0)^AE (AL^CB C6^AD (AC 2) AQ) AY) Av)
 (Ae (BH (Em (AW^El "int"^AC 1)^AW^AU (f2 λi j=>D.bl (decide (j<i))) (AC 4)^wC^D.int 1) (Au^AU A7 (CM^AD (AU A2 (AC 1)^wC^D.int 1)^AD (AU E9 (AC 1)^wC^D.int 1)^AD (AU (Ej r_) (AC 1)^wC^D.int 1)^AD (AU A2 (AC 1)^AU (Yr Q6 λi j=>D.int (i ^ j.toNat)) (wC^D.int 10)^wC^D.int 6)^AD (wC^D.int 0)^AD (AU E9 (AC 1)^wC^D.int 7)^AD (AU A2 (AC 1)^wC^D.int 13) AQ)^AU E9 (AC 4)^wC^D.int 2) Av)
 (Au^AZ FQ^AE (BE 0) AY)))))
def SV{N:Net}(a b c:D):Eh N^.tup [a,b,c]=(HP c&&(N.ts.map Ad).any λy=>E_ y^.tup [a,b,c]):=by
 rw[iK,tofB_iff,gP,i8];constructor
 .rintro⟨t,d,e⟩
  have f:c=.int t.len:=by injection e with e;injection e with _ e;injection e with _ e;injection e
  exact#[by rw[f];rfl,Ad t,Tk.mpr #[t,d,rfl],by rw[e];exact NL t]
 .rintro⟨h,y,j,e⟩
  let#[t,d,rfl]:=Tk.mp j;let#[z,g,k]:=MA e;have f:c=z:=by injection g with e;injection e with _ e;injection e with _ e;injection e
  subst f;rw[g];cases c with
  |int i=>exact#[t,d,by rw[k i rfl];rfl]
  |_=>cases h
def RB{N:Net}{d:D}(h:∀a b c,d≠.tup [a,b,c]):Eh N d=r_:=by
 rw[h9];intro z;let#[t,_,e]:=tofB_iff.mp z;exact h _ _ _ e
def Z9(a:s_ Ax):D->Bool
 |.int k=>A9 (CG^a.getD k.toNat #["","",0])^CG^a.getD (k.toNat+1) #["","",0]
 |_=>q_
def YJ(a:s_ Ax):Tx^a.map Ad=q_↔∀k,k+1<a.length->A9 (CG^a.getD k #["","",0])^CG^a.getD (k+1) #["","",0]=q_:=by
 induction a with
 |nil=>exact#[λ_ k h=>absurd h^by simp,λ_=>rfl]
 | cons s r c=>
  cases r with
  |nil=>exact#[λ_ k h=>absurd h^by simp,λ_=>rfl]
  | cons t r=>
   show((VX (Ad s)^Ad t==P3 q_)&&Tx^(t::r).map Ad)=q_↔_;rw[gP,c,KG];constructor
   .rintro⟨d,e⟩ k b
    cases k with
    |zero=>exact gH^eq_of_beq d
    |succ k=>exact e k^by simpa using b
   .intro h
    have f:=h 0 (by simp);exact#[by rw[show A9 (CG s)^CG t=q_ from f];rfl,λk b=>h (k+1)^by simpa using b]
def aO(a:s_ Ax)(m:Nat)(f:m=(((a.length:Nat):Int) - 1).toNat):(EA 0 m).all^Z9 a=Tx^a.map Ad:=by
 rw[iK,YJ,i7];constructor
 .intro h k b
  have:=h (.int (0+(k:Int)))^Tk.mpr #[k,i_.mpr^by lk,rfl]
  have e:Z9 a^.int (0+(k:Int))=A9 (CG^a.getD (0+(k:Int)).toNat #["","",0])^CG^a.getD ((0+(k:Int)).toNat+1) #["","",0]:=rfl;rw[e,show(0+(k:Int)).toNat=k by lk]at this;exact this
 .intro h d c
  let#[k,b,rfl]:=Jl c;have e:Z9 a^.int (0+(k:Int))=A9 (CG^a.getD (0+(k:Int)).toNat #["","",0])^CG^a.getD ((0+(k:Int)).toNat+1) #["","",0]:=rfl;rw[e,show(0+(k:Int)).toNat=k by lk];exact h k^by lk
section
variable {ss:s_ Slot}{n:Nat}{Pd:D->Nat->Prop}
def LH(h:Nu ss n Pd):F7 (EE Pd) n (ss++ZB 1 .no):=by
 let#[c,rfl,u,l,p]:=h;unfold F7;refine#[4,rfl,by cbv,by cbv,by lk,λsh v w=>?_];exists by show(c.map Ad).length<=10000000;rw[No];lk
 have o:∀(a done b:s_ Ax) (m:Nat) (s:Slot),done++a=c->b.Sublist done->n - 1 - done.length<=m->
   E4 (AR 2) (AW^AU (f2 λi j=>D.bl (decide (j<i))) (AZ Bt^AE (BE 0)^AE (AL^AU A2 (wC^D.int 1)^AC 1) AY)^wC^D.int 0) (AC 2) (λb q=>Pd (.tup b) q) (a.map Ad) (b.map Ad) m [.fd,.sh^.int (1+sh),s]:=by
  intro a
  induction a with
  |nil=>
   intro done b m s e d f;rw[gK]at e;subst e;exact p b m d f
  | cons t a g=>
   intro done b m s e d f;have x:done.length+(a.length+1)=c.length:=by rw[←e,XV,gB]
   have k:(done++[t])++a=c:=by rw[gS];exact e
   refine#[_,rfl,by lk,by lk,by lk,λr y z=>?_];refine CI (λ_=>?_) λ_=>?_
   .have:=g (done++[t]) (b++[t]) (m - 1) (.sh^Ad t) k (d.append^mT [t])^by rw[XV,gD];lk
    rw[gU]at this;exact this
   .exact g (done++[t]) b (m - 1) (.sh^Ad t) k (d.trans^List.sublist_append_left _ _)^by rw[XV,gD];lk
 exact o c [] [] _ _ rfl (mT _) (by simp)
def HV(h:MO ss n Pd):EJ (EE Pd) n (ss++ZB 1 .no):=by
 let#[N,d,rfl,ok,l1,l2,R,W,J,p]:=h;have X:=PySem.sizeLine_eq;have g:∀i:Int,Dw^.int i:=λi=>#[rfl,rfl,f8 _];have u:Dw^.tup^N.ps.map .str:=Fb ok.names;unfold EJ;cases d with
 | tup o =>
  by_cases S:o.length=2
  .obtain⟨x,y,rfl⟩:∃x y,o=[x,y]:=by
    match o,S with
    |[x,y],_=>exact#[x,y,rfl]
   have Y:fine (10 ^ 41) x:=R.1;have K:max (F5 x)^max (F5 y) 0+1<=90:=J;have L:C7 x+1+(C7 y+1+0)<=200000:=W;exists _,_,rfl,rfl,g _,g _;refine CI (λc=>absurd c^by show ¬(!E_ (.int 2) (.int 2))=q_;decide) λ_=>?_;exists _,AJ (j:=0) rfl,_,AJ (j:=0) rfl,Cd (B:=10 ^ 41) (by cbv) Y^by lk,u;refine CI (λc=>?_) λc=>?_
   .have:thinB N^.tup [x,y]=r_:=by
     rw[h9];intro z;let#[f,e,_]:=thinB_iff.mp z;have M:x=.tup^N.ps.map .str:=by injection e with e;injection e
     rw[eqD_strs.mpr M]at c;cases c
    rw[this]at p;exact p
   .have ex:E_ x^.tup^N.ps.map .str=q_:=by
     cases e:E_ x^.tup^N.ps.map .str with
     |true=>rfl
     |false=>rw[e]at c;exact absurd rfl c
    exists _,AJ (j:=1) rfl;cases y with
    | tup m=>
     rw[←Lj ok,ex,nE]at p;have Z:Ea (10 ^ 41) m:=R.2.1;have dx:F4 m<=88:=by have:max (F5 x)^max (F4 m+1) 0+1<=90:=K;lk
     have hl:=JC m;have sx:CH m<=200000:=by have:C7 x+1+(CH m+1+0)<=200000:=L;lk
     refine Br #[_,AJ (j:=1) rfl,?_]
     have go:∀(r v:s_ D) (t:Slot),m=v++r->v.all^Eh N=q_->A0 (AR 2) (BH (DM (Cp^AW^El "tuple"^AC 2)^DM (AW^AU Qb (CB C6^AD (AC 2) AQ)^wC^D.int 3)^DM (Cp^AW^AZ Hy^AE (AL^AU A7 (AC 2)^wC^D.int 2) AY)^AW^AU (NI q_) (AC 2)^AU A7 (AC 0)^wC^D.int 1) (Au^wC^D.bl r_) Av)
       {EE Pd with nx:=λn E=>(Au^CB LQ^AD (CQ [P3 1,p_] (IA^AD (AU E9 (CB C6^AD (AU A7 (AC 1)^wC^D.int 1) AQ)^wC^D.int 1) AQ) (AR 1) Ek^AU EU (AU A7 (AU A7 (AC 0)^wC^D.int 1)^AC 1)^AU A7 (AU A7 (AC 0)^wC^D.int 1)^AU A2 (AC 1)^wC^D.int 1) AQ) (EE Pd) n E} r n [.sh^enc N,.sh^.tup [x,.tup m],t]:=by
      intro r
      induction r with
      | nil=>
       intro v t e F;rw[gK]at e;subst e;let#[f,rfl,a0]:=JT F;rw[F,nE]at p;have tl:=KL f;have O:(f.map Ad).length=f.length:=No ..;refine#[_,AJ (j:=1) rfl,_,_,rfl,rfl,_,rfl,#[by lk,by lk],by rw[Gm];lk,?_];refine B0 (λe=>.bl^Z9 f e) (λE=>∃s,E=[.sh^.tup [x,.tup^f.map Ad],s]) _ _ _ _ ?_ #[_,rfl] ?_
       .rintro d J E m' nx ⟨s,rfl⟩ P
        let#[k,hk,rfl]:=Jl J;have T:k<f.length:=by lk
        have U:k+1<f.length:=by lk
        have g1:(f.map Ad)[k]?=P3 (Ad f[k]):=by rw[gM,On T];rfl
        have g2:(f.map Ad)[k+1]?=P3 (Ad f[k+1]):=by rw[gM,On U];rfl
        refine#[_,AJ (j:=1) rfl,Ad f[k],by rw[show(0+(k:Int))=((k:Nat):Int) by lk];exact AJ g1,_,AJ (j:=1) rfl,Ad f[k+1],by rw[show(0+(k:Int)+1)=((k+1:Nat):Int) by lk];exact AJ g2,?_];refine Ru (KG _ _) ?_;have M:f.getD k #["","",0]=f[k]:=by rw[gp,On T];rfl
        have e2:f.getD (k+1) #["","",0]=f[k+1]:=by rw[gp,On U];rfl
        have:=P [.sh^.tup [x,.tup^f.map Ad],.sh^.int (0+(k:Int))] #[_,rfl]
        rw[show Z9 f^.int (0+(k:Int))=A9 (CG f[k]) (CG f[k+1]) by show A9 (CG^f.getD (0+(k:Int)).toNat #["","",0])^CG^f.getD ((0+(k:Int)).toNat+1) #["","",0]=_;rw[show(0+(k:Int)).toNat=k by lk,M,e2]]at this;exact this
       .rw[gu]
        show LQ [D.lst^(EA 0 (((f.map Ad).length:Int) - 1).toNat).map λe=>D.bl^Z9 f e] λz=>Pd z n;refine Kf (l:=EA 0 (((f.map Ad).length:Int) - 1).toNat) (p:=Z9 f) ?_;rw[aO f _^by rw[O]];exact p
      | cons d r ih=>
       intro v t e F;have V:d∈m:=by rw[e];exact gA _ Op
       have q:Eh N d=r_->Pd (.bl r_) n:=λz=>by
        have:m.all^Eh N=r_:=by rw[e,List.all_append,kN,z];simp
        rw[this]at p;exact p
       have A:Eh N d=q_->∀t,A0 _ _ _ r n [.sh^enc N,.sh^.tup [x,.tup m],t]:=λz t=>ih (v++[d]) t (by rw[e,gS];rfl) (by rw[List.all_append,F,kN,z];rfl);cases d with
       | tup o=>
        by_cases C:o.length=3
        .obtain⟨a,G,c,rfl⟩:∃a b c,o=[a,b,c]:=by
          match o,C with
          |[a,b,c],_=>exact#[a,b,c,rfl]
         exists _,_,rfl,rfl,g _,g _;refine CI (λc=>absurd c^by show ¬(!E_ (.int 3) (.int 3))=q_;decide) λ_=>?_;exists _,AJ (j:=2) rfl,[_],rfl,rfl;have ld:Dw^.tup [a,G,c]:=Cd (B:=10 ^ 41) (by cbv) (fines_iff.mp Z _ V) (by have:=dps_le.mp dx _ V;lk);have H:=SV (N:=N) a G c;cases w:HP c with
         |false=>
          rw[w]at H;show if(!HP c)=q_ then _ else _
          rw[w];exact Bw^q H
         | true=>
          rw[w,nE]at H;show if(!HP c)=q_ then _ else _
          rw[w];refine Br #[_,AJ (j:=1) rfl,ld,(E7 ok λ_ h=>h).1,_,rfl,?_]
          have Q:∀b:Bool,Eh N^.tup [a,G,c]=b->(if(!b)=q_ then Pd (.bl r_) n else A0 _ _ _ r n [.sh^enc N,.sh^.tup [x,.tup m],.sh^.tup [a,G,c]]):=λb I=>by
           cases b with
           |false=>exact Bw^q I
           |true=>exact Br^A I _
          exact Q _ H
        .exists _,_,rfl,rfl,g _,g _
         have I:=q (RB λa b c e=>C^by injection e with e;rw[e];rfl);refine CI (λ_=>I) λc=>absurd ?_ c;show(!((o.length:Int)==3))=q_;rw[mP,beq_eq_false_iff_ne];lk
       |_=>exact q^RB λa b c e=>by cases e
     exact go m [] _ rfl rfl
    |_=>
     rw[En λp m e=>by cases e]at p;exact Bw p
  .exists _,_,rfl,rfl,g _,g _
   rw[En λp m e=>S^by injection e with e;rw[e];rfl]at p;refine CI (λ_=>p) λc=>absurd ?_ c;show(!((o.length:Int)==2))=q_;rw[mP,beq_eq_false_iff_ne];lk
 |_=>
  rw[En λp m e=>by cases e]at p;exact p
theorem V4{ps:s_ Str}:∀{d f:s_ Ax},d.map Ad=f.map Ad->d=f
 |[],[],_=>rfl
 |[],_::_,h=>by cases h
 |_::_,[],h=>by cases h
 | t::d,u::f,h=>by
  have k:Ad t=Ad u:=by injection h
  have l:d.map Ad=f.map Ad:=by injection h
  have e:t=u:=by
   let#[a,b,c]:=t;let#[m,o,p]:=u;injection k with e
   injection e with g e
   injection e with i e
   injection e with j _
   injection g with g
   injection i with i
   injection j with j
   subst g i j;rfl
  rw[e,V4 (ps:=ps) l]
def Uq(h:FQ ss n Pd):HB (EE Pd) n (ss++ZB 1 .no):=by
 let#[rfl,u,p]:=h;have m:=PySem.sizeLine_eq
 have a:∀z∈[D.non,.bl q_,.int 0,.int 1,.int (-1),.int 7,.str "a",.str "in",.str "",.tup [],.lst [],.tup [.str "a"],.lst [.str "a"],.tup [.str "in",.tup []],.int (10 ^ (30:Int).toNat),.tup [.str "a",.str "a"]],fine (10 ^ 35) z/\C7 z<=250/\F5 z<=2:=by
  have b:∀x∈[("a":Str),"in",""],(∀c∈cs x,c<1114112)/\x.length<=9:=by decide +kernel
  have d:fine (10 ^ 35)^.str "a":=(b _^by simp).1;have l:fine (10 ^ 35)^.str "in":=(b _^by simp).1;have v:C7^.str "a"<=9:=(b _^by simp).2;have w:C7^.str "in"<=9:=(b _^by simp).2;have e:∀i:Int,i.natAbs<=10 ^ 35->fine (10 ^ 35)^.int i:=λi h=>h;intro z f;simp only[T0,gJ,or_false]at f
  rcases f with rfl|rfl|rfl|rfl|rfl|rfl|rfl|rfl|rfl|rfl|rfl|rfl|rfl|rfl|rfl|rfl
  .exact#[trivial,f8 _,f8 _]
  .exact#[trivial,f8 _,f8 _]
  .exact#[e _^by cbv,by show 200<=_;lk,f8 _]
  .exact#[e _^by cbv,by show 200<=_;lk,f8 _]
  .exact#[e _^by cbv,by show 200<=_;lk,f8 _]
  .exact#[e _^by cbv,by show 200<=_;lk,f8 _]
  .exact#[d,by lk,f8 _]
  .exact#[l,by lk,f8 _]
  .exact#[(b ""^by simp).1,gG (b ""^by simp).2 (by lk),f8 _]
  .exact#[trivial,f8 _,by show 0+1<=_;lk]
  .exact#[trivial,f8 _,by show 0+1<=_;lk]
  .exact#[#[d,trivial],by show C7^.str "a"+1+0<=_;lk,by show max 0 0+1<=_;decide]
  .exact#[#[d,trivial],by show C7^.str "a"+1+0<=_;lk,by show max 0 0+1<=_;decide]
  .exact#[#[l,trivial,trivial],by show C7^.str "in"+1+(0+1+0)<=_;lk,by show max 0^max (0+1) 0+1<=_;decide]
  .exact#[e _^by cbv,by show 200<=_;lk,f8 _]
  .exact#[#[d,d,trivial],by show C7^.str "a"+1+(C7^.str "a"+1+0)<=_;lk,by show max 0^max 0 0+1<=_;decide]
 unfold HB;exists 1,rfl,(by cbv:0<=sizeLine),(by cbv:0<=sizeLine),(by cbv:1<=sizeLine),(by cbv:1<=sizeLine),(by cbv:0<=sizeLine),(by cbv:2<=sizeLine),#[by cbv,by cbv,by cbv],(by cbv:2<=sizeLine),(by cbv:16<=sizeLine);refine#[16,rfl,by cbv,by cbv,by lk,λr y A=>?_];obtain⟨k,rfl⟩:∃k:Nat,r=(k:Int):=#[r.toNat,by lk];have o:k<16:=by lk
 generalize g:[D.non,.bl q_,.int 0,.int 1,.int (-1),.int 7,.str "a",.str "in",.str "",.tup [],.lst [],.tup [.str "a"],.lst [.str "a"],.tup [.str "in",.tup []],.int (10 ^ (30:Int).toNat),.tup [.str "a",.str "a"]]=zs at a;have j:k<zs.length:=by rw[←g];exact o
 let#[q,s,t]:=a zs[k] (gn j);refine#[zs[k],?_,p _ q s t];subst g;exact AJ^On j
def Sk{T:W2}{j:Nat}(A:∀ss n P,j≠0->K8 (j - 1) ss n P->T ss n P)(h0:K8 j ss n Pd):F9 T (EE Pd) n (ss++ZB 3 .no):=by
 let#[d,B,i,rfl,q,hT,O,C,Q,E,hz,hn,p]:=h0;have a2:=PySem.sizeLine_eq;have F:∀m:Nat,n - 1<=m->FQ [.fd] m Pd:=λm g=>#[rfl,by lk,λe l U G=>p e _ l (by lk) (by lk)^by lk];unfold F9;refine#[9,rfl,by cbv,by cbv,by lk,λw w0 w1=>?_];cases hT with
 |s x=>
  refine CI (λc=>?_) λc=>F (n - 1) (by lk);have hl:(B.map D.str).length=B.length:=No ..;have hp:=List.length_pos_iff.mpr C;refine#[_,_,rfl,rfl,_,rfl,by lk,by lk,by lk,λr V L=>?_];let#[y,M,ey]:=YH (ps:=B) V (by lk);exists _,ey;have W:=E y M;exact p _ _ (show ∀c∈cs y,c<1114112 from λc hc=>by have:=W.2.2 c hc;lk) (by show y.length<=_;have:=W.2.1;lk) (f8 _)^by lk
 | i k=>
  have N:k.natAbs<=10 ^ 34:=O;refine CI (λc=>?_) λc=>F (n - 1) (by lk);have hw:1<w:=of_decide_eq_true c;exists#[by cbv,by cbv,by cbv],(by cbv:7<=sizeLine);obtain⟨a,X⟩:∃a:Nat,w - 2=(a:Int):=#[(w - 2).toNat,by lk];have R:a<7:=by lk
  have o:∀z∈[D.int (k+1),.int (k - 1),.bl (k==1),.int (k+10 ^ (6:Int).toNat),.int 0,.int (k - 7),.int (k+13)],fine (10 ^ 35) z/\C7 z<=200/\F5 z<=0:=by
   have e6:(10:Int) ^ (6:Int).toNat=1000000:=by cbv
   have q:∀i:Int,i.natAbs<=10 ^ 35->fine (10 ^ 35)^.int i:=λi h=>h;intro z H;simp only[T0,gJ,or_false]at H
   rcases H with rfl|rfl|rfl|rfl|rfl|rfl|rfl
   .exact#[q _^by lk,Re _,f8 _]
   .exact#[q _^by lk,Re _,f8 _]
   .exact#[trivial,f8 _,f8 _]
   .exact#[q _ (by rw[e6];lk),Re _,f8 _]
   .exact#[q _^by cbv,Re _,f8 _]
   .exact#[q _^by lk,Re _,f8 _]
   .exact#[q _^by lk,Re _,f8 _]
  generalize I:[D.int (k+1),.int (k - 1),.bl (k==1),.int (k+10 ^ (6:Int).toNat),.int 0,.int (k - 7),.int (k+13)]=zs at o;have J:a<zs.length:=by rw[←I];exact R
  let#[g1,g2,g3]:=o zs[a] (gn J);refine#[zs[a],?_,p _ _ g1 (by lk) (by lk)^by lk];subst I;rw[X];exact AJ^On J
 | t b hx=>
  have hl:=EL b;have a3:CH b<=50000:=hz;have K:(C7^.tup b)=CH b:=rfl
  have v:∀(u:s_ D),(∀y∈u,y∈b\/(fine (10 ^ 35) y/\F5 y<=F4 b+3))->CH u<=2*CH b+500->(∀m,n - (3*j+3)<=m->Pd (.tup u) m)/\∀m,n - (3*j+3)<=m->Pd (.lst u) m:=λu M Y=>by
   have l:Ea (10 ^ 35) u:=fines_iff.mpr λy h=>(M y h).elim (λh=>(fines_iff.mp O y h).mono^by cbv) And.left
   have:=dps_le.mpr λy h=>(M y h).elim (λh=>gG (dps_le.mp (Re^F4 b) y h)^me _ 3) And.right
   have G:F4 u+1<=F4 b+1+3:=by lk
   exact#[λm g=>p _ m l (by rw[K];exact Y) G g,λm g=>p _ m l (by rw[K];exact Y) G g]
  refine#[_,_,rfl,rfl,(b.length:Int)+1,rfl,by lk,by lk,by lk,λa a0 a1=>?_];have c1:=Iy b p_^P3 a;have c2:=Iy b (P3 (a+1)) p_;have c3:=Iy b (P3 a)^P3 (a+1);have c4:=Iy b (P3 a) p_;have d1:=EL^Dp.cutD b p_^P3 a;have d2:=EL^Dp.cutD b (P3 (a+1)) p_;have d3:=EL^Dp.cutD b (P3 a)^P3 (a+1);have d4:=EL^Dp.cutD b (P3 a) p_;have S:=Tg b a a0;have e1:(Dp.cutD b p_^P3 a++Dp.cutD b (P3 a)^P3 (a+1)).length=_:=XV;have f:(Ae (BH (DM (AW^AU (Ej r_) (AC 4)^wC^D.int 0)^AW^AU (Ej r_) (AC 4)^wC^D.int 4) (Au^AU A2 (HN Cg (AC 1) BD^Bn^AC 5)^HN Cg (AC 1) (Bn^AU A2 (AC 5)^wC^D.int 1) BD) Av)
 (Ae (BH (AW^AU (Ej r_) (AC 4)^wC^D.int 1) (Au^AU A2 (AU A2 (HN Cg (AC 1) BD^Bn^AC 5)^HN Cg (AC 1) (Bn^AC 5)^Bn^AU A2 (AC 5)^wC^D.int 1)^HN Cg (AC 1) (Bn^AC 5) BD) Av)
 (Ae (BH (AW^AU (Ej r_) (AC 4)^wC^D.int 2) (Au^AU A2 (AU A2 (HN Cg (AC 1) BD^Bn^AC 5)^A_^AD (AZ FQ^AE (BE 0) AY) AQ)^HN Cg (AC 1) (Bn^AC 5) BD) Av)
 (Au^AU A7 (CM^AD (CB Ho^AD (AC 1) AQ)^AD (JM^AC 1) AQ)^AZ Bt^AE (BE 0)^AE (AL^wC^D.int 2) AY)))) (EE Pd) (n - 1 - 1) [.fd,.sh^.tup b,.sh^.tup^B.map .str,.sh^.int i,.sh^.int w,.sh^.int a,.no]:=by
   have L:(∀m,n - (3*j+3)<=m->Pd (.tup (Dp.cutD b p_^P3 a++Dp.cutD b (P3 (a+1)) p_)) m):=(v _ (λy h=>.inl^(eq.mp h).elim DD DD)^by rw[B4];lk).1;refine CI (λ_=>#[by lk,L _^by lk]) λ_=>CI (λ_=>#[by lk,L _^by lk]) λ_=>?_;refine CI (λ_=>#[by lk,by lk,(v _ (λy h=>.inl^(eq.mp h).elim (λh=>(eq.mp h).elim DD DD) DD)^by rw[B4,B4];lk).1 _^by lk]) λ_=>?_;refine CI (λ_=>?_) λ_=>?_
   .refine#[rfl,by lk,λe l U G=>?_]
    have z1:CH [e]=C7 e+1+0:=rfl;have e2:(Dp.cutD b p_^P3 a++[e]).length=_:=XV;have e3:[e].length=1:=rfl;have a4:CH^Dp.cutD b p_^P3 a+CH^Dp.cutD b (P3 a) p_<=2*CH b:=by lk
    refine#[(by cbv:1<=sizeLine),by lk,by lk,(v _ (λy h=>?_)^by rw[B4,B4];lk).1 _^by lk]
    rcases eq.mp h with h|h
    .rcases eq.mp h with h|h
     .exact .inl^DD h
     .rw[Sc.mp h]
      exact .inr #[l,by lk]
    .exact .inl^DD h
   .refine#[b,rfl,(by cbv:2<=sizeLine),2,rfl,by cbv,by cbv,by lk,λr V L=>?_]
    rcases(by lk:r=0\/r=1)with rfl|rfl
    .exact#[_,AJ (j:=0) rfl,(v b (λy h=>.inl h)^by lk).2 _^by lk]
    .exact#[_,AJ (j:=1) rfl,(v b.reverse (λy h=>.inl^lA.mp h)^by rw[RD];lk).1 _^by lk]
  refine CI (λ_=>#[_,_,rfl,rfl,CI (λca=>CI (λcd=>?_) λ_=>f) λ_=>f]) λ_=>f;have X:a<(b.length:Int):=of_decide_eq_true ca;have a5:(0:Int)<(i:Int):=of_decide_eq_true cd;obtain⟨k,rfl⟩:∃k:Nat,a=(k:Int):=#[a.toNat,by lk];have N:k<b.length:=by lk
  exists b[k],AJ^On N;have g:b[k]∈b:=gn N;have a6:=RE g;refine A _ _ _ (by lk) #[b[k],B,i - 1,by rw[show(((i - 1:Nat)):Int)=(i:Int) - 1 by lk],by lk,hx _ g,fines_iff.mp O _ g,C,Q,E,by lk,by lk,λe n' l U G f4=>?_];have Z:=Za N e;have e2:(Dp.cutD b p_^P3 (k:Int)++[e]).length=_:=XV;have e3:[e].length=1:=rfl;have a7:=dps_le.mp (Re^F4 b) _ g;refine#[(by cbv:1<=sizeLine),by lk,by lk,(v _ (λy h=>?_)^by lk).1 _^by lk]
  rcases eq.mp h with h|h
  .rcases eq.mp h with h|h
   .exact .inl^DD h
   .rw[Sc.mp h]
    exact .inr #[l,by lk]
  .exact .inl^DD h
def Wx(N:Net):aX^enc N:=by
 refine .t _ λx b=>?_;simp only[T0,gJ,or_false]at b
 rcases b with rfl|rfl
 .refine .t _ λy a=>?_
  let#[z,_,rfl]:=Tk.mp a;exact .s z
 .refine .t _ λy a=>?_
  let#[t,_,rfl]:=Tk.mp a;refine .t _ λz c=>?_;simp only[T0,gJ,or_false]at c
  rcases c with rfl|rfl|rfl
  .exact .s _
  .exact .s _
  .exact .i _
end
end Nt
namespace L2
end L2
namespace Dp
open L2
end Dp
namespace Nt
open L2 Dp
def Pk{N:Net}{a c:Str}{w:s_ Str}(h:Way N a c^P3 w):∃l,walkedK 30 N a c w l/\MQ N a c l:=by
 let#[d,r,e,b,f,g,i,j]:=h;exact#[d,#[#[r,e],b,f,i,j],g]
def Qm{a:s_ Str}{x:Str}:((a.map D.str).any λy=>E_ y^.str x)=decide (x∈a):=by
 rw[iK,i8,decide_eq_true_eq];constructor
 .rintro⟨d,b,e⟩
  let#[y,c,rfl]:=Tk.mp b;rw[Ry,beq_iff_eq]at e;rw[←e];exact c
 .exact λh=>#[.str x,Tk.mpr #[x,h,rfl],by rw[Ry,beq_self_eq_true]]
def JI:W2:=λd n P=>∃(N:Net) (a c:Str) (z:D) (b:s_ Ax),d=[.br z,.sh^.str a,.sh^.str c]/\D9 z=P3^b.map Ad/\(∀u,u∈b↔u∈N.ts)/\okN N/\a∈N.ps/\c∈N.ps/\∀o,Way N a c o->P (Xb o) n
def Q1:W2:=λb n P=>∃(a:Db) (w:Str) (k:Int),b=[.ex a "NoPaper" ["word","number"] [.str w,.int k]]/\P (.tup [.str w,.int k]) n
def S_:Aa:=(Ae (BI 8^YV (AW^AU (Ej r_) (AC 5)^AU A7 (Ap 4)^wC^D.int 0) (AC 6)^YV (AW^AU (Ej r_) (AC 6)^AU A7 (Ap 4)^wC^D.int 0) (AC 5)^wC D.non)
 (BH (Em (AW^AU (GI q_) (AC 8)^wC D.non)^Em (AW^AU (GJ r_) (AC 8)^AC 3)^AW^AU (Ej r_) (AU A2 (AU BR (AC 3)^AC 8)^AC 7)^AU BR (AC 3)^AU A7 (Ap 4)^wC^D.int 0) (Ae (Ij 4 "list" aA^AD (wC^D.int 0)^AD (AC 8) AQ)
 Po) Av))
def G_:Aa:=(Ae (BI 3^AZ HJ^AE (Bu^Ap 0)^AE (AL^AC 1) AY)
 (Ae (BH (AW^AU (GJ q_) (AC 2)^AC 3) (Au^wC D.non) Av)
 (Ae (CP 4^CM^AD (AC 2) AQ)
 (Ae (GA (AW^AU (Ej q_) (AU A7 (Ap 4)^wC^D.int 0)^AC 1)^N5 0 (CF 3^AX (AR 5)^AX (AR 6)^AX (AR 7) BZ) S_)
 (Au^CB BL^AD (Ap 4) AQ)))))
def EH:Aa:=(Ae (BI 1^CM^AD (MV 0 "TooMany")^AD (MV 0 "Twice")^AD (MV 0 "NoPlace")^AD (MV 0 "NoTie") AQ)
 (Ae (BI 1^AU A2 (AC 1)^CM^AD (MV 0 "NoLine")^AD (MV 0 "NoRow")^AD (Y_^T_ 0) AQ)
 (Ae (BH (DM (AW^AU (NI r_) (wC^D.bl q_)^AC 1)^Cp^AW^MV 0 "NoPaper") (Au^wC^D.str "other") Av)
 (Au^A_^AD (dE 0 "word")^AD (dE 0 "number") AQ))))
def Js(K:Kn)(x:Str)(d:Int)(t:Ax):Prop:=(t.a=x/\∃c,K t.b=P3 c/\c+t.len=d)\/(t.a≠x/\t.b=x/\∃c,K t.a=P3 c/\c+t.len=d)
structure WI39 (N:Net) (K:Kn) (c:Str) (dc:Int) (x:Str) (r:List Str) (dx:Int):Prop where
 lst:(x::r).getLast?=P3 c
 wk:∃e,walk N (x::r) e/\dx+e=dc
 at_:K x=P3 dx
 nd:(x::r).Nodup
 far:∀y∈x::r,y∈N.ps/\∃dy,K y=P3 dy/\dx<=dy
def WI39.step{N:Net}{K:Kn}{c x y:Str}{f g a l:Int}{r:s_ Str}(I:WI39 N K c f x r g)(j:K y=P3 a)(k:y∈N.ps)(n:1<=l)(e:a+l=g)(ed:Ed N y x l):WI39 N K c f y (x::r) a:=by
 refine#[by exact I.lst,?_,j,gX.mpr #[λh=>?_,I.nd],λz b=>?_]
 .let#[m,d,i]:=I.wk
  exact#[_,#[l,m,ed,d,rfl],by lk]
 .let#[_,d',d,i]:=I.far y h
  grind
 .rcases T0.mp b with rfl|b
  .grind
  .let#[o,d',d,i]:=I.far z b
   grind
section
variable {ss:s_ Slot}{n:Nat}{Pd:D->Nat->Prop}
def Sh(h:JI ss n Pd):G_ (EE Pd) n (ss++ZB 6 .no):=by
 let#[N,a,c,z,Z,rfl,hz,E,J,ha,hc,p]:=h;have ok:=J.1;have a2:=PySem.sizeLine_eq;unfold G_;refine#[N,a,z,Z,rfl,hz,E,J,ha,λA B K Mp T=>?_];exists A,B,_,rfl,Aw c;show if(!(Bo A B^.inr c).isSome)=q_ then _ else _
 rw[Mp.at_];cases U:K c with
 |none=>exact Bw^p p_ λd hd=>T.all c d hd U
 | some L=>
  refine Br #[z1,?_];have c0:0<=L:=(T.least c L U).1.pos ok
  exists λm M ρ=>M=n/\∃(x:Str) (r:s_ Str) (i:Int) (k o s v:Slot),ρ=[.br z,.sh^.str a,.sh^.str c,.sh^.dic A B,.ow^.lst^(x::r).map .str,k,o,s,v]/\WI39 N K c L x r i/\m=i.toNat,
   #[_,rfl,c,[],L,_,_,_,_,rfl,#[rfl,#[0,rfl,by lk],U,by simp,λy O=>by rw[Sc.mp O];exact#[hc,L,U,ku _]],rfl]
  rintro m M ρ ⟨rfl,x,r,i,k,o,s,v,rfl,I,rfl⟩;have a1:(x::r).length<=N.ps.length:=MU I.nd λy O=>(I.far y O).1;have a3:=J.2.1;exists _,AJ (j:=0) rfl;show if(!(x==a))=q_ then _ else _
  cases cx:x==a with
  |true=>
   have ex:x=a:=eq_of_beq cx;subst ex;refine Br ?_;let#[e,w,F]:=I.wk;have hl:=T.least x i I.at_;have e0:i=0:=Int.le_antisymm (hl.2 0 .nil)^hl.1.pos ok
   have:e=L:=by lk
   subst this;exact p (P3 (x::r)) #[e,r,rfl,I.lst,w,T.least c e U,by lk,λy O=>(I.far y O).1]
  | false=>
   have ne:x≠a:=λz=>by rw[z,beq_self_eq_true]at cx;cases cx
   refine Bw #[λn2 zR=>∃m',m'<i.toNat/\n2=M/\∃(x:Str) (r:s_ Str) (i:Int) (k o s v:Slot),zR=[.br z,.sh^.str a,.sh^.str c,.sh^.dic A B,.ow^.lst^(x::r).map .str,k,o,s,v]/\WI39 N K c L x r i/\m'=i.toNat,λn2 zR h=>h,z,Z.map Ad,rfl,hz,?_];let#[y,g,l,P,V,e]:=WW ok T I.at_ ne
   have ed:Ed N y x l:=by
    unfold look at V;cases cc:(Do N.ts y).find? λz=>decide (z.1=x)with
    |none=>rw[cc]at V;cases V
    |some q=>
     rw[cc]at V;have e1:q.1=x:=of_decide_eq_true^lQ (p:=λz:Str×Int=>decide (z.1=x)) cc;have e2:q.2=l:=gH V;rw[←e1,←e2];exact jc cc
   have ex:∃t∈Z,Js K x i t:=by
    let#[t,Q,rfl,hj]:=ed.tie ok;have R:=(ok.tin t Q).2.2.1
    rcases hj with⟨rfl,rfl⟩|⟨rfl,rfl⟩
    .exact#[t,(E t).mpr Q,.inr #[λz=>by rw[z]at R;exact je _ R,rfl,g,P,e]]
    .exact#[t,(E t).mpr Q,.inl #[rfl,g,P,e]]
   have go:∀(f:s_ Ax) (C:E2) (k o s v:Slot),(∀t∈f,t∈N.ts)->(∃t∈f,Js K x i t)->
     (∀(y:Str) (g l:Int) (k o s v:Slot),K y=P3 g->y∈N.ps->1<=l->g+l=i->Ed N y x l->C.nx M [.br z,.sh^.str a,.sh^.str c,.sh^.dic A B,.ow^.lst^(y::x::r).map .str,k,o,s,v])->
     A0 (CF 3^AX (AR 5)^AX (AR 6)^AX (AR 7) BZ) S_ C (f.map Ad) M [.br z,.sh^.str a,.sh^.str c,.sh^.dic A B,.ow^.lst^(x::r).map .str,k,o,s,v]:=by
    intro f
    induction f with
    |nil=>intro C k o s v _ #[t,Q,_];cases Q
    | cons t f ih=>
     intro C k o s v hr hq G;have W:=hr t Op;let#[ma,mb,R,t1,t2]:=ok.tin t W;let#[d1,d2]:=Fg W
     have on:¬Js K x i t->∀k o s v,A0 (CF 3^AX (AR 5)^AX (AR 6)^AX (AR 7) BZ) S_ C (f.map Ad) M [.br z,.sh^.str a,.sh^.str c,.sh^.dic A B,.ow^.lst^(x::r).map .str,k,o,s,v]:=λhn k o s v=>by
      let#[t',S,X]:=hq
      rcases T0.mp S with rfl|S
      .exact absurd X hn
      .exact ih C _ _ _ _ (λu hu=>hr u^TM _ hu) #[t',S,X] G
     have H:∀(y:Str) (l:Int),y∈N.ps->Ed N y x t.len->(∀g,K y=P3 g->g+t.len=i->Js K x i t)->(Js K x i t->∃g,K y=P3 g/\g+t.len=i)->(BH (Em (AW^AU (GI q_) (AC 8)^wC D.non)^Em (AW^AU (GJ r_) (AC 8)^AC 3)^AW^AU (Ej r_) (AU A2 (AU BR (AC 3)^AC 8)^AC 7)^AU BR (AC 3)^AU A7 (Ap 4)^wC^D.int 0) (Ae (Ij 4 "list" aA^AD (wC^D.int 0)^AD (AC 8) AQ)
 Po) Av) {C with nx:=A0 (CF 3^AX (AR 5)^AX (AR 6)^AX (AR 7) BZ) S_ C^f.map Ad,ct:=A0 (CF 3^AX (AR 5)^AX (AR 6)^AX (AR 7) BZ) S_ C^f.map Ad,bk:=C.nx} M [.br z,.sh^.str a,.sh^.str c,.sh^.dic A B,.ow^.lst^(x::r).map .str,.sh^.str t.a,.sh^.str t.b,.sh^.int t.len,.sh^.str y]:=λy _ O a0 a4 Y=>by
      exists rfl;exists A,B,_,rfl,Aw y;show if(Bo A B^.inr y).isSome=q_ then _ else _
      rw[Mp.at_];cases P:K y with
      |none=>exact Br^Br^on (λh=>by let#[g,w,_]:=Y h;rw[P]at w;cases w) _ _ _ _
      | some g=>
       refine Bw #[A,B,_,.int g,rfl,Aw y,by rw[Mp.at_,P];rfl,_,AJ (j:=0) rfl,A,B,_,.int i,rfl,Aw x,by rw[Mp.at_,I.at_];rfl,?_];show if((g+t.len:Int)==i)=q_ then _ else _
       cases cq:(g+t.len:Int)==i with
       |false=>exact Br^on (λh=>by let#[a5,w,F]:=Y h;rw[P]at w;cases w;rw[F,beq_self_eq_true]at cq;cases cq) _ _ _ _
       |true=>
        refine Bw #[_,rfl,rfl,_,0,_,rfl,rfl,by cbv,by lk,by cbv,by rw[No];lk,?_];exact G y g t.len _ _ _ _ P O t1 (eq_of_beq cq) a0
     unfold S_;exists rfl,rfl,_,AJ (j:=0) rfl;show if(t.a==x)=q_ then _ else _
     cases ca:t.a==x with
     |true=>
      have ea:t.a=x:=eq_of_beq ca;exact Bw^H t.b t.len mb (by rw[←ea];exact d2) (λg w F=>.inl #[ea,g,w,F]) λh=>h.elim (λh=>h.2) λh=>absurd ea h.1
     | false=>
      have na:t.a≠x:=λz=>by rw[z,beq_self_eq_true]at ca;cases ca
      refine Br #[_,AJ (j:=0) rfl,?_];show if(t.b==x)=q_ then _ else _
      cases cb:t.b==x with
      |true=>
       have eb:t.b=x:=eq_of_beq cb;exact Bw^H t.a t.len ma (by rw[←eb];exact d1) (λg w F=>.inr #[na,eb,g,w,F]) λh=>h.elim (λh=>absurd h.1 na) λh=>h.2.2
      |false=>
       have nb:t.b≠x:=λz=>by rw[z,beq_self_eq_true]at cb;cases cb
       refine Br ?_;exact#[rfl,on (λh=>h.elim (λh=>na h.1) λh=>nb h.2.1) _ _ _ _]
   refine go Z _ _ _ _ _ (λt Q=>(E t).mp Q) ex λy g l k o s v w F h3 h4 h5=>?_;have y0:0<=g:=(T.least y g w).1.pos ok;exact#[g.toNat,by lk,rfl,y,x::r,g,_,_,_,_,rfl,I.step w F h3 h4 h5,rfl]
end
theorem Gz:∀(b a:s_ Ax),(BM a b).length<=a.length+b.length
 |[],a=>Re _
 |u::b,a=>by
  rw[Bh];have c:=Gz b a;have d:=Gz b (a++[u]);simp only[XV,gB,hX]at *
  split <;>lk
theorem Rh:∀(f d A B:s_ Ax) (u:Ax),f=A++u::B->Cn (d++A) u.a u.b->(BM d f).length<d.length+f.length
 |[],_,A,B,u,e,_=>by simp at e
 | v::f,d,A,B,u,e,h=>by
  rw[Bh]
  by_cases c:Cn d v.a v.b
  .rw[if_pos^cnB_iff.mpr c]
   have:=Gz f d
   simp only[gB];lk
  .rw[if_neg λz=>c^cnB_iff.mp z]
   cases A with
   |nil=>
    rw[gK]at h;cases e;exact absurd h c
   |cons w A=>
    cases e
    have:=Rh (A++u::B) (d++[v]) A B u rfl (by rw[gS];exact h)
    show(BM (d++[v]) (A++u::B)).length<d.length+(v::(A++u::B)).length;simp only[XV,gB,hX]at *;lk
theorem KQ:∀(c d:s_ Ax),(∀A u B,c=A++u::B->¬Cn (d++A) u.a u.b)->BM d c=d++c
 |[],d,_=>(gK _).symm
 |u::c,d,h=>by
  rw[Bh,if_neg λz=>h [] u c rfl (by rw[gK];exact cnB_iff.mp z),KQ c (d++[u]) λA v B e=>by rw[gS];exact h (u::A) v B^by rw[e];rfl];rw[gS];rfl
def Ac(L:s_ Ax):Prop:=∀u∈L,∀K:s_ Ax,(∀v∈K,v∈L/\v≠u)->¬Cn K u.a u.b
def Ri{L:s_ Ax}(nd:L.Nodup):(BM [] L).length<L.length↔¬Ac L:=by
 by_cases c:∀A u B,L=A++u::B->¬Cn A u.a u.b
 .have e:=KQ L [] c
  rw[e];refine#[λh=>absurd h^gv _,λh=>(h λu o K p q=>?_).elim];let#[A,B,rfl]:=l9 o
  have k:∀v∈K,v∈A++B:=λv j=>by
   let#[m,r]:=p v j
   rcases eq.mp m with m|m
   .exact gQ _ m
   .rcases T0.mp m with m|m
    .exact absurd m r
    .exact gA _ m
  let#[g,t,R2,rfl,w,C]:=Kc B A (c A u B rfl)^q.mono k;have i:=Cn.tie (K:=A++u::g) (gA _ Op:u∈A++u::g)
  have d:∀{x y:Str},Cn (A++g) x y->Cn (A++u::g) x y:=λh=>h.mono λs f=>by
   rcases eq.mp f with f|f
   .exact gQ _ f
   .exact gA _^TM _ f
  refine c (A++u::g) t R2 (by rw[gS];rfl) ?_
  rcases Cn.add (B:=A++g) (t:=t) (λs f=>by
   rcases eq.mp f with f|f
   .exact .inl f
   .exact .inr^Sc.mp f) C with h|⟨l,n⟩|⟨l,n⟩
  .exact absurd h w
  .exact((d l).symm.trans i.1).trans (d n).symm
  .exact((d n).trans i.2).trans^d l
 .let#[A,h]:=lT.mp c
  let#[u,h]:=lT.mp h;let#[B,h]:=lT.mp h;let#[e,h]:=Classical.not_imp.mp h;have h:=Classical.not_not.mp h
  have:=Rh L [] A B u e h
  refine#[λ_ z=>z u (by rw[e];exact gA _ Op) A (λv j=>#[by rw[e];exact gQ _ j,λz=>?_]) h,λ_=>by simpa using this];rw[e,gm]at nd;exact nd.2.2 v j u Op z
def L0{L a:s_ Ax}(h:L.Perm a)(nd:L.Nodup):(BM [] a).length<a.length↔(BM [] L).length<L.length:=by
 rw[Ri nd,Ri^h.nodup_iff.mp nd]
 have:Ac L↔Ac a:=by unfold Ac;simp only[h.mem_iff]
 rw[this]
noncomputable def Fl(M:Net):Bool:=decide ((BM [] M.ts).length<M.ts.length)
abbrev Wo(M:Net)(u:Ax):Net:=#[M.ps,M.ts.filter λv=>A9 (Bj v)^Bj u]
def Lo(f:s_ Ax):∃e:s_ Ax,e.Perm f/\Cj e:=by
 refine#[f.mergeSort λs t=>!A9 _ _,List.mergeSort_perm _ _,(List.pairwise_mergeSort (λa b c i g=>?_) (λa b=>?_) f).imp λh=>by simpa using h]
 .simp at i g ⊢
  cases j:A9 _ _ with
  |false=>rfl
  |true=>
   cases d:A9 _ _ with
   |true=>rw[B_ _ _ _ j d]at g;cases g
   |false=>rw[Bv _ _ d i]at j;grind
 .cases c:A9 _ _ with
  |false=>rfl
  |true=>
   cases d:A9 _ _ with
   |false=>rfl
   |true=>have:=B_ _ _ _ c d;rw[CS]at this;cases this
end Nt
namespace L2
section
variable {X:Cx}{a b e1 e2:Expr}{te:T1}{tb t u:TE}{pos p2:Pos}
def d9(te:T1)(t u:TE):T1:=λR Z H Q=>te R Z H λv c=>∃k,v=.bl k/\if k=q_ then t Z c Q else u Z c Q
def XU{f:CmpOp}{r:R2}(m:OpR X (compareOp f) r)(n:c7 X a te)(o:PE X b tb)(p:behindInMarks f b=r_)(q:PE X e1 t)(A:PE X e2 u):c7 X (.IfExp (.Compare a [f] [b] pos) e1 e2 p2)^d9 (d6 r te tb) t u:=by
 intro d s Z H Q R I h
 refine wpAny_IfExp (wpAny_isTrue_Compare1 (thn (n d s Z H _ R I h) λv B #[x,C,D,E,F]=>thn (ZH^o d B Z C _ D F) λw G #[y,H2,J,K,L]=>
  thn (ZH^m d G Z H2 x y v w _ J E K L) λc g #[z,i,j,M,k,e,l]=>?_) p)
 subst e;cases M;refine iw ?_;cases k with
 |true=>exact ZH^q d g Z i Q j l
 |false=>exact ZH^A d g Z i Q j l
end
end L2
namespace Dp
open L2
section
variable {X:Cx}{κ zO:Kd}{a b e1 e2:Expr}{pos p2:Pos}{wb u v:DW}
def bC(w:Nat->s_ Slot->(D->Nat->Prop)->PX->Prop)(u v:DW):Nat->s_ Slot->(D->Nat->Prop)->PX->Prop:=λn c P f=>w n c (λd e=>match d with
 |.bl k=>if k=q_ then u e c P else v e c P
 |_=>False) f
def X9{h:CmpOp}{r:R2}{f:D->D->(D->Prop)->Prop}{w:Nat->s_ Slot->(D->Nat->Prop)->PX->Prop}(L:OpR X (compareOp h) r)(N:Fo X.K .sh r f)(O:de X a .sh w)(S:DE X b zO wb)(T:behindInMarks h b=r_)(U:DE X e1 κ u)(W:DE X e2 κ v):de X (.IfExp (.Compare a [h] [b] pos) e1 e2 p2) κ^bC (bB f w wb) u v:=by
 let#[t,Y,a2]:=O;let#[tb,b1,b2]:=S;let#[t1,c1,c2]:=U;let#[t2,d1,i]:=W;refine#[_,XU L Y b1 T c1 d1,λC M H n g Z P Q R Pr c l w q=>?_];refine a2 C M H n g Z _ _ R Pr c l w λv H1 d n1 e1 f1 r1 p=>?_;have e:=c.step e1 f1;refine b2 C M H1 n1 g Z _ _ e p λu H2 d2 F e2 G r2 p2=>?_;have R2:=e.step e2 G;refine N C.V M H2 d d2 v u _ _ R2.dom R2.vM ((r1.tpOf c.dom c.vM).pres (e.pres e2) e2 c.uV) (r2.tpOf e.dom e.vM) p2 λz I y j r3 m=>?_;have J:=R2.step j.ext^G.grow j;have ex:=(e1.trans e2).trans j.ext;cases y with
 |bl k=>
  exists k,GZ r3;cases k with
  |true=>exact c2 C M I F g Z P Q J m λv o d s x A B E=>q v o d s (ex.trans x) A (VR.back ex B) E
  |false=>exact i C M I F g Z P Q J m λv o d s x A B E=>q v o d s (ex.trans x) A (VR.back ex B) E
 |_=>exact m.elim
end
end Dp
namespace Nt
open L2 Dp
def GN(M:Net):Nat->s_ Ax->s_ D->D
 |k,u::c,d::e=>match Tw (Wo M u) u.a u.b d with
  |.non=>Pg "way" k
  |_=>GN M (k+1) c e
 |_,_,_=>.non
noncomputable def V6(M:Net)(a:s_ Ax):D->D
 |.tup b=>if b.length=a.length then(if Fl M=q_ then Pg "round" 0 else GN M 0 a b)else Pg "shape" 0
 |_=>Pg "shape" 0
def YR(N:Net)(d p r:D):Prop:=((thinB N d=r_\/∀c,p≠.tup c)/\r=Pg "shape" 0)\/∃a b:s_ Ax,d=enc #[N.ps,a]/\thn N a/\b.Perm^E6 N a/\Cj b/\r=V6 #[N.ps,a] b p
def SE(N:Net)(d p r:D):Prop:=okN N/\N.ps.length<=24/\aN d/\NH p/\YR N d p r
def T6(N:Net)(w:s_ Str):Prop:=w≠[]/\w.length<=100/\∀x∈w,x∈N.ps
def YO(M:Net):s_ Ax->s_^s_ Str->Prop
 |[],[]=>True
 |u::c,w::d=>(∃l,walkedK 30 (Wo M u) u.a u.b w l)/\YO M c d
 |_,_=>False
def K0:W2:=λa n P=>∃M:Net,a=[.sh^enc M]/\okN M/\P (.bl^Fl M) n
def Np:W2:=λd n P=>∃N:Net,d=[.sh^enc N]/\okN N/\∀(a b:s_ Ax) (c:s_^s_ Str),a.Perm N.ts->Cj a->b.Perm^E6 N (sub N^BM [] a).ts->Cj b->YO (sub N^BM [] a) b c->P (.tup^c.map Ay) n
def Nw:WX:=λa n P b=>∃(N:Net) (d p r:D),a=[.sh^enc N,.sh d,.sh p]/\SE N d p r/\UO r P b n
def K6:W2:=λa n P=>∃(N:Net) (d p r:D),a=[.sh^enc N,.sh d,.sh p]/\SE N d p r/\P r n
abbrev Nx:W2:=K6
def Q3:W2:=λb n P=>∃(M:Net) (z d:D) (a c:Str),b=[.sh^.tup^M.ps.map .str,.br z,.sh d,.sh^.str a,.sh^.str c]/\D9 z=P3^M.ts.map Ad/\okN M/\NH d/\∀r:D,(r=.non↔Tw M a c d=.non)->P r n
def K4:W2:=λb n P=>∃(z:D) (a:s_ Ax) (u:Ax),b=[.br z,.sh^Ad u]/\D9 z=P3^a.map Ad/\a.length<=60/\P (.lst^(a.filter λv=>A9 (Bj v)^Bj u).map Ad) n
def FR:W2:=λc n P=>∃(N:Net) (a:s_ Ax),c=[.sh^enc N,.sh^enc #[N.ps,a]]/\okN N/\thn N a/\∀b:s_ Ax,b.Perm^E6 N a->Cj b->P (.lst^b.map Ad) n
def K7:W2:=λd n P=>∃(N:Net) (z:D) (a:s_ Ax) (w:s_ Str),d=[.fd,.sh^.tup^N.ps.map .str,.br z,.sh^Ay w]/\D9 z=P3^a.map Ad/\okN N/\(∀u∈a,u∈N.ts)/\a.length<=60/\w≠[]/\w.length<=30/\(∀x∈w,x∈N.ps)/\2<=n/\∀(b:s_ Str) (c:Nat),T6 N b->n - 2<=c->P (Ay b) c
def GS:W2:=λd n P=>∃(N:Net) (b:s_ Ax) (c:Bool),d=[.sh^enc N,.sh^enc #[N.ps,b],.sh^.bl c]/\okN N/\thn N b/\∀a:s_^s_ Str,a.length<=60->(∀w∈a,T6 N w)->P (.tup^a.map Ay) n
def Df(N:Net)(e:D×D):Prop:=aN e.1/\NH e.2
def N0:W2:=λf n P=>∃(N:Net) (a:s_ Ax) (b:s_^s_ Str),f=[.fd,.sh^enc N,.sh^enc #[N.ps,a],.sh^.tup^b.map Ay]/\okN N/\N.ts.length<=12/\thn N a/\b.length=(E6 N a).length/\(∀w∈b,w≠[]/\w.length<=30/\∀x∈w,x∈N.ps)/\60<=n/\∀(c:s_ (D×D)) (d:Nat),(∀e∈c,Df N e)->c.length<=40->n - 60<=d->P (.lst^c.map λe=>.tup [e.1,e.2]) d
def FG:Aa:=(Ae (BI 1^AZ Kz^AE (AL^AC 0) AY)
 (Au^CB BL^AD (CQ [P3 1,p_] (BA^AZ Pb^AE (AL^AC 0)^AE (AL^AC 1) AY) (AR 1) Ek^AZ YL^AE (AL^AZ FS^AE (AL^AC 0)^AE (AL^AC 1) AY)^AE (AL^AU A7 (AC 1)^wC^D.int 0)^AE (AL^AU A7 (AC 1)^wC^D.int 1) AY) AQ))
def cL:Aa:=(Ae (BI 6^AU BR (Ap 1)^AC 3)
 (Ae (BI 7^AU BR (Ap 1)^AC 4)
 (Ae (BH (AW^AU (Ej r_) (AC 6)^AC 7) (Au^wC^D.bl q_) Av)
 (C8 (BA^AU A7 (AC 0)^wC^D.int 0) (AR 2)^BH (AW^AU (Ej r_) (AU BR (Ap 1)^AC 2)^AC 7) (DN 1 (AC 2)^AC 6) Av))))
def F6:Aa:=(Ae (CP 1 Pn)
 (Ae (C8 (BA^AU A7 (AC 0)^wC^D.int 0) (AR 2)^DN 1 (AC 2)^AC 2)
 (Ae (C8 (BA^AU A7 (AC 0)^wC^D.int 1) (CF 3^AX (AR 3)^AX (AR 4)^AX (AR 5) BZ) cL)
 (Au^wC^D.bl r_))))
def b_(a:PX):Aa:=(BH (AW^AU (GI r_) (AZ Wi^AE (AL^AZ FS^AE (AL^AC 1)^AE (AL^AC 4) AY)^AE (AL^AU A7 (AC 4)^wC^D.int 0)^AE (AL^AU A7 (AC 4)^wC^D.int 1)^AE (AL^AU A7 (AC 2)^AC 3) AY)^wC D.non) (λb=>(MW "NoPaper" ["word","number"]^AD (wC^D.str "way")^AD (AC 3) AQ) b a) Av)
def D4(a:PX):Aa:=(Ae (BH (DM (Cp^AW^AZ MO^AE (AL^AC 0)^AE (AL^AC 1) AY)^Cp^AW^AZ HI^AE (AL^CB C6^AD (AZ Pb^AE (AL^AC 0)^AE (AL^AC 1) AY) AQ)^AE (AL^AC 2) AY) (λb=>(MW "NoPaper" ["word","number"]^AD (wC^D.str "shape")^AD (wC^D.int 0) AQ) b a) Av)
 (Ae (BH (AW^AZ K0^AE (AL^AC 1) AY) (λb=>(MW "NoPaper" ["word","number"]^AD (wC^D.str "round")^AD (wC^D.int 0) AQ) b a) Av)
 (Ae (C8 (YX^AZ Pb^AE (AL^AC 0)^AE (AL^AC 1) AY) (CF 2^AX (AR 3)^AX (AR 4) BZ)^b_ a)
 (Au^wC^D.bl q_))))
def cB:Aa:=(Ae (UA 5 (A_^AD (AC 6)^AD (AC 7) AQ)^AC 8)
 (UA 5 (A_^AD (AC 7)^AD (AC 6) AQ)^AC 8))
def cA:Aa:=(Ae (BH (AW^AU (cQ q_) (A_^AD (AC 6)^AD (AC 7) AQ)^Ap 5) (Au^wC D.non) Av)
 (BI 9^AU A2 (AC 9)^AU Vw (Ap 5)^A_^AD (AC 6)^AD (AC 7) AQ))
def HD:Aa:=(Ae (BH (DM (Cp^AW^El "tuple"^AC 2)^AW^AU (Ej r_) (CB C6^AD (AC 2) AQ)^wC^D.int 0) (Au^wC D.non) Av)
 (Ae (BH (DM (Cp^AW^CB LQ^AD (CQ [P3 0,p_] (BA^AC 2) (AR 1) Ek^Pp (El "str"^AC 1)^AU (NI r_) (AC 1)^AC 0) AQ)^DM (AW^AU (Ej q_) (AU A7 (AC 2)^wC^D.int 0)^AC 3)^AW^AU (Ej q_) (AU A7 (AC 2)^Pl^wC^D.int 1)^AC 4) (Au^wC D.non) Av)
 (Ae (CP 5 UG)
 (Ae (N5 1 (CF 3^AX (AR 6)^AX (AR 7)^AX (AR 8) BZ) cB)
 (Ae (BI 9^wC^D.int 0)
 (Ae (C8 (T9^AD (AC 2)^AD (HN Cg (AC 2) (Bn^wC^D.int 1) BD) AQ) (CF 2^AX (AR 6)^AX (AR 7) BZ) cA)
 (Au^AC 9)))))))
def Zu:Aa:=(BH (AW^AU (NI r_) (AU A7 (AC 3)^AC 4)^A_^AD (AC 6)^AD (AC 7) AQ) (Ij 5 "list" Dy^AD (YV (AW^AU (Ej r_) (AU A7 (AC 3)^AC 4)^AC 6) (AC 7)^AC 6) AQ) Av)
def Ee:Aa:=(Ae (BI 4^AZ Bt^AE (BE 0)^AE (AL^CB C6^AD (AC 3) AQ) AY)
 (Ae (CP 5^CM AQ)
 (Ae (N5 2 (CF 3^AX (AR 6)^AX (AR 7)^AX (AR 8) BZ) Zu)
 (Ae (BH (AW^AU aB (Ap 5)^CM AQ) (Au^AC 3) Av)
 (Au^AU A2 (AU A2 (HN Cg (AC 3) BD^Bn^AU A2 (AC 4)^wC^D.int 1)^A_^AD (AU A7 (Ap 5)^AZ Bt^AE (BE 0)^AE (AL^CB C6^AD (Ap 5) AQ) AY) AQ)^HN Cg (AC 3) (Bn^AC 4) BD)))))
def FK:Aa:=(Au^CQ [P3 1,p_] (BA^Ap 0) (AR 1) (AW^AU EU (A_^AD (AU A7 (AC 1)^wC^D.int 2)^AD (AU A7 (AC 1)^wC^D.int 0)^AD (AU A7 (AC 1)^wC^D.int 1) AQ)^A_^AD (AU A7 (AC 0)^wC^D.int 2)^AD (AU A7 (AC 0)^wC^D.int 0)^AD (AU A7 (AC 0)^wC^D.int 1) AQ)^AC 1)
def F8:Aa:=(Au^CQ [P3 1,p_] (BA^AZ FP^AE (AL^AU A7 (AC 0)^wC^D.int 1) AY) (AR 1) (AW^AU (NI q_) (AC 1)^AU A7 (AC 0)^wC^D.int 1)^AC 1)
def cG:Aa:=(Ae (BI 5^AU A7 (AC 3)^AC 4)
 (BH (AW^AU (GI r_) (AZ Q3^AE (AL^AU A7 (AC 0)^wC^D.int 0)^AE (Bu^AZ K4^AE (Bu^AU A7 (AC 1)^wC^D.int 1)^AE (AL^AC 5) AY)^AE (AL^AU A7 (AC 2)^AC 4)^AE (AL^AU A7 (AC 5)^wC^D.int 0)^AE (AL^AU A7 (AC 5)^wC^D.int 1) AY)^wC D.non) (Au^A_^AD (wC^D.str "way")^AD (AC 4) AQ) Av))
def HE:Aa:=(Ae (BH (DM (Cp^AW^AZ MO^AE (AL^AC 0)^AE (AL^AC 1) AY)^Cp^AW^El "tuple"^AC 2) (Au^A_^AD (wC^D.str "shape")^AD (wC^D.int 0) AQ) Av)
 (Ae (BI 3^AZ FR^AE (AL^AC 0)^AE (AL^AC 1) AY)
 (Ae (BH (AW^AU (Ej q_) (CB C6^AD (AC 2) AQ)^CB C6^AD (AC 3) AQ) (Au^A_^AD (wC^D.str "shape")^AD (wC^D.int 0) AQ) Av)
 (Ae (BH (AW^AU EU (CB C6^AD (AU A7 (AZ Kz^AE (AL^AC 1) AY)^wC^D.int 1) AQ)^CB C6^AD (AU A7 (AC 1)^wC^D.int 1) AQ) (Au^A_^AD (wC^D.str "round")^AD (wC^D.int 0) AQ) Av)
 (Ae (C8 (IA^AD (CB C6^AD (AC 3) AQ) AQ) (AR 4) cG)
 (Au^wC D.non))))))
def NY:Aa:=(Ae (BI 3^wC^D.str "other")
 (Ae (bA (YU 3^bC (bB (Z_ r_) (UH Nw^AE (AL^AC 0)^AE (AL^AC 1)^AE (AL^AC 2) AY)^wC^D.bl q_) (wC D.non)^wC^D.str "other")
 (UD "ThinError" 4 (λa=>(BI 3^UI a 4 Q1^AE (UK 4) AY))
 UC))
 (Au^AC 3)))
def Va:Aa:=(Ae (BI 5^YV (AW^AC 2) (AZ K4^AE (Bu^AU A7 (AC 1)^wC^D.int 1)^AE (AL^AC 4) AY)^AU A7 (AC 1)^wC^D.int 1)
 (Ae (BI 6^AZ JI^AE (Bu^AC 5)^AE (AL^AU A7 (AC 4)^wC^D.int 0)^AE (AL^AU A7 (AC 4)^wC^D.int 1) AY)
 (Ij 3 "list" Dy^AD (YV (AW^AU (GI r_) (AC 6)^wC D.non) (A_^AD (AU A7 (AC 4)^wC^D.int 0)^AD (AU A7 (AC 4)^wC^D.int 1) AQ)^AC 6) AQ)))
def HA:Aa:=(Ae (CP 3^CM AQ)
 (Ae (C8 (BA^AZ FR^AE (AL^AC 0)^AE (AL^AC 1) AY) (AR 4) Va)
 (Au^CB BL^AD (Ap 3) AQ)))
def cF:Aa:=(Ij 4 "list" Dy^AD (A_^AD (AC 2)^AD (AU A2 (AU A2 (HN Cg (AC 3) BD^Bn^AC 5)^A_^AD (AC 10) AQ)^HN Cg (AC 3) (Bn^AU A2 (AC 5)^wC^D.int 1) BD) AQ) AQ)
def cE:Aa:=(Ae (Ij 4 "list" Dy^AD (A_^AD (AC 13)^AD (AZ GS^AE (AL^AC 1)^AE (AL^AC 13)^AE (AL^wC^D.bl q_) AY) AQ) AQ)
 (Ij 4 "list" Dy^AD (A_^AD (AC 13)^AD (AZ GS^AE (AL^AC 1)^AE (AL^AC 13)^AE (AL^wC^D.bl r_) AY) AQ) AQ))
def Zv:Aa:=(Ae (BI 12^CM^AD (AZ Q4^AE (BE 0)^AE (AL^AC 1) AY)^AD (AC 1)^AD (A_^AD (AU A7 (AC 1)^wC^D.int 0)^AD (AZ Nu^AE (BE 0)^AE (AL^AU A7 (AC 1)^wC^D.int 1) AY) AQ)^AD (A_^AD (AU A7 (AC 1)^wC^D.int 0)^AD (HN Cg (AU A7 (AC 2)^wC^D.int 1) (Bn^wC^D.int 1) BD) AQ) AQ)
 (Ae (C8 (BA^AC 12) (AR 13) cE)
 (JN 4)))
def eK:Aa:=(Ae (BI 11^A_^AD (AU A7 (AC 1)^wC^D.int 0)^AD (CB BL^AD (CB Cf^AD (AU A2 (AU A7 (AC 2)^wC^D.int 1)^A_^AD (AC 6) AQ) AQ) AQ) AQ)
 (Ae (Ij 4 "list" Dy^AD (A_^AD (AC 11)^AD (AU A2 (HN Cg (AC 3) BD^Bn^AC 5)^HN Cg (AC 3) (Bn^AU A2 (AC 5)^wC^D.int 1) BD) AQ) AQ)
 (Ij 4 "list" Dy^AD (A_^AD (AC 11)^AD (AZ GS^AE (AL^AC 1)^AE (AL^AC 11)^AE (AL^wC^D.bl q_) AY) AQ) AQ)))
def Ec:Aa:=(Ae (CP 4^CM^AD (A_^AD (AC 2)^AD (AC 3) AQ)^AD (A_^AD (AC 2)^AD (AZ GS^AE (AL^AC 1)^AE (AL^AC 2)^AE (AL^wC^D.bl q_) AY) AQ)^AD (A_^AD (AC 2)^AD (AZ GS^AE (AL^AC 1)^AE (AL^AC 2)^AE (AL^wC^D.bl r_) AY) AQ)^AD (A_^AD (AC 2)^AD (Y9 (AC 3)^Pl^wC^D.int 1) AQ) AQ)
 (Ae (BH (AW^AU Qb (AC 3)^A_ AQ) (Ae (BI 5^AZ Bt^AE (BE 0)^AE (AL^CB C6^AD (AC 3) AQ) AY)
 (Ae (BI 6^AU A7 (AZ FR^AE (AL^AC 1)^AE (AL^AC 2) AY)^AC 5)
 (Ae (BI 7^AZ K7^AE (BE 0)^AE (AL^AU A7 (AC 1)^wC^D.int 0)^AE (Bu^AZ K4^AE (Bu^AU A7 (AC 2)^wC^D.int 1)^AE (AL^AC 6) AY)^AE (AL^AU A7 (AC 3)^AC 5) AY)
 (Ae (BI 8^AZ K7^AE (BE 0)^AE (AL^AU A7 (AC 1)^wC^D.int 0)^AE (Bu^AU A7 (AC 1)^wC^D.int 1)^AE (AL^AU A7 (AC 3)^AC 5) AY)
 (Ae (BI 9^AZ K7^AE (BE 0)^AE (AL^AU A7 (AC 1)^wC^D.int 0)^AE (Bu^AU A7 (AC 2)^wC^D.int 1)^AE (AL^AU A7 (AC 3)^AC 5) AY)
 (Ae (C8 (BA^CM^AD (AC 7)^AD (AC 8)^AD (AC 9)^AD (Y9 (AC 7)^Pl^wC^D.int 1)^AD (HN Cg (AC 7) BD^Bn^Pl^wC^D.int 1)^AD (CB Ho^AD (AC 7) AQ)^AD (A_^AD (AU A7 (AC 6)^wC^D.int 0)^AD (AU A7 (AC 6)^wC^D.int 1) AQ) AQ) (AR 10) cF)
 eK)))))) Av)
 Zv))
def Zx:Aa:=(BH (AW^AU (Ej q_) (CB Vy^AD (AZ Nx^AE (AL^AC 2)^AE (AL^AC 7)^AE (AL^AC 8) AY) AQ)^CB Vy^AD (AZ K6^AE (AL^AC 2)^AE (AL^AC 7)^AE (AL^AC 8) AY) AQ) (Au^wC^D.bl r_) Av)
def Zw:Aa:=(Ae (Ij 5 "list" Dy^AD (A_^AD (AC 3)^AD (AZ (K8 4)^AE (BE 1)^AE (AL^AC 4)^AE (AL^AU A7 (AC 2)^wC^D.int 0)^AE (AL^wC^D.int 2) AY) AQ) AQ)
 (BH (AW^AU EU (AC 6)^wC^D.int 3) (Ij 5 "list" Dy^AD (A_^AD (AZ (K8 4)^AE (BE 1)^AE (AL^AC 3)^AE (AL^AU A7 (AC 2)^wC^D.int 0)^AE (AL^wC^D.int 3) AY)^AD (AC 4) AQ) AQ) Av))
def Xn:Aa:=(Ae (YW 5 (CF 2^AX (AR 7)^AX (AR 8) BZ) Zx)
 (Au^wC^D.bl q_))
def MK:Aa:=(Ae (BI 2^AZ Q2^AE (BE 1)^AE (AL^wC^D.int 7)^AE (AL^wC^D.int 12) AY)
 (Ae (BI 3^AZ Kz^AE (AL^AC 2) AY)
 (Ae (BI 4^AZ Np^AE (AL^AC 2) AY)
 (Ae (BH (DM (AW^AU (GI q_) (AZ K6^AE (AL^AC 2)^AE (AL^AC 3)^AE (AL^AC 4) AY)^wC D.non)^AW^AU (GI q_) (AZ Nx^AE (AL^AC 2)^AE (AL^AC 3)^AE (AL^AC 4) AY)^wC D.non) (Au^wC^D.bl r_) Av)
 (Ae (CP 5^AU cU (AZ N0^AE (BE 1)^AE (AL^AC 2)^AE (AL^AC 3)^AE (AL^AC 4) AY)^CM^AD (A_^AD (AC 3)^AD (AZ FQ^AE (BE 1) AY) AQ)^AD (A_^AD (AZ FQ^AE (BE 1) AY)^AD (AC 4) AQ) AQ)
 (Ae (C8 (IA^AD (wC^D.int 6) AQ) (AR 6) Zw)
 Xn))))))
section
variable {ss:s_ Slot}{n:Nat}{Pd:D->Nat->Prop}
def Ue{z:D}{b:s_ D}{P:s_ D->Nat->Prop}{i:Nat}{c:s_ Slot}(h:c[i]?=P3^.br z)(a:D9 z=P3 b)(p:P b n):BA (Ap i) n c P:=by
 unfold BA Ap;rw[h];cases z with
 |lst _=>cases a;exact p
 |tup _=>cases a;exact p
 |_=>cases a
def Ut(h:K4 ss n Pd):FK (EF Pd) n (ss++ZB 0 .no):=by
 let#[z,a,u,rfl,f,g,p]:=h;unfold FK Au CQ;refine Ue (z:=z) rfl f ?_;refine#[by rw[No];lk,?_];refine DR (λd=>match d with|.tup [.str x,.str y,.int l]=>A9 [.inl l,.inr x,.inr y]^Bj u|_=>r_) id (λb=>∃s,b=[.sh^Ad u,s]) _ _ _ _ ?_ #[_,rfl] ?_
 .rintro d i b m q r ⟨s,rfl⟩ k o
  let#[v,t,rfl]:=Tk.mp i;exists _,AJ (j:=2) rfl,_,AJ (j:=0) rfl,_,AJ (j:=1) rfl,z3,_,AJ (j:=2) rfl,_,AJ (j:=0) rfl,_,AJ (j:=1) rfl,z3,Bj v,Bj u,rfl,rfl,rfl;rw[Lx];show if A9 (Bj v) (Bj u)=q_ then _ else _
  exact CI (λc=>k _ #[_,rfl] c) λc=>o _ #[_,rfl]^h9.mpr c
 .rw[gu,ln]
  have e:(a.map Ad).filter (λd=>match d with|.tup [.str x,.str y,.int l]=>A9 [.inl l,.inr x,.inr y]^Bj u|_=>r_)=(a.filter λv=>A9 (Bj v)^Bj u).map Ad:=by
   rw[kR];rfl
  rw[e];exact p
def P8(h:FR ss n Pd):F8 (EF Pd) n (ss++ZB 0 .no):=by
 let#[N,b,rfl,a,k,p]:=h;have l:=a.2.2;unfold F8;refine#[_,AJ (j:=1) rfl,_,N.ts,rfl,rfl,by lk,λf g o=>?_];have w:=g.length_eq;refine#[by rw[No];lk,?_];refine DR (λd=>!((b.map Ad).any λy=>E_ y d)) id (λi=>∃s,i=[.sh^enc #[N.ps,b],s]) _ _ _ _ ?_ #[_,rfl] ?_
 .rintro d q i m x z ⟨s,rfl⟩ r u
  let#[t,v,rfl]:=Tk.mp q;exists _,AJ (j:=1) rfl,Rf a.1^g.mem_iff.mp v,(E7 a.1 k.1).1,_,rfl;exact CI (λc=>r _ #[_,rfl] c) λc=>u _ #[_,rfl]^h9.mpr c
 .rw[gu,ln]
  have e:(f.map Ad).filter (λd=>!((b.map Ad).any λy=>E_ y d))=(f.filter λt=>decide (t∉b)).map Ad:=by
   rw[kR]
   congr 1
   refine List.filter_congr λt _=>?_;show(!((b.map Ad).any λy=>E_ y^Ad t))=decide (t∉b);rw[Na,decide_not]
  rw[e];exact p _ (g.filter _)^o.filter _
end
def X1{N:Net}{a b:s_ Ax}(h:enc #[N.ps,a]=enc #[N.ps,b]):a=b:=by
 unfold enc at h;injection h with h
 injection h with _ h
 injection h with h
 injection h with h
 exact V4 (ps:=N.ps) h
def Rl{N:Net}{a b:s_ Ax}{p r:D}(c:thn N a)(d:b.Perm^E6 N a)(f:Cj b)(h:YR N (enc #[N.ps,a]) p r):r=V6 #[N.ps,a] b p:=by
 rcases h with⟨h|h,rfl⟩|⟨m,g,e,i,j,k,rfl⟩
 .rw[c.thinB]at h;cases h
 .cases p with
  |tup l=>exact absurd rfl (h l)
  |_=>rfl
 .cases X1 e
  rw[Dl (j.trans d.symm) k f]
def Xr(N:Net)(d p:D):∃r,YR N d p r:=by
 cases c:thinB N d with
 |false=>exact#[_,.inl #[.inl c,rfl]]
 |true=>
  let#[a,rfl,b]:=thinB_iff.mp c;let#[e,f,g]:=Lo^E6 N a;exact#[_,.inr #[a,e,rfl,b,f,g,rfl]]
def Ku{M:Net}(a:okN M)(u:Ax):okN^Wo M u:=#[Py a.1 (λv b=>(ia.mp b).1)^a.1.trise.filter _,a.2.1,gG (gs _ _) a.2.2]
theorem R0(M:Net):∀(a:s_ Ax) (b:s_ D) (k:Nat),GN M k a b=.non\/∃j,GN M k a b=Pg "way" j/\j<=k+a.length
 |[],_,_=>.inl rfl
 |_::_,[],_=>.inl rfl
 | u::a,d::b,k=>by
  unfold GN
  split
  .exact .inr #[k,rfl,by lk]
  .rcases R0 M a b (k+1)with h|⟨j,h,c⟩
   .exact .inl h
   .exact .inr #[j,h,by rw[gB];lk]
def Rm{N:Net}(a:okN N){d p r:D}(h:YR N d p r):r=.non\/∃w k,r=Pg w k/\(w="way"\/w="round"\/w="shape")/\k<=60:=by
 rcases h with⟨_,rfl⟩|⟨b,c,_,_,e,_,rfl⟩
 .exact .inr #[_,0,rfl,.inr (.inr rfl),by lk]
 .have:=e.length_eq
  have:=gs (λt=>decide (t∉b)) N.ts
  have:=a.2.2
  unfold E6 at *;unfold V6
  split
  .split
   .split
    .exact .inr #[_,0,rfl,.inr (.inl rfl),by lk]
    .rcases R0 #[N.ps,b] c _ 0 with h|⟨j,h,f⟩
     .exact .inl h
     .exact .inr #[_,j,h,.inl rfl,by lk]
   .exact .inr #[_,0,rfl,.inr (.inr rfl),by lk]
  .exact .inr #[_,0,rfl,.inr (.inr rfl),by lk]
section
variable {ss:s_ Slot}{n:Nat}{Pd:D->Nat->Prop}{Pr:PX}
def Si(h:Nw ss n Pd Pr):D4 Pr (EE Pd) n (ss++ZB 2 .no):=by
 let#[N,d,p,r,rfl,#[g,B,#[M,O,P],Q,I],q]:=h;have C:=g.2.2;unfold D4;exists N,d,rfl,g.1,B,C,M,O,P;show if(!thinB N d)=q_ then _ else _
 cases c:thinB N d with
 | false=>
  have e:r=Pg "shape" 0:=by
   rcases I with⟨_,e⟩|⟨f,l,rfl,s,_⟩
   .exact e
   .rw[s.thinB]at c;cases c
  subst e;exact Bw^.inr #[rfl,rfl,q]
 | true =>
  let#[f,rfl,s]:=thinB_iff.mp c;have s:thn N f:=s;have v:=s.okN g;refine Br #[N,f,rfl,g.1,by lk,s.1,λl J K=>#[_,_,rfl,rfl,?_]];exists _,_,rfl;rw[Rl s J K I]at q;show if(!(tupleOfB ((l.map Ad).length:Int) p))=q_ then _ else _
  rw[No];cases p with
  | tup k=>
   have q:UO (if k.length=l.length then(if Fl #[N.ps,f]=q_ then Pg "round" 0 else GN #[N.ps,f] 0 l k)else Pg "shape" 0) Pd Pr n:=q;show if(!((k.length:Int)==(l.length:Int)))=q_ then _ else _
   by_cases A:k.length=l.length
   .rw [if_pos A]at q
    rw[show((k.length:Int)==(l.length:Int))=q_ by rw[A];exact beq_self_eq_true _];refine Br #[#[N.ps,f],rfl,v,?_];show if Fl #[N.ps,f]=q_ then _ else _
    by_cases L:Fl #[N.ps,f]=q_
    .rw[if_pos L]at q ⊢
     exact .inr #[rfl,rfl,q]
    rw[if_neg L]at q ⊢;refine#[N,f,rfl,g.1,by lk,s.1,λR S T=>#[_,rfl,?_]];rw[Dl (S.trans J.symm) T K]
    have U:∀(y:s_ Ax) (t m:s_ D) (E F:Slot),t++m=k->m.length=y.length->UO (GN #[N.ps,f] t.length y m) Pd Pr n->
      A0 (CF 2^AX (AR 3)^AX (AR 4) BZ) (b_ Pr) {EE Pd with nx:=Au (wC^D.bl q_)^EE Pd} (F3 t.length^y.map Ad) n [.sh^enc N,.sh^enc #[N.ps,f],.sh^.tup k,E,F]:=by
     intro y
     induction y with
     |nil=>intro t m E F _ i o;cases m with
      |nil=>exact o
      |cons _ _=>cases i
     | cons u y V=>
      intro t m E F e i o
      match m,i,o with
      | w::m,i,o=>
       have z:k[t.length]?=P3 w:=by rw[←e,iW^Re _,mh];rfl
       unfold GN at o;exists rfl,rfl,#[N.ps,f],u,rfl,v,_,AJ (j:=0) rfl,_,AJ (j:=1) rfl,_,AJ z,Wo #[N.ps,f] u,u.a,u.b,w,rfl,Ku v u,NG Q^iV z
       rcases Ly (Wo #[N.ps,f] u) u.a u.b w with H|⟨x,H⟩
       .rw[H]at o ⊢
        exact#[rfl,.inr #[rfl,rfl,o]]
       .rw[H]at o ⊢
        have:=V (t++[w]) m (.sh^.int (t.length:Int)) (.sh^Ad u) (by rw[gS];exact e)^Nat.succ.inj i
        rw[XV,gD]at this;exact#[rfl,this o]
    exact U l [] k _ _ rfl A q
   .rw[if_neg A]at q
    rw[show((k.length:Int)==(l.length:Int))=r_ by rw[beq_eq_false_iff_ne];lk];exact Bw^.inr #[rfl,rfl,q]
  |_=>exact Bw^.inr #[rfl,rfl,q]
def Uu(h:K6 ss n Pd):HE (EE Pd) n (ss++ZB 3 .no):=by
 let#[N,d,p,r,rfl,#[o,J,#[X,Y,Z],fp,R],q]:=h;have K:=o.2.2;have a0:=PySem.sizeLine_eq;unfold HE;exists N,d,rfl,o.1,J,K,X,Y,Z;show if(!thinB N d)=q_ then _ else _
 cases c:thinB N d with
 | false=>
  have e:r=Pg "shape" 0:=by
   rcases R with⟨_,e⟩|⟨f,g,rfl,B,_⟩
   .exact e
   .rw[B.thinB]at c;cases c
  subst e;exact Bw #[z2,q]
 | true =>
  let#[f,rfl,B]:=thinB_iff.mp c;have B:thn N f:=B;have s:=B.okN o;let#[g,L,S]:=Lo^E6 N f;rw[Rl B L S R]at q;cases p with
  | tup v=>
   refine Br #[N,f,rfl,o,B,λa1 p3 p4=>?_];rw[Dl (p3.trans L.symm) p4 S];have q:Pd (if v.length=g.length then(if Fl #[N.ps,f]=q_ then Pg "round" 0 else GN #[N.ps,f] 0 g v)else Pg "shape" 0) n:=q;exists _,_,rfl,rfl,_,_,rfl,rfl;show if(!((v.length:Int)==((g.map Ad).length:Int)))=q_ then _ else _
   rw[No]
   by_cases H:v.length=g.length
   .rw [if_pos H]at q
    rw[H,beq_self_eq_true];refine Br #[#[N.ps,f],rfl,s,λi I o2=>?_];have T:=BC B.2;have k:∀t∈BM [] i,t∈f:=λt h=>I.mem_iff.mp (by simpa using E8 t h);exists _,AJ (j:=1) rfl,_,_,rfl,rfl,_,AJ (j:=1) rfl,_,_,rfl,rfl;have el:(sub #[N.ps,f]^BM [] i).ts.length=(BM [] i).length:=(OC s.1 k^ES^by rw[gu];exact I.nodup_iff.mpr T).length_eq;show if decide (((((sub #[N.ps,f]^BM [] i).ts.map Ad).length:Nat):Int)<(((f.map Ad).length:Nat):Int))=q_ then _ else _
    have er:decide (((((sub #[N.ps,f]^BM [] i).ts.map Ad).length:Nat):Int)<(((f.map Ad).length:Nat):Int))=Fl #[N.ps,f]:=by
     unfold Fl;rw[No,No,el,decide_eq_decide]
     have:=L0 I.symm T
     have:=I.length_eq
     show _↔(BM [] f).length<f.length
     dsimp only at *
     omega
    rw[er]
    by_cases U:Fl #[N.ps,f]=q_
    .rw[if_pos U]at q ⊢
     exact#[z2,q]
    rw[if_neg U]at q ⊢
    have a2:g.length<=60:=by
     have:=L.length_eq
     have:=gs (λt=>decide (t∉f)) N.ts
     unfold E6 at *;lk
    refine#[_,_,rfl,rfl,_,rfl,by rw[No];lk,?_];rw[No,jX]
    have go:∀(y:s_ Ax) (C:s_ Ax) (m A:s_ D) (M O:Slot),C++y=g->m++A=v->m.length=C.length->A.length=y.length->Pd (GN #[N.ps,f] m.length y A) n->
      A0 (AR 4) cG {EE Pd with nx:=Au (wC D.non)^EE Pd} (EA (m.length:Int) y.length) n [.sh^enc N,.sh^enc #[N.ps,f],.sh^.tup v,.sh^.lst^g.map Ad,M,O]:=by
     intro y
     induction y with
     |nil=>intro C m A M O _ _ _ l k;cases A with
      |nil=>exact k
      |cons _ _=>cases l
     | cons u y ih=>
      intro C m A M O V e E l k
      match A,l,k with
      | w::A,l,k=>
       have F:v[m.length]?=P3 w:=by rw[←e,iW^Re _,mh];rfl
       have Q:(g.map Ad)[m.length]?=P3^Ad u:=by rw[gM,←V,E,iW^Re _,mh];rfl
       rw[show(u::y).length=y.length+1 from rfl,Ui];unfold GN at k;exists _,AJ Q;refine#[_,AJ (j:=0) rfl,_,AJ (j:=1) rfl,_,f,u,rfl,rfl,s.2.2,_,AJ F,_,AJ (j:=0) rfl,_,AJ (j:=1) rfl,Wo #[N.ps,f] u,_,w,u.a,u.b,rfl,rfl,Ku s u,NG fp^iV F,λr W=>?_]
       rcases Ly (Wo #[N.ps,f] u) u.a u.b w with G|⟨x,G⟩
       .rw[W.mpr G]
        rw[G]at k;exact#[rfl,z2,k]
       .rw[G]at k
        have:=ih (C++[u]) (m++[w]) A (.sh^.int (m.length:Int)) (.sh^Ad u) (by rw[gS];exact V) (by rw[gS];exact e) (by simp[E])^Nat.succ.inj l
        rw[XV,gD]at this;have nn:r≠.non:=λz=>by have:=W.mp z;rw[G]at this;cases this
        cases r with
        |non=>exact absurd rfl nn
        |_=>exact#[rfl,this k]
    exact go g [] [] v _ _ rfl rfl rfl H q
   .rw[if_neg H]at q
    rw[show((v.length:Int)==(g.length:Int))=r_ by rw[beq_eq_false_iff_ne];lk];exact Bw #[z2,q]
  |_=>exact Br #[z2,q]
def Ur(h:Nx ss n Pd):NY (EE Pd) n (ss++ZB 2 .no):=by
 let#[N,d,p,r,rfl,b,q]:=h;exists N,d,p,r,rfl,b
 rcases Rm b.1 b.2.2.2.2 with rfl|⟨w,k,rfl,_⟩
 .exact q
 .exact λa=>#[#[_,_,_,rfl],a,w,k,rfl,q]
end
section
variable {ss:s_ Slot}{n:Nat}{Pd:D->Nat->Prop}
def P6(h:K0 ss n Pd):F6 (EE Pd) n (ss++ZB 7 .no):=by
 let#[M,rfl,q,p]:=h;have ok:=q.1;unfold F6;exists _,AJ (j:=0) rfl;refine HZ q M.ps [] [] [] (λ_=>p_) _ rfl #[#[rfl,λx=>rfl,λk U=>(by cases U),gl],λx f=>absurd rfl f] (λx f=>by cases f) λg l F B s o=>?_;exists _,AJ (j:=1) rfl
 have V:∀(d done:s_ Ax) (g:s_ Key) (l:s_ D) (F:Str->t_ Str) (B H I J K L:Slot),done++d=M.ts->Pcs M g l F->(∀x∈M.ps,F x≠p_)->(∀x∈M.ps,∀y∈M.ps,F x=F y↔Cn done x y)->BM [] M.ts=BM done d->
   A0 (CF 3^AX (AR 3)^AX (AR 4)^AX (AR 5) BZ) cL {EE Pd with nx:=Au (wC^D.bl r_)^EE Pd} (d.map Ad) n [.sh^enc M,.ow^.dic g l,B,H,I,J,K,L]:=by
  intro d
  induction d with
  | nil=>
   intro done g l F B H I J K L e s o _ r;rw[gK]at e
   have N:Fl M=r_:=by
    unfold Fl;rw[r,←e];exact decide_eq_false^gv _
   rw[N]at p;exact p
  | cons u d X=>
   intro done g l F B H I J K L e s o O r;have Y:u∈M.ts:=by rw[←e];exact gA _ Op
   let#[C,E,_]:=ok.tin u Y;rw[Bh]at r;cases v:F u.a with
   |none=>exact absurd v^o _ C
   | some x=>
    cases A:F u.b with
    |none=>exact absurd A^o _ E
    | some y=>
     refine#[rfl,rfl,g,l,_,.str x,rfl,Aw u.a,by rw[s.m.at_,v];rfl,?_];refine#[g,l,_,.str y,rfl,Aw u.b,by rw[s.m.at_,A];rfl,?_];show if(x==y)=q_ then _ else _
     by_cases c:x=y
     .rw[c,beq_self_eq_true]
      have P:Cn done u.a u.b:=(O _ C _ E).mp (by rw[v,A,c]);rw[if_pos^cnB_iff.mpr P]at r
      have N:Fl M=q_:=by
       unfold Fl
       have:=Gz d done
       rw[r];refine decide_eq_true ?_
       have:=congrArg jy e
       simp only[XV,gB]at this;lk
      rw[N]at p;exact Bw p
     .have P:¬Cn done u.a u.b:=λz=>c^gH^by rw[←v,←A];exact(O _ C _ E).mpr z
      rw[if_neg λz=>P^cnB_iff.mp z]at r;rw[beq_eq_false_iff_ne.mpr c];refine Br #[_,AJ (j:=0) rfl,?_];refine EO q (F:=F) (i:=3) (j:=4) rfl rfl M.ps [] g l F _ rfl s o (λx f=>by cases f) (λx _=>rfl) λQ R G Z hG S=>?_;refine X (done++[u]) Q R G _ _ _ _ _ _ (by rw[gS];exact e) hG (λw T=>?_) (RA C E v A c O S) r;rw[S w T];unfold IB
      split
      .exact λz=>by cases z
      .exact o w T
 refine V M.ts [] g l F _ _ _ _ _ _ rfl s (λx f=>by rw[o x f];exact λz=>by cases z) (λx f y hy=>?_) rfl;rw[o x f,o y hy];constructor
 .intro h
  rw[gH h];exact .refl
 .intro h
  cases h with
  |refl=>rfl
  |step _ e=>let#[t,ht,_]:=e;cases ht
end
theorem KP:∀(A B a:s_ Ax),BM a (A++B)=BM (BM a A) B
 |[],_,_=>rfl
 |u::A,B,a=>by
  rw[List.cons_append,Bh,Bh]
  split <;>exact KP A B _
theorem Gy:∀(a b:s_ Ax) (v:Ax),v∈b->v∈BM b a
 |[],_,_,h=>h
 |u::a,b,v,h=>by
  rw[Bh]
  split
  .exact Gy a _ v h
  .exact Gy a _ v^gQ _ h
def QW{N:Net}(f:okN N){d:s_ Ax}(g:d.Perm N.ts)(m:Cj d){u:Ax}(n:u∈E6 N (sub N^BM [] d).ts):Cn (Wo (sub N^BM [] d) u).ts u.a u.b:=by
 let#[k,h]:=ia.mp n;have h:u∉(sub N^BM [] d).ts:=of_decide_eq_true h;have o:d.Nodup:=g.nodup_iff.mpr^BC f.1.trise;have i:u∉BM [] d:=λz=>h^sub_mem.mpr #[k,z];let#[A,B,rfl]:=l9^g.mem_iff.mpr k;let#[_,r,p]:=gm.mp o;let#[_,s,q]:=List.pairwise_append.mp m;rw[KP,Bh]at i
 by_cases c:Cn (BM [] A) u.a u.b
 .refine c.mono λv l=>?_
  have j:v∈A:=(E8 (rest:=A) v l).elim (λz=>absurd z gJ) id;refine ia.mpr #[sub_mem.mpr #[g.mem_iff.mp^gQ _ j,by rw[KP];exact Gy _ _ v l],?_];cases e:A9 (Bj v)^Bj u with
  |true=>rfl
  |false=>exact absurd (OM^Bv _ _ e^q v j u Op)^p v j u Op
 .rw[if_neg λz=>c^cnB_iff.mp z]at i
  exact absurd (Gy B _ u^gA _ Op) i
section
variable {ss:s_ Slot}{n:Nat}{Pd:D->Nat->Prop}
def Sf(h:Np ss n Pd):FG (EE Pd) n (ss++ZB 1 .no):=by
 let#[N,rfl,f,p]:=h;have x:=f.2.2;unfold FG;refine#[N,rfl,f,λe z A=>?_];have B:thn N (sub N^BM [] e).ts:=#[λt h=>(sub_mem.mp h).1,f.1.trise.filter _];have m:okN^sub N^BM [] e:=B.okN f;refine#[N,(sub N^BM [] e).ts,rfl,f.1,by lk,B.1,λr y F=>?_];have G:r.length<=60:=by rw[y.length_eq];exact gG (gs _ _) x
 exists by rw[No];lk
 have H:∀(P:s_ D->Nat->Prop) (c:s_ Ax) (g:s_ D) (s:Slot),(∀u∈c,u∈r)->(∀k,YO (sub N^BM [] e) c k->P (g++k.map Ay) n)->
   E4 (AR 1) Ek (AZ YL^AE (AL^AZ FS^AE (AL^AC 0)^AE (AL^AC 1) AY)^AE (AL^AU A7 (AC 1)^wC^D.int 0)^AE (AL^AU A7 (AC 1)^wC^D.int 1) AY) P (c.map Ad) g n [.sh^enc^sub N^BM [] e,s]:=by
  intro P c
  induction c with
  |nil=>
   intro g s _ h
   have:=h [] trivial
   rw[nN,gK]at this;exact this
  | cons u c I=>
   intro g s C h;have q:=y.mem_iff.mp^C u Op;let#[J,K,_]:=f.1.tin u (ia.mp q).1;refine#[sub N^BM [] e,u,rfl,m,_,AJ (j:=0) rfl,_,AJ (j:=1) rfl,Wo (sub N^BM [] e) u,u.a,u.b,rfl,Ku m u,J,K,λo E=>?_];cases o with
   |none=>
    let#[d,L]:=(QW f z A q).wk;exact absurd L^E d
   |some w=>
    refine I (g++[Ay w]) _ (λv M=>C v^TM _ M) λk i=>?_;let#[l,O,_]:=Pk E;rw[gS];exact h (w::k) #[#[l,O],i]
 exact H _ r [] _ (λu h=>h) λk i=>p e r k z A y F i
end
def RG:2<=sizeLine:=by cbv
structure Led (done:List Ax) (ks:List^List Key) (ds:List D):Prop where
 len:ks.length=ds.length
 le:ks.length<=2*done.length
 at1:∀u∈done,Bs ks ds [.inr u.a,.inr u.b]=P3 (.int u.len)
 at2:∀u∈done,Bs ks ds [.inr u.b,.inr u.a]=P3^.int u.len
def HW{ks:s_^s_ Key}{k:s_ Key}:(B8 ks k).length<=ks.length+1:=by
 unfold B8
 split
 .lk
 .rw[XV];exact Re _
def Led.put{M:Net}(ok:M.Ok){done:s_ Ax}{v:Ax}{ks:s_^s_ Key}{n:s_ D}(h:Led done ks n)(hd:∀u∈done,u∈M.ts)(j:v∈M.ts):
  Led (done++[v]) (B8 (B8 ks [.inr v.a,.inr v.b]) [.inr v.b,.inr v.a]) (CD (B8 ks [.inr v.a,.inr v.b]) (CD ks n [.inr v.a,.inr v.b]^.int v.len) [.inr v.b,.inr v.a]^.int v.len):=by
 have m:=Gq (k:=[.inr v.a,.inr v.b]) (d:=D.int v.len) h.len;have lt:∀u∈M.ts,cs u.a<cs u.b:=λu c=>(ok.tin u c).2.2.1
 have f:∀{x y z w:Str},([.inr x,.inr y]:s_ Key)=[.inr z,.inr w]->x=z/\y=w:=λe=>by
  have:=List.cons.inj e
  exact#[jA this.1,jA (List.cons.inj this.2).1]
 refine#[Gq m,?_,λu c=>?_,λu c=>?_]
 .have:=h.le
  have a:=HW (ks:=ks) (k:=[.inr v.a,.inr v.b]);have b:=HW (ks:=B8 ks [.inr v.a,.inr v.b]) (k:=[.inr v.b,.inr v.a]);rw[XV,gD];lk
 .have l:u∈M.ts:=by rcases eq.mp c with c|c;exact hd u c;rw[Sc.mp c];exact j
  rw[DJ m,DJ h.len]
  split
  .rename_i e
   let#[g,i]:=f e
   have:=lt u l
   rw[g,i]at this;exact absurd (Std.lt_trans this^lt v j)^DL _
  .split
   .rename_i e
    let#[g,i]:=f e;rw[FZ ok.trise u l v j g i]
   .rename_i e
    rcases eq.mp c with c|c
    .exact h.at1 u c
    .exact absurd (by rw[Sc.mp c]) e
 .have l:u∈M.ts:=by rcases eq.mp c with c|c;exact hd u c;rw[Sc.mp c];exact j
  rw[DJ m,DJ h.len]
  split
  .rename_i e
   let#[g,i]:=f e;rw[FZ ok.trise u l v j i g]
  .rename_i o
   split
   .rename_i e
    let#[g,i]:=f e
    have:=lt u l
    rw[g,i]at this;exact absurd (Std.lt_trans this^lt v j)^DL _
   .rcases eq.mp c with c|c
    .exact h.at2 u c
    .exact absurd (by rw[Sc.mp c]) o
def Led.ed{M:Net}(ok:M.Ok){a:s_^s_ Key}{b:s_ D}(h:Led M.ts a b){x y:Str}{l:Int}(e:Ed M x y l):Bs a b [.inr x,.inr y]=P3^.int l:=by
 obtain⟨u,c,rfl,⟨rfl,rfl⟩|⟨rfl,rfl⟩⟩:=e.tie ok
 .exact h.at1 u c
 .exact h.at2 u c
def NoLed(done:s_ Ax)(c:s_^s_ Key)(e:s_ D):Prop:=∀x y d,Bs c e [.inr x,.inr y]=P3 d->∃u∈done,(u.a=x/\u.b=y)\/(u.b=x/\u.a=y)
def NoLed.put{done:s_ Ax}{v:Ax}{c:s_^s_ Key}{f:s_ D}(l:c.length=f.length)(h:NoLed done c f):
  NoLed (done++[v]) (B8 (B8 c [.inr v.a,.inr v.b]) [.inr v.b,.inr v.a]) (CD (B8 c [.inr v.a,.inr v.b]) (CD c f [.inr v.a,.inr v.b]^.int v.len) [.inr v.b,.inr v.a]^.int v.len):=λx y d e=>by
 rw[DJ^Gq l,DJ l]at e
 split at e
 .rename_i z
  exact#[v,by simp,.inr^by simp_all]
 .split at e
  .exact#[v,by simp,.inl^by simp_all]
  .let#[u,g,h]:=h x y d e
   exact#[u,gQ _ g,h]
def TJ{M:Net}{x y:Str}{l:Int}(h:look M.ts x y=P3 l):(y,l)∈Do M.ts x:=by
 unfold look at h;cases c:(Do M.ts x).find? λz=>decide (z.1=y)with
 |none=>rw[c]at h;cases h
 |some z=>
  rw[c]at h;have a:=lQ c;have b:=jc c;simp at h a;rw[←a,←h];exact b
def Vd{M:Net}(ok:M.Ok){a:s_^s_ Key}{b:s_ D}(h:Led M.ts a b)(g:NoLed M.ts a b)(x y:Str):Bs a b [.inr x,.inr y]=(look M.ts x y).map .int:=by
 cases e:Bs a b [.inr x,.inr y]with
 | none=>
  cases i:look M.ts x y with
  |none=>rfl
  |some l=>
   have:=h.ed ok (show Ed M x y l from TJ i)
   rw[e]at this;cases this
 | some d=>
  let#[u,c,j]:=g x y d e
  have f:Ed M x y u.len:=by
   rcases j with⟨rfl,rfl⟩|⟨rfl,rfl⟩
   .exact(Fg c).1
   .exact(Fg c).2
  have:=h.ed ok f
  rw[NA ok f,←e,this];rfl
theorem Rc{M:Net}(ok:M.Ok):∀{r:s_ Str}{x:Str}{s l:Int},DV M.ts x r s=P3 l->∀y∈r,y∈M.ps
 |[],_,_,_,_,y,h=>by cases h
 | z::r,x,s,l,e,y,h=>by
  unfold DV at e;cases a:look M.ts x z with
  |none=>rw[a]at e;cases e
  |some k=>
   rw[a]at e
   rcases T0.mp h with rfl|h
   .exact(Oh ok a).1
   .exact Rc ok e y h
def au(M:Net):D->Bool
 |.str x=>decide (x∈M.ps)
 |_=>r_
theorem L6{M:Net}:∀{a:s_ D},a.all^au M=q_->∃w:s_ Str,a=w.map .str/\∀x∈w,x∈M.ps
 |[],_=>#[[],rfl,nofun]
 |d::a,h=>by
  rw[kN,gP]at h;let#[w,rfl,b]:=L6 h.2;cases d with
  |str x=>exact#[x::w,rfl,λy c=>(T0.mp c).elim (λe=>e▸of_decide_eq_true h.1)^b y]
  |_=>cases h.1
def Xl{M:Net}(ok:M.Ok){b:s_ D}(h:¬b.all^au M=q_):KH M^.tup b=.non:=by
 rcases Lv M^.tup b with e|⟨x,r,l,e,a⟩
 .exact e
 .refine absurd ?_ h
  injection e with e
  subst e;rw[show KH M^.tup^(x::r).map .str=if x∈M.ps then Jm^DV M.ts x r 0 else .non by show(if((x::r).map _).all _ then QV M _ else .non)=_;rw[if_pos^all_strs _,B7];rfl]at a
  split at a
  .rename_i g
   cases f:DV M.ts x r 0 with
   |none=>rw[f]at a;cases a
   |some k=>
    refine i7.mpr λd i=>?_;let#[y,c,rfl]:=Tk.mp i;refine decide_eq_true ?_
    rcases T0.mp c with rfl|c
    .exact g
    .exact Rc ok f y c
  .cases a
section
variable {ss:s_ Slot}{n:Nat}{Pd:D->Nat->Prop}
def Us(h:Q3 ss n Pd):HD (EE Pd) n (ss++ZB 5 .no):=by
 let#[M,z,d,a,c,rfl,hz,F,fd,p]:=h;have ok:=F.1;have a0:=F.2.2;unfold HD;cases d with
 | tup H =>
  exists _,_,rfl,rfl;cases H with
  |nil=>exact p _ #[λ_=>rfl,λ_=>rfl]
  | cons I o=>
   have pn:KH M^.tup (I::o)=.non->Pd .non n:=λe=>p _ #[λ_=>by unfold Tw;rw[e],λ_=>rfl]
   have J:(I::o).length<=10000000:=by
    have:=JC (I::o)
    have:CH (I::o)<=160000:=fd.2.1
    omega
   generalize U:I::o=H at *;refine CI (λz=>?_) λ_=>?_
   .have:=congrArg jy U
    have z:((H.length:Int)==0)=q_:=z;simp at this z;rw[z]at this;cases this
   exists J;refine B0 (λd=>.bl^au M d) (λV=>∃s,V=[.sh^.tup^M.ps.map .str,s]) _ _ _ _ ?_ #[_,rfl] ?_
   .rintro d P V m nx ⟨s,rfl⟩ K
    have W:=NG fd P;cases d with
    |str x=>
     exists Cd (B:=10 ^ 40) (by cbv) W.1 (by have:=W.2.2;lk),Fb ok.names,_,rfl;show nx (.bl^(M.ps.map D.str).any λy=>E_ y^.str x) m _;rw[Qm];exact K _ #[_,rfl]
    |_=>exact K _ #[_,rfl]
   rw[gu]
   delta AQ
   dsimp only
   refine Kf (p:=au M) ?_;show if(!(H.all^au M))=q_ then _ else _
   by_cases i:H.all^au M=q_
   .rw [i]
    let#[w,rfl,hw]:=L6 i;cases w with
    |nil=>cases U
    | cons x r=>
     have hs:UW^Ay (x::r)=x::r:=B7 _;obtain⟨y,X⟩:∃y,(x::r).getLast?=P3 y:=#[_,lV^by simp]
     have eb:Tw M a c^Ay (x::r)=if(x==a&&y==c)=q_ then Jm^DV M.ts x r 0 else .non:=by
      unfold Tw;rw[show KH M^Ay (x::r)=if x∈M.ps then Jm^DV M.ts x r 0 else .non by show(if((x::r).map _).all _ then QV M _ else .non)=_;rw[if_pos^all_strs _,B7];rfl,if_pos^hw x Op,hs,X]
      have:((x::r).head?==P3 a&&P3 y==P3 c)=(x==a&&y==c):=by rw[lR];rfl
      rw[this];cases DV M.ts x r 0 with
      |none=>show D.non=_;split <;>rfl
      |some l=>rfl
     have p:∀t:D,(t=.non↔(if(x==a&&y==c)=q_ then Jm^DV M.ts x r 0 else .non)=.non)->Pd t n:=λt h=>p t (by rw[eb];exact h);refine Br #[_,AJ (j:=0) rfl,?_];show if(!(x==a))=q_ then _ else _
     cases Y:x==a with
     |false=>rw[Y]at p;exact Bw^p _ #[λ_=>rfl,λ_=>rfl]
     | true=>
      rw[Y]at p;refine Br #[1,rfl,.str y,Rg X,?_];show if(!(y==c))=q_ then _ else _
      cases Z:y==c with
      |false=>rw[Z]at p;exact Bw^p _ #[λ_=>rfl,λ_=>rfl]
      | true=>
       rw[Z]at p;have p:∀t:D,(t=.non↔Jm^DV M.ts x r 0=.non)->Pd t n:=p;refine Br #[z,_,rfl,hz,?_]
       have go:∀(f done:s_ Ax) (ks:s_^s_ Key) (g:s_ D) (A C E:Slot) (N:E2),done++f=M.ts->Led done ks g->NoLed done ks g->
         (∀ks g A C E,Led M.ts ks g->NoLed M.ts ks g->N.nx n [.sh^.tup^M.ps.map .str,.br z,.sh^Ay (x::r),.sh^.str a,.sh^.str c,.ow^.dit ks g,A,C,E,.no])->
         A0 (CF 3^AX (AR 6)^AX (AR 7)^AX (AR 8) BZ) cB N (f.map Ad) n [.sh^.tup^M.ps.map .str,.br z,.sh^Ay (x::r),.sh^.str a,.sh^.str c,.ow^.dit ks g,A,C,E,.no]:=by
        intro f
        induction f with
        |nil=>intro done ks g A C E N e L G h;rw[gK]at e;subst e;exact h _ _ _ _ _ L G
        |cons u f Q=>
         intro done ks g A C E N e L G h;have hu:u∈M.ts:=by rw[←e];exact gA _ Op
         have P:∀v∈done,v∈M.ts:=λv R=>by rw[←e];exact gQ _ R
         have dl:done.length+f.length+1=M.ts.length:=by rw[←e,XV,gB];lk
         have k1:=L.le;have k2:=HW (ks:=ks) (k:=[.inr u.a,.inr u.b]);refine#[rfl,rfl,ks,g,rfl,RG,[.inr u.a,.inr u.b],rfl,by rw[gz];lk,_,_,rfl,RG,[.inr u.b,.inr u.a],rfl,by rw[gz];lk,?_];exact Q (done++[u]) _ _ _ _ _ N (by rw[gS];exact e) (L.put ok P hu) (G.put L.len) h
       refine go M.ts [] [] [] _ _ _ _ rfl #[rfl,Re _,nofun,nofun] (λ_ _ _ h=>by cases h) λks g A C E L G=>?_;have O:=Vd ok L G;exists _,_,_,((x::r).map D.str).drop 1,rfl,rfl,by rw[WK];rfl
       have S:∀(r:s_ Str) (x:Str) (q:Int) (T A C:Slot),(∀t:D,(t=.non↔Jm^DV M.ts x r q=.non)->Pd t n)->
         A0 (CF 2^AX (AR 6)^AX (AR 7) BZ) cA {EE Pd with nx:=Au (AC 9)^EE Pd} (Ds ((x::r).map D.str)^r.map D.str) n [.sh^.tup^M.ps.map .str,.br z,T,.sh^.str a,.sh^.str c,.ow^.dit ks g,A,C,E,.sh^.int q]:=by
        intro r
        induction r with
        |nil=>intro x q T A C p;exact p _ #[(λh=>by cases h),λh=>by cases h]
        | cons y r Q=>
         intro x q T A C p;unfold DV at p;exists rfl,rfl,RG,ks,g,_,rfl,rfl;show if(!(Bs ks g [.inr x,.inr y]).isSome)=q_ then _ else _
         rw[O];cases e:look M.ts x y with
         |none=>
          rw[e]at p;exact Bw^p _ #[λ_=>rfl,λ_=>rfl]
         |some l=>
          rw[e]at p;have R:Bs ks g [.inr x,.inr y]=P3^.int l:=by rw[O,e];rfl
          refine Br #[RG,ks,g,_,_,rfl,rfl,R,?_];exact Q y (q+l) _ _ _ p
       exact S r x 0 _ _ _ p
   .rw[h9.mpr i]
    exact Bw^pn^Xl ok i
 |_=>exact p _ #[λ_=>rfl,λ_=>rfl]
end
section
variable {ss:s_ Slot}{n:Nat}{Pd:D->Nat->Prop}
def Uo(h:GS ss n Pd):HA (EE Pd) n (ss++ZB 4 .no):=by
 let#[N,i,c,rfl,g,K,p]:=h;have k:=K.okN g;have y:=g.2.2;have P:=PySem.sizeLine_eq;unfold HA;refine#[z0,N,i,rfl,g,K,λL O X=>?_];have A:L.length<=60:=by rw[O.length_eq];exact gG (gs _ _) y
 have Q:∀(d:s_ Ax) (e:s_^s_ Str) (B C r:Slot),(∀u∈d,u∈N.ts)->e.length+d.length<=60->(∀w∈e,T6 N w)->
   A0 (AR 4) Va {EE Pd with nx:=Au (CB BL^AD (Ap 3) AQ)^EE Pd} (d.map Ad) n [.sh^enc N,.sh^enc #[N.ps,i],.sh^.bl c,.ow^.lst^e.map Ay,B,C,r]:=by
  intro d
  induction d with
  |nil=>intro e B C r _ E F;exact p e (by simpa using E) F
  | cons u d R=>
   intro e B C r s E F;let#[S,T,_]:=g.1.tin u^s u Op;rw[gB]at E
   have m:∀(z:D) (M:Net),M.ps=N.ps->okN M->D9 z=P3^M.ts.map Ad->Ae (BI 6^AZ JI^AE (Bu^AC 5)^AE (AL^AU A7 (AC 4)^wC^D.int 0)^AE (AL^AU A7 (AC 4)^wC^D.int 1) AY)
     (Ij 3 "list" Dy^AD (YV (AW^AU (GI r_) (AC 6)^wC D.non) (A_^AD (AU A7 (AC 4)^wC^D.int 0)^AD (AU A7 (AC 4)^wC^D.int 1) AQ)^AC 6) AQ)
     {EE Pd with nx:=A0 (AR 4) Va {EE Pd with nx:=Au (CB BL^AD (Ap 3) AQ)^EE Pd}^d.map Ad,ct:=A0 (AR 4) Va {EE Pd with nx:=Au (CB BL^AD (Ap 3) AQ)^EE Pd}^d.map Ad,bk:=Au (CB BL^AD (Ap 3) AQ)^EE Pd} n
     [.sh^enc N,.sh^enc #[N.ps,i],.sh^.bl c,.ow^.lst^e.map Ay,.sh^Ad u,.sh z,r]:=λz M G H U=>by
    refine#[_,AJ (j:=0) rfl,_,AJ (j:=1) rfl,M,u.a,u.b,z,M.ts,rfl,U,λ_=>Iff.rfl,H,by rw[G];exact S,by rw[G];exact T,λo V=>?_]
    have q:∀w:s_ Str,T6 N w->A0 (AR 4) Va {EE Pd with nx:=Au (CB BL^AD (Ap 3) AQ)^EE Pd} (d.map Ad) n [.sh^enc N,.sh^enc #[N.ps,i],.sh^.bl c,.ow^.lst (e.map Ay++[Ay w]),.sh^Ad u,.sh z,.sh^Xb o]:=λw W=>by
     have:=R (e++[w]) (.sh^Ad u) (.sh z) (.sh^Xb o) (λv l=>s v^TM _ l) (by rw[XV,gD];lk) (λv l=>by
      rcases eq.mp l with l|l
      .exact F v l
      .rw[Sc.mp l];exact W)
     rw[gU]at this;exact this
    cases o with
    |none=>
     refine#[_,rfl,rfl,rfl,_,AJ (j:=0) rfl,_,AJ (j:=1) rfl,z2,_,_,rfl,rfl,by rw[No];lk,?_];exact q [u.a,u.b] #[nofun,by simp,λx t=>by simp at t;rcases t with rfl|rfl <;>assumption]
    |some w=>
     refine#[_,rfl,rfl,rfl,_,_,rfl,rfl,by rw[No];lk,?_];let#[_,_,rfl,_,_,_,I,J]:=V;exact q _ #[nofun,gG I^by cbv,λx t=>by rw[←G];exact J x t]
   cases c with
   |true=>exact#[_,AJ (j:=1) rfl,_,i,u,rfl,rfl,k.2.2,m _ (Wo #[N.ps,i] u) rfl (Ku k u) rfl]
   |false=>exact#[_,AJ (j:=1) rfl,m _ #[N.ps,i] rfl k rfl]
 exact Q L [] _ _ _ (λu s=>(ia.mp^O.mem_iff.mp s).1) (by simpa using A) nofun
def Uv(h:K7 ss n Pd):Ee (EE Pd) n (ss++ZB 5 .no):=by
 let#[N,z,T,w,rfl,U,G,H,I,O,V,f,hn,p]:=h;have ok:=G.1;have wl:1<=w.length:=List.length_pos_iff.mpr O;have W:=PySem.sizeLine_eq;unfold Ee;refine#[_,_,rfl,rfl,_,rfl,by rw[No];lk,by rw[No];lk,by lk,λr r0 X=>?_];rw[No]at X;obtain⟨k,rfl⟩:∃k:Nat,r=k:=#[r.toNat,by lk];have P:k<w.length:=by lk
 have m:(w.map D.str)[k]?=P3 (.str w[k]):=by rw[gM,On P];rfl
 have e:w[k]∈N.ps:=f _^gn P;generalize w[k]=x at m e;exists z0,z,_,rfl,U
 have Y:∀(F:E2) (d:s_ Ax) (c:s_ Str) (o q s:Slot),(∀(c:s_ Str) (o q s:Slot),c.length<=60->(∀y∈c,y∈N.ps)->F.nx (n - 1) [.fd,.sh^.tup^N.ps.map .str,.br z,.sh^Ay w,.sh^.int k,.ow^.lst^c.map .str,o,q,s])->(∀u∈d,u∈N.ts)->c.length+d.length<=60->(∀y∈c,y∈N.ps)->
   A0 (CF 3^AX (AR 6)^AX (AR 7)^AX (AR 8) BZ) Zu F (d.map Ad) (n - 1) [.fd,.sh^.tup^N.ps.map .str,.br z,.sh^Ay w,.sh^.int k,.ow^.lst^c.map .str,o,q,s]:=by
  intro F d
  induction d with
  |nil=>intro c o q s h _ C i;exact h c _ _ _ (by simpa using C) i
  | cons u d Q=>
   intro c o q s h J C i;rw[gB]at C;let#[Z,m2,_]:=ok.tin u^J u Op
   have step:∀y∈N.ps,A0 (CF 3^AX (AR 6)^AX (AR 7)^AX (AR 8) BZ) Zu F (d.map Ad) (n - 1) [.fd,.sh^.tup^N.ps.map .str,.br z,.sh^Ay w,.sh^.int k,.ow^.lst (c.map .str++[.str y]),.sh^.str u.a,.sh^.str u.b,.sh^.int u.len]:=λy t=>by
    have:=Q (c++[y]) (.sh^.str u.a) (.sh^.str u.b) (.sh^.int u.len) h (λv g=>J v^TM _ g) (by rw[XV,gD];lk) (λv g=>by
     rcases eq.mp g with g|g
     .exact i v g
     .rw[Sc.mp g];exact t)
    rw[gU]at this;exact this
   exists rfl,rfl,_,AJ m,z2,KO^ok.names x e,Fb (ps:=[u.a,u.b]) λy t=>by simp at t;rcases t with rfl|rfl <;>exact ok.names _^by assumption,_,rfl;refine CI (λ_=>?_) λ_=>Q c _ _ _ h (λv g=>J v^TM _ g) (by lk) i;exists _,rfl,rfl,_,AJ m;exact CI (λ_=>#[_,_,rfl,rfl,by rw[No];lk,step _ m2]) λ_=>#[_,_,rfl,rfl,by rw[No];lk,step _ Z]
 refine Y _ T [] _ _ _ (λc o q s C i=>?_) H (by simpa using I) nofun
 have K:=IV λy t=>ok.names y^i y t;exists z0,#[K.1,K.2.1,by show iS _+1<=100;rw[K.2.2];decide],Cd (B:=0) (by cbv) trivial (by cbv);show if(E_ (.lst^c.map .str)^.lst [])=q_ then _ else _
 rw[V1];cases c with
 |nil=>exact p w _ #[O,by lk,f]^by lk
 | cons y c=>
  refine Br ?_;exists _,_,rfl,rfl;have h1:1<=(y::c).length:=by simp
  generalize y::c=as at C i h1;refine#[_,rfl,by rw[No];lk,by rw[No];lk,by lk,λR h0 h2=>?_];rw[No]at h2;obtain⟨j,rfl⟩:∃j:Nat,R=j:=#[R.toNat,by lk];have S:j<as.length:=by lk
  have l:(as.map D.str)[j]?=P3 (.str as[j]):=by rw[gM,On S];rfl
  have E:as[j]∈N.ps:=i _^gn S;generalize as[j]=v at l E;exists _,AJ l,z1;have e1:Dp.cutD (w.map D.str) p_^P3 ((k:Int)+1)=(Dp.cutD w p_^P3 ((k:Int)+1)).map D.str:=NS ..;have e2:Dp.cutD (w.map D.str) (P3 (k:Int)) p_=(Dp.cutD w (P3 (k:Int)) p_).map D.str:=NS ..;have L:=DC w p_^P3 ((k:Int)+1);have M:=DC w (P3 (k:Int)) p_;show(Dp.cutD (w.map D.str) p_^P3 ((k:Int)+1)).length+1<=sizeLine/\(Dp.cutD (w.map D.str) p_^P3 ((k:Int)+1)++[D.str v]).length+(Dp.cutD (w.map D.str) (P3 (k:Int)) p_).length<=sizeLine/\Pd (.tup (Dp.cutD (w.map D.str) p_^P3 ((k:Int)+1)++[D.str v]++Dp.cutD (w.map D.str) (P3 (k:Int)) p_)) (n - 1 - 1);rw[e1,e2];generalize Dp.cutD w p_^P3 ((k:Int)+1)=A at L;generalize Dp.cutD w (P3 (k:Int)) p_=B at M;have l1:=L.length_le;have l2:=M.length_le;refine#[by rw[No];lk,by simp only[XV,No,gD];lk,?_];rw[show A.map D.str++[D.str v]++B.map D.str=(A++[v]++B).map D.str by simp];refine p _ _ #[by simp,by simp only[XV,gD];lk,λx e=>?_]^by lk
  rcases eq.mp e with e|e
  .rcases eq.mp e with e|e
   .exact f x^L.subset e
   .rw[Sc.mp e];exact E
  .exact f x^M.subset e
end
def EN(N:Net)(d:D):Prop:=∃w:s_ Str,(d=Ay w\/d=.lst^w.map .str)/\w.length<=100/\∀x∈w,x∈N.ps
def Uh{N:Net}(ok:N.Ok){d:D}(h:EN N d):fine (10 ^ 34) d/\C7 d<=900/\F5 d<=1:=by
 let#[w,e,g,f]:=h;let#[a,b,c]:=Ld (B:=10 ^ 34) ok f
 rcases e with rfl|rfl
 .exact#[a,by show CH _<=900;lk,by show F4 _+1<=1;lk]
 .exact#[a,by show CH _<=900;lk,by show F4 _+1<=1;lk]
theorem Fa{N:Net}(ok:N.Ok):∀{f:s_ D},(∀d∈f,EN N d)->Ea (10 ^ 34) f/\CH f<=901*f.length/\F4 f<=1
 |[],_=>#[trivial,Re _,f8 _]
 | d::f,h=>by
  let#[a,b,c]:=Uh ok^h d Op;let#[g,j,k]:=Fa ok λe i=>h e^TM _ i;exists#[a,g],?_
  .show C7 d+1+CH f<=_
   rw[gB];lk
  .show max (F5 d)^F4 f<=1
   omega
def DK{N:Net}(ok:N.Ok){e:s_ D}(h:∀d∈e,EN N d)(f:e.length<=60):NH^.tup e:=by
 let#[a,b,c]:=Fa ok h;exact#[fine.mono (d:=.tup e) a^by cbv,by show CH e<=160000;lk,by show F4 e+1<=50;lk]
def Fj{N:Net}(d:okN N){e:s_ Ax}(f:thn N e):aN^enc #[N.ps,e]:=by
 let#[a,b,c]:=UT^f.okN d;exact#[a.mono^by cbv,by lk,by lk]
def pr2(e:D×D):D:=.tup [e.1,e.2]
def HF{N:Net}(a:okN N){e:s_ Ax}(g:thn N e){c:s_^s_ Str}(h:c.length<=60)(f:∀w∈c,T6 N w):Df N (enc #[N.ps,e],.tup^c.map Ay):=
 #[Fj a g,DK a.1 (λd i=>by
  let#[w,b,rfl]:=Tk.mp i;exact#[w,.inl rfl,(f w b).2.1,(f w b).2.2])^by rw[No];exact h]
def Ck{N:Net}{c:s_ (D×D)}{e:D×D}(h:∀e∈c,Df N e)(g:Df N e):∀b∈c++[e],Df N b:=λb a=>by
 rcases eq.mp a with a|a
 .exact h b a
 .rw[Sc.mp a];exact g
section
variable {n:Nat}{Pd:D->Nat->Prop}
def XB{N:Net}(a:okN N)(J:N.ts.length<=12){f:s_ Ax}(i:thn N f){p:D}(q:∀(b:s_ (D×D)) (x:Nat),(∀e∈b,Df N e)->b.length<=40->n - 50<=x->Pd (.lst^b.map pr2) x)
  (b:s_ (D×D)) (k:∀e∈b,Df N e) (o:b.length<=20) (Y:50<=n) (y z A B C l m:Slot):Zv (EF Pd) n [.fd,.sh^enc N,.sh^enc #[N.ps,f],.sh p,.ow^.lst^b.map pr2,y,z,A,B,C,l,m,.no,.no]:=by
 have K:=a.2.2;have M:=PySem.sizeLine_eq;unfold Zv;refine#[N,rfl,a,by lk,λE Z O P _ Q=>?_];refine#[_,AJ (j:=0) rfl,_,AJ (j:=1) rfl,N.ts,rfl,by lk,by lk,λF G H R=>?_];exists z2,_,AJ (j:=0) rfl,_,AJ (j:=1) rfl;have I:Dp.cutD (f.map Ad) (P3 1) p_=(f.drop 1).map Ad:=by rw[WK,List.map_drop]
 exists z2,(by cbv:4<=sizeLine);generalize S:(D.lst [enc #[N.ps,E],enc N,enc #[N.ps,F],.tup [.tup^N.ps.map .str,.tup^Dp.cutD (f.map Ad) (P3 1) p_]])=L
 have T:∀(c:s_^s_ Ax) (b:s_ (D×D)) (g:Slot),(∀t∈c,thn N t)->(∀e∈b,Df N e)->b.length+2*c.length<=40->
   A0 (AR 13) cE {EF Pd with nx:=JN 4^EF Pd} (c.map λt=>enc #[N.ps,t]) G [.fd,.sh^enc N,.sh^enc #[N.ps,f],.sh p,.ow^.lst^b.map pr2,y,z,A,B,C,l,m,.sh L,g]:=by
  intro c
  induction c with
  |nil=>intro b g _ k o;exact#[_,rfl,q b G k (by simpa using o)^by lk]
  |cons t c U=>
   intro b g i k o;have d:=i t Op;rw[gB]at o;refine#[_,rfl,rfl,N,t,q_,rfl,a,d,λV r s=>#[z2,_,_,rfl,rfl,by rw[No];lk,?_]];refine#[_,rfl,rfl,N,t,r_,rfl,a,d,λW v w=>#[z2,_,_,rfl,rfl,by rw[XV,No,gD];lk,?_]]
   have:=U (b++[(enc #[N.ps,t],.tup^V.map Ay)]++[(enc #[N.ps,t],.tup^W.map Ay)]) (.sh^enc #[N.ps,t]) (λu X=>i u^TM _ X) (Ck (Ck k^HF a d r s)^HF a d v w)^by simp only[XV,gD];lk
   rw[gU,gU]at this;exact this
 have:=T [E,N.ts,F,f.drop 1] b .no (λt h=>by
  simp only[T0,gJ,or_false]at h
  rcases h with rfl|rfl|rfl|rfl
  .exact#[O,P]
  .exact#[λ_ h=>h,a.1.trise]
  .exact#[λ_ h=>H.subset h,a.1.trise.sublist H]
  .exact#[λ_ h=>i.1 _^lP h,i.2.sublist^List.drop_sublist _ _]) k^by simp;lk
 subst S;rw[I];rw[I]at this;exact this
def Sj{ss:s_ Slot}(h:N0 ss n Pd):Ec (EF Pd) n (ss++ZB 10 .no):=by
 let#[N,ts,g,rfl,f,S,C,T,hw,hn,p]:=h;have ok:=f.1;have G:=C.okN f;have a9:=PySem.sizeLine_eq;have b0:g.length<=12:=by rw[T];exact gG (gs _ _) S
 have o:∀d∈g.map Ay,EN N d:=λd F=>by
  let#[w,U,rfl]:=Tk.mp F;exact#[w,.inl rfl,by have:=(hw w U).2.1;lk,(hw w U).2.2]
 have e1:Df N (enc #[N.ps,ts],.tup^g.map Ay):=#[Fj f C,DK ok o^by rw[No];lk];have e4:Df N (enc #[N.ps,ts],.tup (g.map Ay).reverse):=#[Fj f C,DK ok (λd F=>o d^lA.mp F)^by rw[iQ,No];lk];have V:=Fa ok o;have a8:=V.2.2;have L:=fun(n2:Nat) (h1:n - 10<=n2)=>XB (n:=n2) (Pd:=Pd) f S C (p:=.tup^g.map Ay) (λq n' h2 h3 h4=>p q n' h2 h3^by lk);unfold Ec;refine#[z2,N,ts,q_,rfl,f,C,λw2 a2 b2=>#[z2,N,ts,r_,rfl,f,C,λw3 a3 b3=>#[z2,1,rfl,rfl,z2,(by cbv:4<=sizeLine),?_]]];exists z0,Cd (B:=10 ^ 34) (by cbv) V.1 (by show F4 _+1<=100;lk),Cd (B:=0) (by cbv) trivial (by cbv)
 have W:∀e∈[(enc #[N.ps,ts],D.tup^g.map Ay),(enc #[N.ps,ts],.tup^w2.map Ay),(enc #[N.ps,ts],.tup^w3.map Ay),(enc #[N.ps,ts],.tup (g.map Ay).reverse)],Df N e:=λe i=>by
  simp only[T0,gJ,or_false]at i
  rcases i with rfl|rfl|rfl|rfl
  .exact e1
  .exact HF f C a2 b2
  .exact HF f C a3 b3
  .exact e4
 refine CI (λc=>?_) λ_=>?_
 .have w0:1<=g.length:=by
   cases g with
   |nil=>cases c
   |cons _ _=>simp
  refine#[_,_,rfl,rfl,_,rfl,by rw[No];lk,by rw[No];lk,by lk,λr r0 r1=>?_];rw[No]at r1;obtain⟨k,rfl⟩:∃k:Nat,r=k:=#[r.toNat,by lk];refine#[N,ts,rfl,f,C,λX p1 p2=>?_];have b1:X.length=g.length:=by rw[T];exact p1.length_eq
  have hk:k<X.length:=by lk
  have hu:(X.map Ad)[k]?=P3 (Ad X[k]):=by rw[gM,On hk];rfl
  have H:=ia.mp^p1.mem_iff.mp^gn hk;generalize X[k]=u at hu H;have Y:k<g.length:=by lk
  have I:(g.map Ay)[k]?=P3 (Ay g[k]):=by rw[gM,On Y];rfl
  let#[v0,J,K]:=hw _^gn Y;generalize g[k]=v at I v0 J K;exists _,AJ hu;refine#[_,AJ (j:=0) rfl,_,AJ (j:=1) rfl,_,ts,u,rfl,rfl,G.2.2,_,AJ I,N,_,ts.filter λv=>A9 (Bj v)^Bj u,v,rfl,rfl,f,λt h=>C.1 t (ia.mp h).1,gG (gs _ _) G.2.2,v0,J,K,by lk,λE n1 P g1=>?_];refine#[_,AJ (j:=0) rfl,_,AJ (j:=1) rfl,_,AJ I,N,_,N.ts,v,rfl,rfl,f,λ_ h=>h,f.2.2,v0,J,K,by lk,λZ n2 y2 g2=>?_];refine#[_,AJ (j:=0) rfl,_,AJ (j:=1) rfl,_,AJ I,N,_,ts,v,rfl,rfl,f,C.1,G.2.2,v0,J,K,by lk,λx3 n3 y3 g3=>?_];let#[m1,m2,_]:=ok.tin u H.1;exists 1,rfl,rfl,1,rfl,_,AJ (j:=0) rfl,_,AJ (j:=1) rfl,z2,(by cbv:7<=sizeLine)
  have a0:∀d,EN N d->Df N (enc #[N.ps,ts],.tup (Dp.cutD (g.map Ay) p_^P3 (k:Int)++[d]++Dp.cutD (g.map Ay) (P3 ((k:Int)+1)) p_)):=λd F=>by
   have Q:=DC (g.map Ay) p_^P3 (k:Int);have R:=DC (g.map Ay) (P3 ((k:Int)+1)) p_;generalize Dp.cutD (g.map Ay) p_^P3 (k:Int)=A at Q;generalize Dp.cutD (g.map Ay) (P3 ((k:Int)+1)) p_=B at R;have l1:=Q.length_le;have l2:=R.length_le;rw[No]at l1 l2;refine#[Fj f C,DK ok (λe i=>?_)^by simp only[XV,gD];lk]
   rcases eq.mp i with i|i
   .rcases eq.mp i with i|i
    .exact o e^Q.subset i
    .rw[Sc.mp i];exact F
   .exact o e^R.subset i
  have go:∀(D2:E2) (l:s_ D) (q:s_ (D×D)) (m:Slot),(∀d∈l,EN N d)->(∀e∈q,Df N e)->q.length+l.length<=11->
    (∀(q:s_ (D×D)) (m:Slot),(∀e∈q,Df N e)->q.length<=11->D2.nx n3 [.fd,.sh^enc N,.sh^enc #[N.ps,ts],.sh^.tup^g.map Ay,.ow^.lst^q.map pr2,.sh^.int k,.sh^Ad u,.sh^Ay E,.sh^Ay Z,.sh^Ay x3,m,.no,.no,.no])->
    A0 (AR 10) cF D2 l n3 [.fd,.sh^enc N,.sh^enc #[N.ps,ts],.sh^.tup^g.map Ay,.ow^.lst^q.map pr2,.sh^.int k,.sh^Ad u,.sh^Ay E,.sh^Ay Z,.sh^Ay x3,m,.no,.no,.no]:=by
   intro D2 l
   induction l with
   |nil=>intro q m _ i hl h;exact h q m i^by simpa using hl
   |cons d l ih=>
    intro q m hr i hl h;rw[gB]at hl;have l1:=(DC (g.map Ay) p_^P3 (k:Int)).length_le;have l2:=(DC (g.map Ay) (P3 ((k:Int)+1)) p_).length_le;rw[No]at l1 l2;exists _,rfl,rfl,z1,by show(Dp.cutD _ _ _).length+1<=sizeLine;lk,by show(Dp.cutD _ _ _++[d]).length+(Dp.cutD _ _ _).length<=sizeLine;rw[XV,gD];lk,z2,_,_,rfl,rfl,by rw[No];lk
    have:=ih (q++[(enc #[N.ps,ts],.tup (Dp.cutD (g.map Ay) p_^P3 (k:Int)++[d]++Dp.cutD (g.map Ay) (P3 ((k:Int)+1)) p_))]) (.sh d) (λe h=>hr e^TM _ h) (Ck i^a0 d^hr d Op) (by rw[XV,gD];lk) h
    rw[gU]at this;exact this
  refine go _ _ _ _ (λd F=>?_) W (by simp) λq m i hl=>?_
  .have F:d∈[Ay E,Ay Z,Ay x3,D.tup (E.map D.str).reverse,D.tup^Dp.cutD (E.map D.str) p_^P3 (-1),D.lst^E.map D.str,Ay [u.a,u.b]]:=F
   simp only[T0,gJ,or_false]at F
   rcases F with rfl|rfl|rfl|rfl|rfl|rfl|rfl
   .exact#[E,.inl rfl,P.2]
   .exact#[Z,.inl rfl,y2.2]
   .exact#[x3,.inl rfl,y3.2]
   .exact#[E.reverse,.inl (by rw[←List.map_reverse]),by rw[iQ];exact P.2.1,λx M=>P.2.2 x^lA.mp M]
   .have cs:=DC E p_^P3 (-1)
    exact#[_,.inl (by rw[NS]),gG cs.length_le P.2.1,λx M=>P.2.2 x^cs.subset M]
   .exact#[E,.inr rfl,P.2]
   .exact#[[u.a,u.b],.inl rfl,by simp,λx M=>by simp at M;rcases M with rfl|rfl <;>assumption]
  have tl:=G.2.2;have a4:u∉ts:=of_decide_eq_true H.2;have a5:(ts++[u]).Nodup:=gm.mpr #[BC C.2,by simp,λx M y hy z=>a4^by rw[←Sc.mp hy,←z];exact M]
  have a6:∀t∈ts++[u],t∈N.ts:=λt h=>by
   rcases eq.mp h with h|h
   .exact C.1 t h
   .rw[Sc.mp h];exact H.1
  exists _,AJ (j:=0) rfl,_,AJ (j:=1) rfl,z1,by show(ts.map Ad).length+1<=sizeLine;rw[No];dsimp only at tl;lk
  delta AQ
  dsimp only
  refine EM (ts:=ts++[u]) (z:=.tup (ts.map Ad++[Ad u])) (by rw[gU];rfl) (by dsimp only at tl;rw[XV,gD];lk) λs q1 q2=>?_;have a7:=Ma ok a6 a5 q1 q2
  have O:thn N s:=by
   have e:s=(sub N (ts++[u])).ts:=congrArg Net.ts a7;rw[e];exact#[λt h=>(sub_mem.mp h).1,ok.trise.filter _]
  have Q:=DC (g.map Ay) p_^P3 (k:Int);have R:=DC (g.map Ay) (P3 ((k:Int)+1)) p_;have l1:=Q.length_le;have l2:=R.length_le;rw[No]at l1 l2
  have a1:Df N (enc #[N.ps,s],.tup (Dp.cutD (g.map Ay) p_^P3 (k:Int)++Dp.cutD (g.map Ay) (P3 ((k:Int)+1)) p_)):=
   #[Fj f O,DK ok (λe i=>(eq.mp i).elim (λh=>o e^Q.subset h) λh=>o e^R.subset h)^by rw[XV];lk]
  refine#[z2,_,rfl,rfl,by show(Dp.cutD _ _ _).length+(Dp.cutD _ _ _).length<=sizeLine;lk,z2,_,_,rfl,rfl,by rw[No];lk,?_];refine#[_,rfl,rfl,N,s,q_,rfl,f,O,λvs a b=>#[z2,_,_,rfl,rfl,by rw[XV,No,gD];lk,?_]]
  have:=L n3 (by lk) (q++[(enc #[N.ps,s],.tup (Dp.cutD (g.map Ay) p_^P3 (k:Int)++Dp.cutD (g.map Ay) (P3 ((k:Int)+1)) p_))]++[(enc #[N.ps,s],.tup^vs.map Ay)]) (Ck (Ck i a1)^HF f O a b) (by simp only[XV,gD];lk) (by lk)
   (.sh^.int k) (.sh^Ad u) (.sh^Ay E) (.sh^Ay Z) (.sh^Ay x3) m (.sh^enc #[N.ps,s])
  rw[gU,gU]at this;exact this
 .exact L n (by lk) _ W (by simp) (by lk) _ _ _ _ _ _ _
end
def UN{a:s_ Str}:aX^.tup^a.map .str:=.t _ λx b=>by let#[y,_,rfl]:=Tk.mp b;exact .s y
section
variable {ss:s_ Slot}{n:Nat}{Pd:D->Nat->Prop}
def Um(h:Q1 ss n Pd):EH (EE Pd) n (ss++ZB 1 .no):=by
 let#[a,w,k,rfl,p]:=h;unfold EH
 have b:∀l:s_ D,l=ZB 7^.bl r_->Dw^.lst l/\(l.any λy=>E_ y^.bl q_)=r_:=λl e=>by
  subst e;exact#[Cd (B:=10 ^ 40) (by cbv) #[trivial,trivial,trivial,trivial,trivial,trivial,trivial,trivial]^by cbv,rfl]
 have c:decide (("NoPaper":Str)="TooMany")=r_:=by cbv
 have d:decide (("NoPaper":Str)="Twice")=r_:=by cbv
 have f:decide (("NoPaper":Str)="NoPlace")=r_:=by cbv
 have g:decide (("NoPaper":Str)="NoTie")=r_:=by cbv
 have i:decide (("NoPaper":Str)="NoLine")=r_:=by cbv
 have j:decide (("NoPaper":Str)="NoRow")=r_:=by cbv
 exists z4,z3,by cbv,Cd (B:=10 ^ 40) (by cbv) trivial (by cbv),?_,_,rfl
 .simp_all
 .have k:=(b ([.bl (decide (("NoPaper":Str)="TooMany")),.bl (decide (("NoPaper":Str)="Twice")),.bl (decide (("NoPaper":Str)="NoPlace")),.bl (decide (("NoPaper":Str)="NoTie"))]++[.bl (decide (("NoPaper":Str)="NoLine")),.bl (decide (("NoPaper":Str)="NoRow")),.bl !q_])^by simp_all).2
  exact#[_,cD _ _,_,cC _ _,z2,p]
end
end Nt
namespace L2
def Xc{X:Cx}{k:Nat}(i:RoomH k X.A):OpR X (compareOp .In)^XG r_:=by
 intro o s Z H x y v u Q I j c h;let#[d,l,m,a,e,f,p,q]:=h;let#[r,g]:=RV.reads I m j;have t:=i.un;have w:min (iS l) _<=d.depth:=k8 _ _
 rcases a with a|a
 .let#[n,b]:=RV.reads I a c
  exact PySem.SeqAt.in_list_reads b g f e (by lk) #[.bl _,H,I,rfl,q]
 .let#[n,b]:=RV.reads I a c
  exact PySem.SeqAt.in_tuple_reads b g f e (by lk) #[.bl _,H,I,rfl,q]
end L2
namespace Nt
open L2 Dp
def fR(L:s_ Ax):Prop:=∀A u B,L=A++u::B->¬Cn A u.a u.b
theorem Jw:∀(f d:s_ Ax),fR d->fR^BM d f
 |[],_,h=>h
 | u::f,d,h=>by
  rw[Bh]
  split
  .exact Jw f d h
  .rename_i c
   refine Jw f (d++[u]) λA v B e=>?_
   rcases List.append_eq_append_iff.mp e with⟨k,i,g⟩|⟨j,i,g⟩
   .cases k with
    |nil=>
     rw[gK]at i;have g:u=v:=by injection g
     subst g;rw[i];exact λz=>c^cnB_iff.mpr z
    |cons a k=>simp at g
   .cases j with
    |nil=>
     rw[gK]at i;have g:v=u:=by injection g
     subst g;rw[←i];exact λz=>c^cnB_iff.mpr z
    |cons b j=>
     injection g with g _
     subst g;exact h A _ j i
def Pt{N:Net}(b:okN N){a:s_ Ax}(c:a.Perm N.ts):Fl^sub N^BM [] a=r_:=by
 have d:(BM [] a).Nodup:=ES (by rw[gu];exact c.nodup_iff.mpr^BC b.1.trise);have f:∀t∈BM [] a,t∈N.ts:=λt h=>c.mem_iff.mp (by simpa using E8 t h);have g:=OC b.1 f d;unfold Fl;refine decide_eq_false λh=>?_;have h:=(L0 g.symm d).mp h;rw[KQ (BM [] a) []^Jw a [] λA u B e=>by simp at e]at h;exact absurd h^gv _
def TL{M:Net}(c:okN M){a b:Str}{w:s_ Str}{d:Int}(h:walkedK 30 M a b w d):Tw M a b^Ay w=.int d:=by
 have e:=QU c (h.up^by cbv);let#[#[r,rfl],f,_]:=h;unfold Tw;rw[e];have g:UW^Ay (a::r)=a::r:=B7 _;rw[g,f];simp
theorem RU{M:Net}(b:okN M):∀{c:s_ Ax}{a:s_^s_ Str} (k:Nat),YO M c a->a.length=c.length/\GN M k c^a.map Ay=.non/\∀w∈a,w≠[]/\w.length<=30/\∀x∈w,x∈M.ps
 |[],[],_,_=>#[rfl,rfl,nofun]
 | u::c,w::a,k,h=>by
  let#[#[l,e],h]:=h;let#[f,g,i]:=RU b (k+1) h;refine#[by rw[gB,gB,f],?_,λv d=>?_]
  .show GN M k (u::c) (Ay w::a.map Ay)=.non
   unfold GN;rw[TL (Ku b u) e];exact g
  .rcases T0.mp d with rfl|d
   .let#[#[r,rfl],_,_,j,m]:=e
    exact#[nofun,j,m]
   .exact i v d
 |[],_::_,_,h=>h.elim
 |_::_,[],_,h=>h.elim
def W8{w:Str}{k:Nat}(b:w="way"\/w="round"\/w="shape")(c:k<=60):OF^Pg w k:=by
 have a:item^.str w:=by rcases b with rfl|rfl|rfl <;>exact item_str (by cbv)^by decide +kernel
 refine RF (B:=1000001) (by cbv) #[a.1,by show(k:Int).natAbs<=1000001;lk,trivial] ?_ ?_
 .have:=a.2.2
  show max (F5^.str w)^max 0 0+1<=100;lk
 .have:=a.2.1
  show C7^.str w+1+(200+1+0)<=200000;lk
def P9:MK {nx:=λ_ _=>False,rt:=λd _=>d=.bl q_} 3000 (.no::.fd::ZB 7 .no):=by
 have a3:=PySem.sizeLine_eq;unfold MK;refine#[7,12,rfl,by cbv,by cbv,by cbv,by cbv,by cbv,λN n0 ok l2 l7 E a4=>?_];have b:okN N:=#[ok,by lk,by lk];refine#[N,rfl,b,λs T o2=>?_];refine#[N,rfl,b,λa0 F i o3 o4 u p2 U=>?_];rw[Dl (o3.trans T.symm) o4 o2]at u U;have o:thn N (sub N^BM [] s).ts:=#[λt h=>(sub_mem.mp h).1,ok.trise.filter _];have H:okN^sub N^BM [] s:=o.okN b;let#[lw,ew,y]:=RU H 0 U;have er:=Pt b T;obtain⟨f,eM⟩:∃f,sub N^BM [] s=⟨N.ps,f⟩:=#[_,rfl];rw[eM]at o u ew er y ⊢;clear H U eM T o2 o3 o4;have o:thn N f:=o;have u:F.Perm^E6 N f:=u;have a5:F.length<=12:=by rw[u.length_eq];exact gG (gs _ _) E
 have p:∀d∈i.map Ay,EN N d:=λd hd=>by
  let#[w,I,rfl]:=Tk.mp hd;exact#[w,.inl rfl,by have:=(y w I).2.1;lk,(y w I).2.2]
 have V:NH^.tup^i.map Ay:=DK ok p (by rw[No];lk);have W:=Fj b o
 have ask:SE N (enc #[N.ps,f]) (.tup^i.map Ay) .non:=#[b,by lk,W,V,.inr #[f,F,rfl,o,u,p2,by
  show _=if(i.map Ay).length=F.length then(if Fl #[N.ps,f]=q_ then Pg "round" 0 else GN #[N.ps,f] 0 F^i.map Ay)else Pg "shape" 0
  rw[if_pos (by rw[No];exact lw),if_neg (by rw[er];decide),ew]]]
 exists N,_,_,_,rfl,ask,rfl,N,_,_,_,rfl,ask,rfl;have J:=Fa ok p;rw[No]at J;have sn:=UT^o.okN b;have nn:N.ps≠[]:=λz=>by rw[z]at l2;simp at l2
 refine#[N,f,i,rfl,b,E,o,by rw[lw,u.length_eq],y,by lk,λc n1 v hl a6=>?_];refine#[rfl,by lk,λP f1 s1 d1=>#[z2,rfl,by lk,λQ f2 s2 d2=>#[z2,z2,?_]]];refine#[by rw[No];show c.length+2<=sizeLine;lk,?_];have a1:Df N (enc #[N.ps,f],P):=#[W,f1.mono^by cbv,by show C7 P<=_;lk,by show F5 P<=_;lk];have a2:Df N (Q,.tup^i.map Ay):=#[#[f2.mono^by cbv,by show C7 Q<=_;lk,by show F5 Q<=_;lk],V];exists 6,rfl,#[by cbv,by cbv]
 have K:∀(c:s_ (D×D)) (l:Nat) (q:Slot),(∀e∈c,Df N e)->Xn {nx:=λ_ _=>False,rt:=λd _=>d=.bl q_} l [.no,.fd,.sh^enc N,.sh^enc #[N.ps,f],.sh^.tup^i.map Ay,.ow^.lst^c.map pr2,q,.no,.no]:=by
  intro c l q v;unfold Xn;refine#[_,rfl,λa=>?_]
  have L:∀(g:s_ (D×D)) (X Y:Slot),(∀e∈g,Df N e)->A0 (CF 2^AX (AR 7)^AX (AR 8) BZ) Zx {({nx:=λ_ _=>False,rt:=λd _=>d=.bl q_}:E2)with nx:=λn ρ=>ρ[5]?=P3^.lt a^.lst^c.map pr2/\Au (wC^D.bl q_) {nx:=λ_ _=>False,rt:=λd _=>d=.bl q_} n^ρ.set 5^.ow^.lst^c.map pr2} (g.map pr2) l [.no,.fd,.sh^enc N,.sh^enc #[N.ps,f],.sh^.tup^i.map Ay,.lt a^.lst^c.map pr2,q,X,Y]:=by
   intro g
   induction g with
   |nil=>intro X Y _;exact#[rfl,rfl]
   | cons e g R=>
    intro X Y h;let#[m,A]:=h e Op;let#[r,hr]:=Xr N e.1 e.2;have ak:SE N e.1 e.2 r:=#[b,by lk,m,A,hr]
    have sh:OF r:=by
     rcases Rm b hr with rfl|⟨w,k,rfl,y,hk⟩
     .exact RF (B:=1000001) (by cbv) trivial (by cbv) (by cbv)
     .exact W8 y hk
    unfold Zx;exists rfl,rfl,N,e.1,e.2,r,rfl,ak,_,rfl,sh,N,e.1,e.2,r,rfl,ak,_,rfl,sh;generalize UX r=S;show if(!(S==S))=q_ then _ else _
    rw[beq_self_eq_true];exact Br^R _ _ λe h'=>h e^TM _ h'
  exact L c _ _ v
 have go:∀(C:s_ Int) (c:s_ (D×D)) (l:Nat) (q:Slot),(∀e∈c,Df N e)->c.length+2*C.length<=100->30*C.length<=l->
   A0 (AR 6) Zw {({nx:=λ_ _=>False,rt:=λd _=>d=.bl q_}:E2)with nx:=Xn {nx:=λ_ _=>False,rt:=λd _=>d=.bl q_}} (C.map .int) l [.no,.fd,.sh^enc N,.sh^enc #[N.ps,f],.sh^.tup^i.map Ay,.ow^.lst^c.map pr2,q,.no,.no]:=by
  intro C
  induction C with
  |nil=>intro c l q v _ _;exact K c l q v
  | cons k C R=>
   intro c l q v hl hn;rw[gB]at hl hn;unfold Zw;refine#[_,rfl,rfl,_,AJ (j:=0) rfl,_,N.ps,2,rfl,by cbv,.t _ λx M=>?_,J.1,nn,by lk,λx M=>ok.names x M,by show CH _<=50000;lk,by lk,λm m1 q1 q2 q3 q4=>#[z2,_,_,rfl,rfl,by rw[No];lk,?_]]
   .let#[w,_,rfl]:=Tk.mp M
    exact UN
   have q2:C7 m<=2*CH^i.map Ay+500:=q2;have q3:F5 m<=F4^i.map Ay+1+3:=q3;have ab:Df N (enc #[N.ps,f],m):=#[W,q1.mono^by cbv,by show C7 m<=_;lk,by show F5 m<=_;lk];have O:=Ck v ab;refine CI (λ_=>?_) λ_=>?_
   .refine#[_,rfl,rfl,_,AJ (j:=0) rfl,_,N.ps,3,rfl,by cbv,Wx _,sn.1.mono^by cbv,nn,by lk,λx M=>ok.names x M,by lk,by lk,λA m2 u1 u2 u3 u4=>#[z2,_,_,rfl,rfl,by rw[XV,No,gD];lk,?_]]
    have Z:Df N (A,.tup^i.map Ay):=#[#[u1.mono^by cbv,by show C7 A<=_;lk,by show F5 A<=_;lk],V]
    have:=R (c++[(enc #[N.ps,f],m)]++[(A,.tup^i.map Ay)]) m2 (.sh^.int k) (Ck O Z) (by simp only[XV,gD];lk)^by lk
    rw[gU,gU]at this;exact this
   .have:=R (c++[(enc #[N.ps,f],m)]) m1 (.sh^.int k) O (by simp only[XV,gD];lk)^by lk
    rw[gU]at this;exact this
 have:=go [0,1,2,3,4,5] (c++[(enc #[N.ps,f],P)]++[(Q,.tup^i.map Ay)]) (n1 - 1 - 1) .no (Ck (Ck v a1) a2) (by simp only[XV,gD,gB,hX];lk)^by simp only[gB,hX];lk
 rw[gU,gU,gS]at this;exact this
end Nt
namespace K31
open L2 Dp Nt
section
variable (P:Program)(w:World)(K:Frag)(mg:Str->t_ Value)(base:Heap)
abbrev Qs:Prop:=Got P w K mg base "is_whole" 1 ["thing"] .sh Hy
abbrev LZ:Prop:=Got P w K mg base "is_tuple_of" 1 ["count","thing"] .sh HI
abbrev PQ:Prop:=Got P w K mg base "is_rising" 1 ["things"] .sh Nv
abbrev Tq:Prop:=Got P w K mg base "rank_of" 1 ["tie"] .sh Pa
abbrev Qq:Prop:=Got P w K mg base "order_of" 4 ["ties"] .fr FP
abbrev Qp:Prop:=Got P w K mg base "steps_of" 1 ["net"] .sh Nq
abbrev aU:Prop:=Got P w K mg base "only" 1 ["net","ties"] .sh GU
abbrev PP:Prop:=Got P w K mg base "is_tie_of" 2 ["net","thing"] .sh aV
abbrev Tr:Prop:=Got P w K mg base "is_thin" 3 ["net","thing"] .sh MO
abbrev Qt:Prop:=Got P w K mg base "ahead_of" 2 ["net","tie"] .sh FS
abbrev Qr:Prop:=Got P w K mg base "left_out" 5 ["net","thin"] .fr Pb
abbrev PN:Prop:=Got P w K mg base "length_of" 2 ["net","thing"] .sh aW
abbrev Hw:Prop:=Got P w K mg base "length_between" 3 ["net","a","b","thing"] .sh Wi
abbrev Nh:Prop:=Got P w K mg base "nearest_of" 1 ["waiting","found"] .sh Wh
abbrev Ni:Prop:=Got P w K mg base "least_ways" 2 ["net","start"] .fr Nz
abbrev cy:Prop:=Got P w K mg base "far" 3 ["net","a","b"] .sh YM
abbrev Wg:Prop:=Got P w K mg base "way_of" 3 ["net","a","b"] .sh YL
abbrev Nj:Prop:=Got P w K mg base "least_tree" 5 ["net"] .sh Kz
abbrev Ng:Prop:=Got P w K mg base "tree_paper" 6 ["net"] .sh Np
abbrev PR:Prop:=Got P w K mg base "has_round" 1 ["net"] .sh K0
abbrev PM:Prop:=al P w K mg base "lets_tree" 6 ["net","thin","paper"] .sh Nw
abbrev PV:Prop:=Got P w K mg base "_law_next" 1 ["_law_feed_here","_law_many"] .sh Bt
abbrev Nm:Prop:=Got P w K mg base "_law_names" 2 ["_law_feed_here","_law_many"] .sh K3
abbrev La:Prop:=Got P w K mg base "_law_length" 2 ["_law_feed_here","_law_way_here"] .sh Ny
abbrev Qx:Prop:=Got P w K mg base "_law_net" 3 ["_law_feed_here","_law_most","_law_ties"] .sh Q2
abbrev Nl:Prop:=Got P w K mg base "_law_order" 1 ["_law_ties"] .fr FP
abbrev Kx:Prop:=Got P w K mg base "_law_lengths" 1 ["_law_ties","_law_place"] .fr HJ
abbrev Nk:Prop:=Got P w K mg base "_law_whole" 1 ["_law_thing"] .sh Hy
abbrev Ky:Prop:=Got P w K mg base "_law_is_thin" 2 ["_law_net_here","_law_thing"] .sh MO
abbrev Qz:Prop:=Got P w K mg base "_law_led" 1 ["_law_places","_law_ties","_law_thing","_law_a","_law_b"] .sh Q3
abbrev Qu:Prop:=Got P w K mg base "_law_way" 2 ["_law_ties","_law_a","_law_b"] .sh JI
abbrev Kw:Prop:=am P w K mg base "_law_refused" 1 ["_law_e"] .sh Q1
abbrev HH:Prop:=Got P w K mg base "_law_least_tree" 2 ["_law_net_here"] .sh Kz
abbrev PU:Prop:=Got P w K mg base "_law_some" 2 ["_law_feed_here","_law_ties"] .sh Nu
abbrev Iv:Prop:=Got P w K mg base "_law_any_tree" 2 ["_law_feed_here","_law_net_here"] .sh Q4
abbrev Lc:Prop:=Got P w K mg base "_law_detour" 2 ["_law_feed_here","_law_places","_law_ties","_law_way_here"] .sh K7
abbrev Qw:Prop:=Got P w K mg base "_law_odd" 2 ["_law_feed_here"] .sh FQ
abbrev PZ:Prop:=Got P w K mg base "_law_bent" 7 ["_law_feed_here","_law_thing","_law_names_here","_law_deep"] .sh^K8 4
abbrev Nn:Prop:=Got P w K mg base "_law_ahead" 1 ["_law_ties","_law_tie"] .fr K4
abbrev PY:Prop:=Got P w K mg base "_law_left" 2 ["_law_net_here","_law_thin"] .fr FR
abbrev Q0:Prop:=Got P w K mg base "_law_due" 3 ["_law_net_here","_law_thin","_law_paper"] .sh K6
abbrev Qy:Prop:=Got P w K mg base "_law_let" 7 ["_law_net_here","_law_thin","_law_paper"] .sh Nx
abbrev Qv:Prop:=Got P w K mg base "_law_own" 3 ["_law_net_here","_law_thin","_law_is_ahead"] .sh GS
abbrev Lb:Prop:=Got P w K mg base "_law_forged" 4 ["_law_feed_here","_law_net_here","_law_thin","_law_paper"] .fr N0
end
def fL{d:gy}{b:s_ Str}{n:Nat}(c:∀f:Nat->Ev,bindArgs d #[(gi n).map f,[]]=pure^b.zip^(gi n).map f)(a:s_ Ev)(h:a.length=n):bindArgs d #[a,[]]=pure^b.zip a:=by
 have e:a=(gi n).map λi=>a.getD i .none:=by
  apply List.ext_getElem <;>simp_all
 rw[e];exact c _
local macro_rules|`(tactic|walk_at "L")=>`(tactic|(intro _ _ _ h;repeat (first|(obtain⟨e,_⟩:=h;subst e;rfl)|(obtain⟨_,h⟩:=h))))
local macro_rules|`(tactic|walk_at "B")=>`(tactic|(intro _ _ _ _ _ _;exact fL λ_=>rfl))
def Ht(K:Frag)(x:Str)(st:gf):Prop:=∃(f:Db) (b:Ev) (c d:t_ Db) (e:Array^t_ Ev) (kV g h a i:Ev),nsIn K mainGlobals x=P3^P3^.ref f/\K.lookup f=P3 #[b,c,.func^fnOf x x (CL st) (BV st) (AI st) .none kV g h d a i,e]/\codeIn K a x=q_/\keepIn K^.ref f=q_
def Hn(K:Frag)(x:Str):Prop:=nsIn K mainGlobals x=P3 p_
def Ht.mk{K:Frag}{x:Str}{st:gf}{f:Db}{d:Ev}{e g:t_ Db}{h:Array^t_ Ev}{kV i j b m:Ev}(a:nsIn K mainGlobals x=P3^P3^.ref f)(l:K.lookup f=P3 #[d,e,.func^fnOf x x (CL st) (BV st) (AI st) .none kV i j g b m,h])(c:codeIn K b x=q_)(k:keepIn K^.ref f=q_):Ht K x st:=#[f,d,e,g,h,kV,i,j,b,m,a,l,c,k]
def Hn.mk{K:Frag}{x:Str}(a:nsIn K mainGlobals x=P3 p_):Hn K x:=a
def xc_mk{K:Frag}{i q k:Str}{C U N l:Db}{bs c sub a:s_ Ev}{m d:s_ Str}{n e f:Bool}{g b:t_ Bool}{p h:t_ Db}{r s t v w x y z A B:t_ Ev}(at_:nsIn K mainGlobals i=P3^P3^.ref C)(j:nsIn K mainGlobals "ThinError"=P3^P3^.ref U)
  (o:K.lookup C=P3^excClassObj i q C N bs (.ref U::[.type "ValueError",.type "Exception",.type "BaseException",.type "object"]) q_ m sub n g p r s t v w "ValueError.__new__")
  (u:K.lookup U=P3^excClassObj "ThinError" k U l c [.type "ValueError",.type "Exception",.type "BaseException",.type "object"] f d a e b h x y z A B "ValueError.__new__")
  (D:keepIn K^.ref C=q_) (E:PySem.W.findIn K (.ref C) "__getattribute__"=P3^P3^.builtin "BaseException.__getattribute__") (F:PySem.W.findIn K (.ref C) "__getattr__"=P3 p_) (G:PySem.W.findIn K (.ref C) "__setattr__"=P3^P3^.builtin "object.__setattr__") (H:PySem.W.findIn K (.ref C) "__class__"=P3^P3^.builtin "object.__class__")
  (I:PySem.W.findIn K (.ref C) "word"=P3 p_) (J:PySem.W.findIn K (.ref C) "number"=P3 p_) (L:PySem.W.findIn K (.ref C) "row"=P3 p_):XC K i C U:=
 #[#[q,N,bs,m,sub,n,g,p,r,s,t,v,w,o],#[k,l,c,d,a,e,b,h,x,y,z,A,B,f,u],D,E,F,G,at_,j,H,I,J,L]
def Hx(K:Frag)(a:Str):Prop:=∃C U,XC K a C U
def Hx.mk{K:Frag}{a:Str}{C U:Db}(c:XC K a C U):Hx K a:=#[C,U,c]
def H2(K:Frag)(c a:Str)(st:gf):Prop:=∃C U,XC K c C U/\∃(f:Db) (d:Ev) (e g:t_ Db) (h:Array^t_ Ev) (kV i j b k:Ev),PySem.W.findIn K (.ref C) "__init__"=P3^P3^.ref f/\PySem.W.typeIn K^.ref f=P3^.type "function"/\K.lookup f=P3 #[d,e,.func^fnOf "__init__" a (CL st) (BV st) (AI st) .none kV i j g b k,h]/\codeIn K b a=q_/\keepIn K^.ref f=q_
def H2.mk{K:Frag}{d a:Str}{st:gf}{C U f:Db}{e:Ev}{g h:t_ Db}{j:Array^t_ Ev}{kV m n b o:Ev}(c:XC K d C U)(i:PySem.W.findIn K (.ref C) "__init__"=P3^P3^.ref f)(ty:PySem.W.typeIn K^.ref f=P3^.type "function")
  (l:K.lookup f=P3 #[e,g,.func^fnOf "__init__" a (CL st) (BV st) (AI st) .none kV m n h b o,j]) (p:codeIn K b a=q_) (k:keepIn K^.ref f=q_):H2 K d a st:=#[C,U,c,f,e,g,h,j,kV,m,n,b,o,i,ty,l,p,k]
structure C0 (K:Frag) (mg:Str->Option Ev) (h:gI):Prop where
 X:K.In h
 G:h.Ns mainGlobals mg
 h_is_whole:Ht K "is_whole" Jc
 h_is_tuple_of:Ht K "is_tuple_of" Fs
 h_is_rising:Ht K "is_rising" IF
 h_rank_of:Ht K "rank_of" Ll
 h_order_of:Ht K "order_of" JZ
 h_steps_of:Ht K "steps_of" GC
 h_only:Ht K "only" Ug
 h_is_tie_of:Ht K "is_tie_of" IE
 h_is_thin:Ht K "is_thin" Lm
 h_ahead_of:Ht K "ahead_of" Jd
 h_left_out:Ht K "left_out" Ja
 h_length_of:Ht K "length_of" ID
 h_length_between:Ht K "length_between" D_
 h_nearest_of:Ht K "nearest_of" Gd
 h_least_ways:Ht K "least_ways" Ge
 h_far:Ht K "far" YZ
 h_way_of:Ht K "way_of" OK
 h_least_tree:Ht K "least_tree" Gg
 h_tree_paper:Ht K "tree_paper" Gc
 h_has_round:Ht K "has_round" IG
 h_lets_tree:Ht K "lets_tree" IC
 h__law_feed:Ht K "_law_feed" Eu
 h__law_next:Ht K "_law_next" Di
 h__law_names:Ht K "_law_names" Gj
 h__law_length:Ht K "_law_length" Ft
 h__law_net:Ht K "_law_net" Jh
 h__law_order:Ht K "_law_order" Gi
 h__law_lengths:Ht K "_law_lengths" Es
 h__law_whole:Ht K "_law_whole" Gh
 h__law_is_thin:Ht K "_law_is_thin" Et
 h__law_led:Ht K "_law_led" Jj
 h__law_way:Ht K "_law_way" Je
 h__law_refused:Ht K "_law_refused" Er
 h__law_least_tree:Ht K "_law_least_tree" Dk
 h__law_some:Ht K "_law_some" IH
 h__law_any_tree:Ht K "_law_any_tree" EX
 h__law_detour:Ht K "_law_detour" Fw
 h__law_odd:Ht K "_law_odd" Jg
 h__law_bent:Ht K "_law_bent" IJ
 h__law_ahead:Ht K "_law_ahead" Gk
 h__law_left:Ht K "_law_left" II
 h__law_due:Ht K "_law_due" Jk
 h__law_let:Ht K "_law_let" Ji
 h__law_own:Ht K "_law_own" Jf
 h__law_forged:Ht K "_law_forged" Fv
 h_law:Ht K "law" Jb
 z0:Hn K "ValueError"
 z1:Hn K "all"
 z2:Hn K "bool"
 z3:Hn K "enumerate"
 z4:Hn K "int"
 z5:Hn K "isinstance"
 z6:Hn K "len"
 z7:Hn K "list"
 z8:Hn K "min"
 z9:Hn K "range"
 z10:Hn K "repr"
 z11:Hn K "reversed"
 z12:Hn K "sorted"
 z13:Hn K "str"
 z14:Hn K "tuple"
 z15:Hn K "zip"
 y0:H2 K "NoPaper" "NoPaper.__init__" CY
 y1:Hx K "NoLine"
 y2:Hx K "TooMany"
 y3:Hx K "Twice"
 y4:Hx K "NoPlace"
 y5:Hx K "NoTie"
 y6:Hx K "NoRow"
def Ctx(P:gN)(w:gY)(K:Frag)(b:Str->t_ Ev)(a h:gI):Prop:=C0 K b h
section
variable {P:Program}{w:World}{K:Frag}{mg:Str->t_ Value}{h base:Heap}{x:Str}{st:Stmt}
def Ht.fn(X:K.In h)(G:h.Ns mainGlobals mg)(H:Ht K x st):∃f fd,mg x=P3^.ref f/\Fun K x x st f fd:=by
 let#[f,b,d,e,g,i,j,m,n,o,a,l,c,k]:=H;exact#[f,_,mg_of X G a,Qa (st:=st) l c k]
def Hx.xm{a:Str}(X:K.In h)(G:h.Ns mainGlobals mg)(H:Hx K a):∃C U,XC K a C U/\mg a=P3^.ref C:=let #[C,U,c]:=H;#[C,U,c,mg_of X G c.at_]
def H2.u{b a:Str}(X:K.In h)(G:h.Ns mainGlobals mg)(H:H2 K b a st):∃U,a9 K U/\mg "ThinError"=P3^.ref U/\nsIn K mainGlobals "ThinError"=P3^P3^.ref U:=let #[C,U,c,_]:=H;#[U,c.isU,mg_of X G c.atU,c.atU]
def H2.hx{b a:Str}(H:H2 K b a st):Hx K b:=let #[C,U,c,_]:=H;#[C,U,c]
def C0.T(A:C0 K mg h):Txt K mg:=#[mg_none_of A.X A.G A.z0,mg_none_of A.X A.G A.z1,mg_none_of A.X A.G A.z2,mg_none_of A.X A.G A.z3,mg_none_of A.X A.G A.z4,mg_none_of A.X A.G A.z5,mg_none_of A.X A.G A.z6,mg_none_of A.X A.G A.z7,mg_none_of A.X A.G A.z8,mg_none_of A.X A.G A.z9,mg_none_of A.X A.G A.z10,mg_none_of A.X A.G A.z11,mg_none_of A.X A.G A.z12,mg_none_of A.X A.G A.z13,mg_none_of A.X A.G A.z14,mg_none_of A.X A.G A.z15,A.y0.hx.xm A.X A.G,A.y1.xm A.X A.G,A.y2.xm A.X A.G,A.y3.xm A.X A.G,A.y4.xm A.X A.G,A.y5.xm A.X A.G,A.y6.xm A.X A.G,A.y0.u A.X A.G]
def Ctx.got{k:Nat}{a:s_ Str}{e:Kd}{W:W2}(A:Ctx P w K mg base h)(H:Ht K x st)
  (ok:∀{f:Db}{fd:gy},Txt K mg->Fun K x x st f fd->mg x=P3^.ref f->Binds K fd a []->CW P w K mg base FV k f fd a^Tu K e W a.length)
  (j:∀g n P,W g n P->g.length=a.length:=by walk_at "L") (i:∀(kV b l:Ev) (o:t_ Db) (c p:Ev) (d:s_ Ev),d.length=a.length->bindArgs (fnOf x x (CL st) (BV st) (AI st) .none kV b l o c p) #[d,[]]=pure^a.zip d:=by walk_at "B"):Got P w K mg base x k a e W:=by
 let#[f,fd,m,F]:=H.fn A.X A.G;exact#[f,fd,ok A.T F m^F.binds i,m,F.kp,F.binds i,j]
def Ctx.gotH{k:Nat}{a:s_ Str}{e:Kd}{W:W2}(A:Ctx P w K mg base h)(H:Ht K x st)
  (ok:∀{f:Db}{fd:gy},Txt K mg->Fun K x x st f fd->Pc P w K mg base k f fd a^Tu K e W a.length)
  (i:∀g n P,W g n P->g.length=a.length:=by walk_at "L") (j:∀(kV b l:Ev) (o:t_ Db) (c p:Ev) (d:s_ Ev),d.length=a.length->bindArgs (fnOf x x (CL st) (BV st) (AI st) .none kV b l o c p) #[d,[]]=pure^a.zip d:=by walk_at "B"):am P w K mg base x k a e W:=by
 let#[f,fd,m,F]:=H.fn A.X A.G;exact#[f,fd,ok A.T F,m,F.kp,F.binds j,i]
def Ctx.gotR{k:Nat}{a:s_ Str}{e:Kd}{W:WX}(A:Ctx P w K mg base h)(H:Ht K x st)
  (ok:∀{f:Db}{fd:gy},Txt K mg->Fun K x x st f fd->CW P w K mg base (Tt P w) k f fd a^eE K e W a.length) (i:∀g n P j,W g n P j->g.length=a.length) (l:∀(kV b o:Ev) (p:t_ Db) (c q:Ev) (d:s_ Ev),d.length=a.length->bindArgs (fnOf x x (CL st) (BV st) (AI st) .none kV b o p c q) #[d,[]]=pure^a.zip d:=by walk_at "B"):al P w K mg base x k a e W:=by
 let#[f,fd,m,F]:=H.fn A.X A.G;exact#[f,fd,ok A.T F,m,F.kp,F.binds l,i]
end
section
variable {P:Program}{w:World}{K:Frag}{mg:Str->t_ Value}{base:Heap}
variable {f:Addr}{fd:FuncData}
def Ik:Ag ["self","word","number"] ["self","word","number"]^AI CY:=by constructor <;>first|rfl|decide +kernel
def Iq{f C U:Db}{fd:gy}(c:XC K "NoPaper" C U)(F:Fun K "__init__" "NoPaper.__init__" CY f fd):CW P w K mg base FV 1 f fd ["self","word","number"]^JV C "word" "number":=by
 refine F.ok Ik (λj H Q E h=>by let#[a,b,g,rfl,_]:=h;rfl) λk A i s H j Q E o h=>?_;let#[a,b,g,rfl,l,m]:=h;exists _,BQ (bu c c.nw (pv 0) (pv 1) rfl)^Cy (bq c c.nn (pv 0) (pv 2) rfl);refine#[b,rfl,V.ref a,rfl,a,rfl,l,λd n e=>#[g,rfl,V.ref a,rfl,a,d,[(("word":Str),b)],rfl,Af,?_,(by cbv:1<1000),?_]]
 .rw[AS e,Af]
 .rw[show Ei "number" g [(("word":Str),b)]=[(("word":Str),b),(("number":Str),g)]from by unfold Ei;rw[if_neg^by cbv];rfl]
  exact m d n e
def QZ{P:gN}{w:gY}{K:Frag}{mg:Str->t_ Ev}{h base:gI}(A:Ctx P w K mg base h):dA P w K mg base "NoPaper" ["word","number"] 1:=by
 have H:=A.y0;let#[C,U,c,f,b,d,e,g,j,m,n,o,p,i,ty,l,a,k]:=H;have F:=Qa (st:=CY) l a k;exact#[C,U,c,mg_of A.X A.G c.at_,.inr #[_,_,f,_,_,_,_,rfl,i,ty,Iq c F,F.binds^by walk_at "B"]]
variable {h:Heap}(A:Ctx P w K mg base h)
include A
omit A in
def OI:Ag ["thing"] ["thing"]^AI Jc:=by walk_at "s"
def OU:Qs P w K mg base:=A.got A.h_is_whole (λT F m b=>ET F OI (λa=>(AH^Ah^GR (CA NC (dv 0) rfl T.Gaa rfl T.Gak (by decide +kernel))^Hs^Qf (CA Oi (dv 0) rfl T.Gaa rfl T.Gan (by decide +kernel)))) IK) (λ_ _ _ h=>Lp h)
omit A in
def JX:Ag ["count","thing"] ["count","thing"]^AI Fs:=by walk_at "s"
def E3:LZ P w K mg base:=A.got A.h_is_tuple_of λT F m b=>ET F JX (λa=>(AH^Ah^GR (CA kit_tuple (dv 1) rfl T.Gaa rfl T.Gab (by decide +kernel))^Hs^GQ C4 FO (Ao A8 CK rfl T.Gac PySem.boot_len (AT (dv 1) Ai)) (dv 0)^Ak _)) Jq
omit A in
def Mf:Ag ["things"] ["things"]^AI IF:=by walk_at "s"
def Mx:PQ P w K mg base:=A.got A.h_is_rising λT F m b=>ET F Mf (λa=>(AH^Ah (Ao (FF rfl) PL rfl T.Gaf jU (AT (Ph [("ahead":Str),("behind":Str)] [p_,p_] (X6 rfl T.Gam (AT (dv 0)^AT (CT D8 CV (dv 0) (BP AG) Bb) Ai)) (Ci rfl (Ar (Ab (i:=0) (show iH [("ahead":Str),("behind":Str)] by decide +kernel) rfl (TW rfl))^Ar (Ab (i:=1) (show iH [("ahead":Str),("behind":Str)] by decide +kernel) rfl (TW rfl)) B5)) C1 (GQ (DP a) FN (dv 0) (dv 1)^Ak _)^by kernel_rfl) Ai)))) Mn
omit A in
def P2:Ag ["tie"] ["tie"]^AI Ll:=by walk_at "s"
def J7:Tq P w K mg base:=A.got A.h_rank_of λT F m b=>ET F P2 (λa=>(AH^Ah^An^AA (AV AN Am (dv 0) AG)^AA (AV AN Am (dv 0) AG)^AA (AV AN Am (dv 0) AG) AK)) P7
omit A in
def OG:Ag ["ties"] ["ties"]^AI JZ:=by walk_at "s"
def IN:Qq P w K mg base:=A.got A.h_order_of λT F m b=>have a:=J7 A;ET F OG (λc=>(AH^Ah (WE a (c.mono^by cbv) rfl T.Gad rfl (dv 0)))) ON
omit A in
def nR:Ag ["net","steps","place","a","b","length"] ["net"]^AI GC:=#[rfl,rfl,rfl,by decide +kernel,rfl,by decide +kernel,by decide +kernel]
omit A in
def fq{f:Db}{fd:gy}(F:Fun K "steps_of" "steps_of" GC f fd):CW P w K mg base FV 1 f fd ["net"]^Tu K .sh Nq 1:=by
 refine F.ok (k:=0) nR (λvs H Q E h=>h.1) λcdv A outer s H vs Q E hr h=>?_;let#[hl,F0,U,V',M,n,ss,Pd,ra,#[N,rfl,ok,lp,lt,p],q]:=h;let#[dom,fU,uV,vM,fd0,pa]:=ra;cases pa with
 |cons r1 pa=>
 cases pa;let#[v,e1,h1]:=r1.1;cases e1;let#[an,vs,rfl,hn,v1,r,rfl,hp,v2,r2,rfl,ht,e2]:=h1;cases(show r2=[]from e2);let#[ap,us,rfl,hpn,hps]:=hp;let#[at_,ws,rfl,htn,hts]:=ht;have nd:=nR.nd;have hu:=IY hr;have szl:=PySem.sizeLine_eq;have lus:us.length=N.ps.length:=by rw[hps.length,No]
 have lws:ws.length=N.ts.length:=by rw[hts.length,No]
 refine#[_,BQ (Ew (i:=1) nd rfl (TW rfl) Jx)
  (BQ (HY gL rfl (VE^EY ix_tup (pv 0) BG λ_ _=>rfl) (Gv (i:=2) nd rfl (TW rfl)) (Cy (Gs hu (pv 1) (pv 2) Jx rfl)))
  (BQ (HY gL rfl (VE^EY ix_tup (pv 0) BG λ_ _=>rfl) (VG rfl (Gu (Gv (i:=3) nd rfl (TW rfl))^Gu (Gv (i:=4) nd rfl (TW rfl))^Gu (Gv (i:=5) nd rfl (TW rfl)) RR))
   (BQ (Gs hu (I_ hu (pv 1) (pv 3) λ_ _=>rfl) (pv 4) (pv 5) rfl)^Cy (Gs hu (I_ hu (pv 1) (pv 4) λ_ _=>rfl) (pv 3) (pv 5) rfl)))
  (Cy^GD^Zl^pv 1))),?_]
 refine λd hd=>?_;have old0:∀b o,H b=P3 o->A5 H d (.dK []) b=P3 o:=λb o e=>by rw[AS^A6 e hd];exact e
 have SqN:∀H':Hp,(∀b o,H b=P3 o->H' b=P3 o)->SqT K H' an [.ref ap,.ref at_]:=λH' o=>SqT.of^o _ _ hn;have SqP:∀H':Hp,(∀b o,H b=P3 o->H' b=P3 o)->SqT K H' ap us:=λH' o=>SqT.of^o _ _ hpn;have SqW:∀H':Hp,(∀b o,H b=P3 o->H' b=P3 o)->SqT K H' at_ ws:=λH' o=>SqT.of^o _ _ htn;refine#[_,rfl,an,_,0,_,rfl,rfl,SqN _ old0,rfl,ap,rfl,#[_,SqP _ old0],?_];refine Rp (xs:=us) (λi Z H'=>∃(as:s_ (Str×Db)) (x2 x3 x4 x5:t_ V),Z=[P3^.ref an,P3^.ref d,x2,x3,x4,x5]/\as.map (·.1)=N.ps.take i/\Stp H d as (λ_=>[]) H') ?_ (λi Z H' hi #[as,x2,x3,x4,x5,e,hm,st]=>SqP _ st.old) ?_ ?_
 .exact#[[],_,_,_,_,rfl,rfl,old0,hd,Af,(λx hx=>by cases hx),gl,gl]
 .rintro i x Z H' hx ⟨as,x2,x3,x4,x5,rfl,hm,st⟩
  have hi:i<N.ps.length:=by rw[←lus];exact(gC.mp hx).1
  let#[x',hx',hAt]:=hps.get (i:=i) (d:=.str N.ps[i]) (by rw[gM,On hi];rfl);rw[hx]at hx';cases hx';let#[rfl,_]:=hAt;intro q hq;have las:as.length<=i:=by have:=congrArg jy hm;rw[No,k7]at this;lk
  have nq:d≠q:=λe=>by rw[←e,st.top]at hq;cases hq
  have las2:(as.map λx=>((.inr x.1:Key),V.ref x.2)).length=as.length:=No ..;refine#[_,rfl,_,rfl,d,_,rfl,DPut.k (k:=.inr N.ps[i]) (by rw[AS nq];exact st.top)^by lk,?_];refine#[as++[(N.ps[i],q)],_,_,_,_,rfl,?_,st.more hq ?_ rfl]
  .rw[gU,hm,List.take_succ,On hi];rfl
  .rw[hm];exact QN (Mi ok.rise) hi
 .rintro Z H' ⟨as,x2,x3,x4,x5,rfl,hm,st⟩
  rw[lus,k9]at hm;refine#[_,rfl,an,_,1,_,rfl,rfl,SqN _ st.old,rfl,at_,rfl,#[_,SqW _ st.old],?_];refine Rp (xs:=ws) (λi Z H'=>∃(x2 x3 x4 x5:t_ V),Z=[P3^.ref an,P3^.ref d,x2,x3,x4,x5]/\Stp H d as (λp=>(Do (N.ts.take i) p).map kv) H') #[_,_,_,_,rfl,st] (λi Z H' hi #[x2,x3,x4,x5,e,st]=>SqW _ st.old) ?_ ?_
  .rintro i x Z H' hx ⟨x2,x3,x4,x5,rfl,st⟩
   have hi:i<N.ts.length:=by rw[←lws];exact(gC.mp hx).1
   let#[x',hx',hAt]:=hts.get (i:=i) (d:=Ad N.ts[i]) (by rw[gM,On hi];rfl);rw[hx]at hx';cases hx';have hmem:N.ts[i]∈N.ts:=gn hi;have hsnoc:N.ts.take (i+1)=N.ts.take i++[N.ts[i]]:=by rw[List.take_succ,On hi];rfl
   have hpre:(N.ts.take (i+1)).Pairwise Bx:=ok.trise.sublist^mI _ _;have hlt2:∀s∈N.ts.take (i+1),cs s.a<cs s.b:=λs hs=>(ok.tin s^List.mem_of_mem_take hs).2.2.1;rw[hsnoc]at hpre hlt2;have new:=V3 hpre hlt2;have ltk:(N.ts.take i).length<=1000:=by rw[k7];lk
   generalize N.ts[i]=t at hAt hmem hsnoc new;generalize N.ts.take i=ts at hsnoc new st ltk;let#[m1,m2,m3,_]:=ok.tin t hmem;have hab:t.a≠t.b:=λe=>by rw[e]at m3;exact je _ m3
   let#[ta,tb,tl]:=t;let#[tt,us3,rfl,htt,hit]:=hAt;let#[va,r3,rfl,#[rfl,_],vb,r4,rfl,#[rfl,_],vl,r5,rfl,rfl,e5]:=hit;cases(show r5=[]from e5);rw[←hm]at m1 m2;let#[#[xa,pa],ha,ea]:=Tk.mp m1;let#[#[xb,pb],hb,eb]:=Tk.mp m2;have ea':ta=xa:=ea.symm;have eb':tb=xb:=eb.symm;subst ea' eb';clear ea eb;replace hab:ta≠tb:=hab;replace new:tb∉(Do ts ta).map (·.1)/\ta∉(Do ts tb).map (·.1):=new;have ga:=DGet.k (k:=.inr ta) st.top;rw[Iw st.nms ha]at ga;have l1:=Rb ts ta;refine#[tt,_,rfl,SqT.of^st.old _ _ htt,rfl,_,_,rfl,_,_,rfl,_,_,rfl,rfl,?_];refine#[_,rfl,_,rfl,_,rfl,d,_,rfl,ga,_,rfl,pa,_,rfl,DPut.k (k:=.inr tb) (st.inn _ ha).2.2 (by show((Do ts ta).map kv).length<sizeLine;rw[No];lk),?_];have st1:=st.put (tb2:=λp=>(Do ts p++if ta=p then [(tb,tl)]else []).map kv) ha (kvs:=putK ((Do ts ta).map kv) (.inr tb)^.int tl) (by rw[RN new.1,if_pos rfl]) (λq hq=>by rw[if_neg^g0 hq,gK]);have gb:=DGet.k (k:=.inr tb) st1.top;rw[Iw st1.nms hb]at gb;have l2:=Rb ts tb;have ib:=(st1.inn _ hb).2.2;simp only[if_neg hab,gK]at ib;refine#[_,rfl,_,rfl,_,rfl,d,_,rfl,gb,_,rfl,pb,_,rfl,DPut.k (k:=.inr ta) ib (by rw[No];lk),?_];refine#[_,_,_,_,rfl,st1.put hb ?_ λq hq=>?_]
   .show(Do (N.ts.take (i+1)) tb).map kv=_
    rw[hsnoc,Oc,RN new.2];show((Do ts tb++((if ta=tb then [(tb,tl)]else [])++if tb=tb then [(ta,tl)]else [])).map kv)=_;rw[if_neg hab,if_pos rfl];rfl
   .show(Do (N.ts.take (i+1)) q).map kv=_
    rw[hsnoc,Oc];show((Do ts q++((if ta=q then [(tb,tl)]else [])++if tb=q then [(ta,tl)]else [])).map kv)=_;rw[if_neg^g0 hq,gK]
  .rintro Z H' ⟨x2,x3,x4,x5,rfl,st⟩
   rw[lws,k9]at st
   have old:∀(f:Db->Obj) b o,H b=P3 o->GF H' (as.map (·.2)) f b=P3 o:=λf b o e=>by
    rw[ED λhm=>by let#[x,hx,e2]:=Tk.mp hm;have:=(st.inn x hx).1;rw[e2,e]at this;cases this];exact st.old b o e
   refine#[_,rfl,(as.map fun(x:Str×Db)=>x.2),λb hb=>?_,λf=>q (.ref d) (GF H' (as.map fun(x:Str×Db)=>x.2) f) (Ep N) n (λb o e=>#[o,old f b o e,λ_=>rfl,λ_ _=>rfl]) (λg hg=>?_) (show At K M (GF H' (as.map fun(x:Str×Db)=>x.2) f) (Ep N)^.ref d from st.at_ dom hm f) p]
   .let#[x,hx,rfl]:=Tk.mp hb
    exact#[_,(st.inn x hx).2.2]
   .let#[a,r,cells,hf,hcf,hc,rest]:=fd0 g hg
    exact#[a,r,cells,old f _ _ hf,hcf,#[hc.1,old f _ _ hc.2],rest]
def IM:Qp P w K mg base:=A.got A.h_steps_of λ_ F _ _=>fq F
omit A in
def W9:Ag ["net","ties"] ["net","ties"]^AI Ug:=by walk_at "s"
def Ra:aU P w K mg base:=A.got A.h_only λT F m b=>ET F W9 (λa=>(AH^Ah^An^AA (AV AN Am (dv 0) AG)^AA (Bi BJ CJ rfl T.Gab jF (AT (Ao Cv Fk rfl T.Gad j2 (AT (Dz 1) Ai)) Ai)) AK)) Sg
omit A in
def Me:Ag ["net","thing"] ["net","thing"]^AI IE:=by walk_at "s"
def Mw:PP P w K mg base:=A.got A.h_is_tie_of λT F m b=>have d:=OU A;ET F Me (λa=>(AH^Ah^GR (GQ (QJ a) Kv (dv 1) (AV AN Am (dv 0) AG)^by with_unfolding_all rfl)^Hs^cg a d^AB (AO^AV AN Am (dv 1) AG) AM)) Mm
omit A in
def P4:Ag ["net","thing"] ["net","thing"]^AI Lm:=by walk_at "s"
def QM:Tr P w K mg base:=A.got A.h_is_thin λT F m b=>have c:=Mx A;have d:=Mw A;have e:=E3 A;ET F P4 (λa=>(AF (BF (DTW.dt^Cq (CO^Bp^cg a e^AB (AO AG)^AB (AO^dv 1) AM)^C9^CO^Bp (CA kit_tuple (AV AN Am (dv 1) AG) rfl T.Gaa rfl T.Gab (by decide +kernel))) (AH^Ah CU) Al)
 (AH^Ah^GR (GQ (VP a) Yy (AV AN Am (dv 1) AG) (AV AN Am (dv 0) AG)^Ak _)^GR (Ao (FF rfl) PL rfl T.Gaf jU (AT (Ph [("net":Str),("tie":Str)] [P3 0,p_] (CC^AV AN Am (dv 1) AG) (Ab (i:=1) (show iH [("net":Str),("tie":Str)] by decide +kernel) rfl (TW rfl)) C1 (cg a d^AB (AO^dv 0)^AB (AO^dv 1) AM)^by kernel_rfl) Ai))^Hs^cg a c^AB (AO^AV AN Am (dv 1) AG) AM))) P_
omit A in
def OJ:Ag ["net","tie"] ["net","tie"]^AI Jd:=by walk_at "s"
def IQ:Qt P w K mg base:=A.got A.h_ahead_of λT F m b=>have d:=Ra A;have c:=J7 A;ET F OJ (λa=>(AH^Ah^cg a d^AB (AO^dv 0)^AB (DY^Ph [("tie":Str),("other":Str)] [P3 1,p_] (CC^AV AN Am (dv 0) AG) (Ab (i:=1) (show iH [("tie":Str),("other":Str)] by decide +kernel) rfl (TW rfl)) (Fi^Aj (DP a) FN (cg a c^AB (AO^dv 1) AM) (cg a c^AB (AO^dv 0) AM)^Ak _) (dv 1)^by kernel_rfl) AM)) QA
omit A in
def OH:Ag ["net","thin"] ["net","thin"]^AI Ja:=by walk_at "s"
def IP:Qr P w K mg base:=A.got A.h_left_out λT F m b=>have d:=IN A;ET F OH (λc=>(AH^Ah^cg c d^AB (AO^Ph [("thin":Str),("tie":Str)] [P3 1,p_] (CC^AV AN Am (dv 0) AG) (Ab (i:=1) (show iH [("thin":Str),("tie":Str)] by decide +kernel) rfl (TW rfl)) (Fi^Aj (Hc c) Kv (dv 1) (AV AN Am (dv 0) AG)^by with_unfolding_all rfl) (dv 1)^by kernel_rfl) AM)) OO
omit A in
def nc:Ag ["net","thing","steps","length","here","there"] ["net","thing"]^AI ID:=by walk_at "s"
def Mv:PN P w K mg base:=A.got A.h_length_of λT F m b=>have c:=IM A;ET F nc (λa=>(AF (BF (DTW.dt^Cq (CO^Bp (CA kit_tuple (dv 1) rfl T.Gaa rfl T.Gab (by decide +kernel)))^C9^Aj C4 FO (Ao A8 CK rfl T.Gac PySem.boot_len (AT (dv 1) Ai)) AG^Ak _) (AH^Ah BX) Al)
 (AF (BF (CO^Bp (Ao (FF rfl) PL rfl T.Gaf jU (AT (Ph [("place":Str)] [p_] (CC^dv 1) (Ab (i:=0) (show iH [("place":Str)] by decide +kernel) rfl (TW rfl)) C1 (CA NB (dv 0) rfl T.Gaa rfl T.Gal (by decide +kernel))^by kernel_rfl) Ai))) (AH^Ah BX) Al)
 (AF (Aq (i:=2) nc.nd rfl (TW rfl) (cg a c^AB (AO^dv 0) AM))
 (AF (BF (Aj (Cs a) EK (AV AN Am (dv 1) AG) (dv 2)^by with_unfolding_all rfl) (AH^Ah BX) Al)
 (AF (Aq (i:=3) nc.nd rfl (TW rfl) AG)
 (AF (By gL rfl (WB rfl T.Gam (AA (dv 1)^AA (CT D8 CV (dv 1) (BP AG) Bb) AK)) (Ci rfl (Ar (Ab (i:=4) nc.nd rfl (TW rfl))^Ar (Ab (i:=5) nc.nd rfl (TW rfl)) B5)) (AF (BF (Aj (Cs a) EK (dv 5) (Bc a (dv 2)^dv 4)^by with_unfolding_all rfl) (AH^Ah BX) Al)
 (AH (X5 (i:=3) nc.nd rfl (TW rfl) (Bc a (Bc a (dv 2)^dv 4)^dv 5)))))
 (AH^Ah^dv 3)))))))) Mj
omit A in
def nh:Ag ["net","a","b","thing","length"] ["net","a","b","thing"]^AI D_:=by walk_at "s"
def Gw:Hw P w K mg base:=A.got A.h_length_between λT F m b=>have a:=Mv A;ET F nh (λc=>(AF (Aq (i:=4) nh.nd rfl (TW rfl) (cg c a^AB (AO^dv 0)^AB (AO^dv 3) AM))
 (AF (BF (DTW.dt^Cq (Aj J1 PJ (dv 4) BX^Ak _)^Cq (Aj IL PF (AV AN Am (dv 3) AG) (dv 1)^Ak _)^C9^Aj IL PF (AV AN Am (dv 3)^Hu AG) (dv 2)^Ak _) (AH^Ah BX) Al)
 (AH^Ah^dv 4)))) XD
omit A in
def LB:Ag ["waiting","found"] ["waiting","found"]^AI Gd:=by walk_at "s"
def LK:Nh P w K mg base:=A.got A.h_nearest_of λT F m b=>ET F LB (λa=>(AH^Ah^AV AN Am (Ao (Ti a) aR rfl T.Gap boot_min (AT (Ph [("found":Str),("place":Str)] [P3 1,p_] (CC^Dz 0) (Ab (i:=1) (show iH [("found":Str),("place":Str)] by decide +kernel) rfl (TW rfl)) C1 (An^AA (AV AN Am (Bc a (Dz 0)^dv 1) AG)^AA (dv 1) AK)^by kernel_rfl) Ai)) AG)) LF
omit A in
def nj:Ag ["net","start","steps","found","waiting","place","other","step","length"] ["net","start"]^AI Ge:=by walk_at "s"
def Fy:Ni P w K mg base:=A.got A.h_least_ways λT F m b=>have e:=LK A;have g:=IM A;ET F nj (λc=>(AF (Aq (i:=2) nj.nd rfl (TW rfl) (cg c g^AB (AO^dv 0) AM))
 (AF (Bm (i:=3) nj.nd rfl (TW rfl) (Ow (dv 1)^An^AA AG^AA BX AK))
 (AF (Bm (i:=4) nj.nd rfl (TW rfl) (BO^AA (dv 1) AK))
 (AF (FD gL (aD^Dz 4) (AF (Aq (i:=5) nj.nd rfl (TW rfl) (cg c e^AB (DY^Dz 4)^AB (DY^Dz 3) AM))
 (AF (Cr 4 PySem.F.plainAttrs_list PySem.F.slot_list_remove PySem.F.type_list_remove (S6 c) cf (pv 4)^AA (dv 5) AK)
 (AH (By gL rfl (WC^Bc c (dv 2)^dv 5) (Ci rfl (Ar (Ab (i:=6) nj.nd rfl (TW rfl))^Ar (Ab (i:=7) nj.nd rfl (TW rfl)) B5)) (AF (Aq (i:=8) nj.nd rfl (TW rfl) (A3 As A4 (AV AN Am (Bc c (Dz 3)^dv 5) AG)^dv 7))
 (AH (BF (Aj (Cs c) EK (dv 6) (Dz 3)^by with_unfolding_all rfl) (AF (Cr 4 PySem.F.plainAttrs_list PySem.F.slot_list_append PySem.F.type_list_append BK Dd (pv 4)^AA (dv 6) AK)
 (AH^EV (i:=3) c (pv 3) (dv 6)^An^AA (dv 8)^AA (dv 5) AK))^AH^BF (Aj (DP c) FN (dv 8) (AV AN Am (Bc c (Dz 3)^dv 6) AG)^Ak _) (AH^EV (i:=3) c (pv 3) (dv 6)^An^AA (dv 8)^AA (dv 5) AK) Al))))))))
 (AH^NO 3^pv 3)))))) LG
omit A in
def nt:Ag ["net","a","b","found"] ["net","a","b"]^AI YZ:=by walk_at "s"
def Zr:cy P w K mg base:=A.got A.h_far λT F m b=>have d:=Fy A;ET F nt (λc=>(AF (Aq (i:=3) nt.nd rfl (TW rfl) (cg c d^AB (AO^dv 0)^AB (AO^dv 1) AM))
 (AH^Ah^ME (Aj (QK c) Wf (dv 2) (dv 3)^by with_unfolding_all rfl) (AV AN Am (Bc c (dv 3)^dv 2) AG) BX))) ZV
omit A in
def n8:Ag ["net","a","b","found","way","place"] ["net","a","b"]^AI OK:=by walk_at "s"
def Sx:Wg P w K mg base:=A.got A.h_way_of λT F m b=>have c:=Fy A;ET F n8 (λa=>(AF (Aq (i:=3) n8.nd rfl (TW rfl) (cg a c^AB (AO^dv 0)^AB (AO^dv 1) AM))
 (AF (BF (Aj (Cs a) EK (dv 2) (dv 3)^by with_unfolding_all rfl) (AH^Ah BX) Al)
 (AF (Bm (i:=4) n8.nd rfl (TW rfl) (BO AK))
 (AF (Aq (i:=5) n8.nd rfl (TW rfl) (dv 2))
 (AF (FD gL (Aj JA Nc (dv 5) BX^Ak _) (AF (Cr 4 PySem.F.plainAttrs_list PySem.F.slot_list_append PySem.F.type_list_append BK Dd (pv 4)^AA (dv 5) AK)
 (AH (Aq (i:=5) n8.nd rfl (TW rfl) (AV AN Am (Bc a (dv 3)^dv 5) AG)))))
 (AH^Ah (Td rfl (Dz 4) rfl T.Gab rfl T.Gah)))))))) Se
omit A in
def n9:Ag ["net","kept","tie"] ["net"]^AI Gg:=by walk_at "s"
def LL:Nj P w K mg base:=A.got A.h_least_tree λT F m b=>have n_:=Zr A;have c:=Ra A;have d:=IN A;ET F n9 (λa=>(AF (Bm (i:=1) n9.nd rfl (TW rfl) (BO AK))
 (AF (By gL rfl (Cu^cg a d^AB (AO^AV AN Am (dv 0) AG) AM) (Ab (i:=2) n9.nd rfl (TW rfl)) (AH^BF (Aj J1 PJ (cg a n_^AB (AO^cg a c^AB (AO^dv 0)^AB (DY^Dz 1) AM)^AB (AO^AV AN Am (dv 2) AG)^AB (AO^AV AN Am (dv 2) AG) AM) BX^Ak _) (AH^Cr 1 PySem.F.plainAttrs_list PySem.F.slot_list_append PySem.F.type_list_append BK Dd (pv 1)^AA (dv 2) AK) Al))
 (AH^Ah^cg a c^AB (AO^dv 0)^AB (DY^Dz 1) AM)))) Il
omit A in
def oA:Ag ["net","tree"] ["net"]^AI Gc:=by walk_at "s"
def LJ:Ng P w K mg base:=A.got A.h_tree_paper λT F m b=>have c:=IQ A;have d:=LL A;have e:=IP A;have g:=Sx A;ET F oA (λa=>(AF (Aq (i:=1) oA.nd rfl (iI rfl) (cg a d^AB (AO^dv 0) AM))
 (AH^Ah (Bi BJ CJ rfl T.Gab jF (AT (Ph [("tree":Str),("tie":Str)] [P3 1,p_] (CC^cg a e^AB (AO^dv 0)^AB (AO^dv 1) AM) (Ab (i:=1) (show iH [("tree":Str),("tie":Str)] by decide +kernel) rfl (TW rfl)) C1 (cg a g^AB (AO^cg a c^AB (AO^dv 0)^AB (AO^dv 1) AM)^AB (AO^AV AN Am (dv 1) AG)^AB (AO^AV AN Am (dv 1) AG) AM)^by kernel_rfl) Ai))))) Sf
omit A in
def oG:Ag ["net","pieces","place","a","b","length","one","other"] ["net"]^AI IG:=by walk_at "s"
def Mz:PR P w K mg base:=A.got A.h_has_round λT F m b=>ET F oG (λa=>(AF (Bm (i:=1) oG.nd rfl (TW rfl) Ox)
 (AF (By gL rfl (Cu^AV AN Am (dv 0) AG) (Ab (i:=2) oG.nd rfl (TW rfl)) (AH^EV (i:=1) a (pv 1) (dv 2)^dv 2))
 (AF (By gL rfl (Cu^AV AN Am (dv 0) AG) (Ci rfl (Ar (Ab (i:=3) oG.nd rfl (TW rfl))^Ar (Ab (i:=4) oG.nd rfl (TW rfl))^Ar (Ab (i:=5) oG.nd rfl (TW rfl)) B5)) (AF (Aq (i:=6) oG.nd rfl (TW rfl) (Bc a (Dz 1)^dv 3))
 (AF (Aq (i:=7) oG.nd rfl (TW rfl) (Bc a (Dz 1)^dv 4))
 (AF (BF (Aj C4 FO (dv 6) (dv 7)^Ak _) (AH^Ah CU) Al)
 (AH (By gL rfl (Cu^AV AN Am (dv 0) AG) (Ab (i:=2) oG.nd rfl (TW rfl)) (AH^BF (Aj C4 FO (Bc a (Dz 1)^dv 2) (dv 7)^Ak _) (AH^EV (i:=1) a (pv 1) (dv 2)^dv 6) Al)))))))
 (AH^Ah CU))))) P6
omit A in
def oH:Ag ["net","thin","paper","number","tie"] ["net","thin","paper"]^AI IC:=by walk_at "s"
def Mu:PM P w K mg base:=A.gotR A.h_lets_tree (λT F=>have g:=IQ A;have j:=Mz A;have k:=QM A;have m:=E3 A;have d:=IP A;have o:=Gw A;have GX_NoPaper:=QZ A;by
 exact fnX (wb:=λb=>D4 b) F oH (by cbv) (λp A c s H E b r U M l a=>(Hr (Qc (DTW.dt^Cq (CO^Bp (Bk k (a.mono^by cbv) rfl (AB (AO^dv 0)^AB (AO^dv 1) AM)))^C9^CO^Bp (Bk m (a.mono^by cbv) rfl (AB (AO (Ao A8 CK rfl T.Gac PySem.boot_len (AT (Bk d (a.mono^by cbv) rfl (AB (AO^dv 0)^AB (AO^dv 1) AM)) Ai)))^AB (AO^dv 2) AM))) (FC^GO Jy l (λ_ h=>h) (Hq GX_NoPaper (a.mono^by cbv) rfl (AA Az^AA AG AK)))^NN Al)
 (Hr (Qc (Bp (Bk j (a.mono^by cbv) rfl (AB (AO^dv 1) AM))) (FC^GO Jy l (λ_ h=>h) (Hq GX_NoPaper (a.mono^by cbv) rfl (AA Az^AA AG AK)))^NN Al)
 (Hr (X3 (λ_ _ h=>h) Xa rfl (X7 rfl T.Gaj (Bk d (a.mono^by cbv) rfl (AB (AO^dv 0)^AB (AO^dv 1) AM))) (Ci rfl (Ar (Ab (i:=3) oH.nd rfl (TW rfl))^Ar (Ab (i:=4) oH.nd rfl (TW rfl)) B5)) (FC^Qc (Aj J1 PJ (Bk o (a.mono^by cbv) rfl (AB (AO (Bk g (a.mono^by cbv) rfl (AB (AO^dv 1)^AB (AO^dv 4) AM)))^AB (AO^AV AN Am (dv 4) AG)^AB (AO^AV AN Am (dv 4) AG)^AB (AO^AV AN Am (dv 2)^dv 3) AM)) BX^Ak _) (FC^GO Jy l (λ_ h=>h) (Hq GX_NoPaper (a.mono^by cbv) rfl (AA Az^AA (dv 3) AK)))^NN Al))
 (FC^aE^Ah CU))))) λt n u b v q=>Si q) λ_ _ _ _ h=>by let#[_,_,_,_,e,_]:=h;rw[e];rfl
def Ba:PV P w K mg base:=A.got A.h__law_next λT F _ _=>Xd F T.Gac
omit A in
def oM:Ag ["_law_feed_here","_law_many","_law_some_here","_law_first"] ["_law_feed_here","_law_many"]^AI Gj:=by walk_at "s"
def LN:Nm P w K mg base:=A.got A.h__law_names λT F m b=>have a:=Ba A;ET F oM (λd=>(AF (Aq (i:=2) oM.nd rfl (iI rfl) (BO^AA Az^AA Az^AA Az^AA Az^AA Az^AA Az^AA Az^AA Az^AA Az^AA Az^AA Az^AA Az AK))
 (AF (Aq (i:=2) oM.nd rfl (iI rfl) (A3 As A4 (dv 2)^BO^AA Az^AA Az^AA Az^AA Az^AA Az^AA Az^AA Az^AA Az^AA Az^AA Az^AA Az^AA Az AK))
 (AF (Aq (i:=3) oM.nd rfl (iI rfl) (cg d a^AB (BN 0)^AB (AO AG) AM))
 (AH^Ah (Bi BJ CJ rfl T.Gab jF (AT (Ao Qj YK rfl T.Gad j2 (AT (Ph [("_law_some_here":Str),("_law_first":Str),("_law_k":Str)] [P3 2,P3 3,p_] (DI.c (EG rfl T.Gae (AT (dv 1) Ai))) (Ab (i:=2) (show iH [("_law_some_here":Str),("_law_first":Str),("_law_k":Str)] by decide +kernel) rfl (TW rfl)) C1 (AV AN Am (dv 0)^A3 Ez Hv (A3 As A4 (dv 1)^dv 2) AG)^by kernel_rfl) Ai)) Ai))))))) Jo
omit A in
def JY:Ag ["_law_feed_here","_law_way_here"] ["_law_feed_here","_law_way_here"]^AI Ft:=by walk_at "s"
def J8:La P w K mg base:=A.got A.h__law_length λT F m b=>have c:=Ba A;ET F JY (λa=>(AF (BF (Aj (DP a) FN (dv 1) AG^Ak _) (AH^Ah^A3 As A4 AG^cg a c^AB (BN 0)^AB (AO^AV AN Am (BO^AA AG^AA AG^AA AG AK)^dv 1) AM) Al)
 (AF (BF (Aj C4 FO (dv 1) AG^Ak _) (AH^Ah^A3 As A4 AG^cg a c^AB (BN 0)^AB (AO AG) AM) Al)
 (AH^Ah^A3 Dn FL (A3 Jz Hv AG AG)^cg a c^AB (BN 0)^AB (AO AG) AM)))) Im
omit A in
def oO:Ag ["_law_feed_here","_law_most","_law_ties","_law_places","_law_free","_law_a","_law_way_here","_law_many","_law_found","_law_k","_law_b"] ["_law_feed_here","_law_most","_law_ties"]^AI Jh:=by walk_at "s"
def OX:Qx P w K mg base:=A.got A.h__law_net λT F m b=>have d:=J8 A;have e:=LN A;have c:=Ba A;ET F oO (λa=>(AF (Aq (i:=3) oO.nd rfl (TW rfl) (cg a e^AB (BN 0)^AB (AO^A3 As A4 AG^cg a c^AB (BN 0)^AB (AO^A3 Dn FL (dv 1) AG) AM) AM))
 (AF (Bm (i:=4) oO.nd rfl (TW rfl) (BO AK))
 (AF (By gL rfl (Cu^dv 3) (Ab (i:=5) oO.nd rfl (iI rfl)) (AH^Cr 4 PySem.F.plainAttrs_list PySem.F.slot_list_extend PySem.F.type_list_extend S8 cm (pv 4)^AA (Ph [("_law_a":Str),("_law_b":Str)] [P3 5,p_] (CC^dv 3) (Ab (i:=1) (show iH [("_law_a":Str),("_law_b":Str)] by decide +kernel) rfl (TW rfl)) (Fi^Aj (DP a) FN (dv 0) (dv 1)^Ak _) (An^AA (dv 0)^AA (dv 1) AK)^by kernel_rfl) AK))
 (AF (Aq (i:=6) oO.nd rfl (TW rfl) (cg a c^AB (BN 0)^AB (AO AG) AM))
 (AF (Aq (i:=7) oO.nd rfl (TW rfl) (A3 Dn FL (dv 2)^cg a c^AB (BN 0)^AB (AO^A3 As A4 (A3 JB Hv (dv 2) AG) AG) AM))
 (AF (BF (Aj C4 FO (cg a c^AB (BN 0)^AB (AO AG) AM) AG^Ak _) (AH (Aq (i:=7) oO.nd rfl (TW rfl) (cg a c^AB (BN 0)^AB (AO AG) AM))) Al)
 (AF (Bm (i:=8) oO.nd rfl (TW rfl) (BO AK))
 (AF (By gL rfl (EG rfl T.Gae (AT (Ao (Tj rfl) aS rfl T.Gap boot_min (AT (dv 7)^AT (Ao A8 CK rfl T.Gac PySem.boot_len (AT (Dz 4) Ai)) Ai)) Ai)) (Ab (i:=9) oO.nd rfl (TW rfl)) (AF (R7 (i:=4) (pv 4) (cg a c^AB (BN 0)^AB (AO (Ao A8 CK rfl T.Gac PySem.boot_len (AT (Dz 4) Ai))) AM) (Ci rfl (Ar (Ab (i:=5) oO.nd rfl (iI rfl))^Ar (Ab (i:=10) oO.nd rfl (TW rfl)) B5)))
 (AH^Cr 8 PySem.F.plainAttrs_list PySem.F.slot_list_append PySem.F.type_list_append BK Dd (pv 8)^AA (An^AA (dv 5)^AA (dv 10)^AA (cg a d^AB (BN 0)^AB (AO^dv 6) AM) AK) AK)))
 (AH^Ah^An^AA (dv 3)^AA (Bi BJ CJ rfl T.Gab jF (AT (Ao Cv Fk rfl T.Gad j2 (AT (Dz 8) Ai)) Ai)) AK)))))))))) Ml
omit A in
def oR:Ag ["_law_ties","_law_some_here"] ["_law_ties"]^AI Gi:=by walk_at "s"
def Fz:Nl P w K mg base:=A.got A.h__law_order λT F m b=>ET F oR (λa=>(AF (Aq (i:=1) oR.nd rfl (TW rfl) (Ao Cv Fk rfl T.Gad j2 (AT (Ph [("_law_tie":Str)] [p_] (CC^dv 0) (Ab (i:=0) (show iH [("_law_tie":Str)] by decide +kernel) rfl (TW rfl)) C1 (An^AA (AV AN Am (dv 0) AG)^AA (AV AN Am (dv 0) AG)^AA (AV AN Am (dv 0) AG) AK)^by kernel_rfl) Ai)))
 (AH^Ah^Ph [("_law_length_here":Str),("_law_a":Str),("_law_b":Str)] [p_,p_,p_] (CC^dv 1) (Ci rfl (Ar (Ab (i:=0) (show iH [("_law_length_here":Str),("_law_a":Str),("_law_b":Str)] by decide +kernel) rfl (TW rfl))^Ar (Ab (i:=1) (show iH [("_law_length_here":Str),("_law_a":Str),("_law_b":Str)] by decide +kernel) rfl (TW rfl))^Ar (Ab (i:=2) (show iH [("_law_length_here":Str),("_law_a":Str),("_law_b":Str)] by decide +kernel) rfl (TW rfl)) B5)) C1 (An^AA (dv 1)^AA (dv 2)^AA (dv 0) AK)^by kernel_rfl))) Jn
omit A in
def oS:Ag ["_law_ties","_law_place","_law_known","_law_grew","_law_a","_law_b","_law_length_here","_law_one","_law_other"] ["_law_ties","_law_place"]^AI Es:=by walk_at "s"
def EZ:Kx P w K mg base:=A.got A.h__law_lengths λT F m b=>ET F oS (λc=>(AF (Bm (i:=2) oS.nd rfl (TW rfl) (Ow (dv 1) AG))
 (AF (Aq (i:=3) oS.nd rfl (TW rfl) CU)
 (AF (FD gL (Bp^dv 3) (AF (Aq (i:=3) oS.nd rfl (TW rfl) CU)
 (AH (JD gL rfl (pv 0) (Ci rfl (Ar (Ab (i:=4) oS.nd rfl (TW rfl))^Ar (Ab (i:=5) oS.nd rfl (TW rfl))^Ar (Ab (i:=6) oS.nd rfl (TW rfl)) B5)) (AH (By gL rfl (Cu^BO^AA (An^AA (dv 4)^AA (dv 5) AK)^AA (An^AA (dv 5)^AA (dv 4) AK) AK) (Ci rfl (Ar (Ab (i:=7) oS.nd rfl (TW rfl))^Ar (Ab (i:=8) oS.nd rfl (TW rfl)) B5)) (AH (BF (DTW.dt^GL (Aj (QK c) Wf (dv 7) (Dz 2)^by with_unfolding_all rfl)^G2^Aj (DP c) FN (A3 As A4 (Bc c (Dz 2)^dv 7)^dv 6) (YC c (Dz 2) (dv 8)^A3 Jz Hv AG AG)^Ak _) (AF (EV (i:=2) c (pv 2) (dv 8)^A3 As A4 (Bc c (Dz 2)^dv 7)^dv 6)
 (AH (Aq (i:=3) oS.nd rfl (TW rfl) CU))) Al))))))))
 (AH^NO 2^pv 2))))) HU
omit A in
def LC:Ag ["_law_thing"] ["_law_thing"]^AI Gh:=by walk_at "s"
def LM:Nk P w K mg base:=A.got A.h__law_whole (λT F m b=>ET F LC (λa=>(AH^Ah^GR (CA NC (dv 0) rfl T.Gaa rfl T.Gak (by decide +kernel))^Hs^Qf (CA Oi (dv 0) rfl T.Gaa rfl T.Gan (by decide +kernel)))) IK) (λ_ _ _ h=>Lp h)
omit A in
def oU:Ag ["_law_net_here","_law_thing","_law_tie"] ["_law_net_here","_law_thing"]^AI Et:=by walk_at "s"
def Ip:Ky P w K mg base:=A.got A.h__law_is_thin λT F m b=>have d:=LM A;ET F oU (λa=>(AF (BF (DTW.dt^Cq (CO^Bp (CA kit_tuple (dv 1) rfl T.Gaa rfl T.Gab (by decide +kernel)))^Cq (Aj (J0 a) PD (Ao A8 CK rfl T.Gac PySem.boot_len (AT (dv 1) Ai)) AG^Ak _)^Cq (Aj (J0 a) PD (AV AN Am (dv 1) AG) (AV AN Am (dv 0) AG)^Ak _)^C9^CO^Bp (CA kit_tuple (AV AN Am (dv 1) AG) rfl T.Gaa rfl T.Gab (by decide +kernel))) (AH^Ah CU) Al)
 (AF (By gL rfl (Cu^AV AN Am (dv 1) AG) (Ab (i:=2) oU.nd rfl (TW rfl)) (AH^BF (DTW.dt^Cq (CO^Bp (CA kit_tuple (dv 2) rfl T.Gaa rfl T.Gab (by decide +kernel)))^Cq (Aj (J0 a) PD (Ao A8 CK rfl T.Gac PySem.boot_len (AT (dv 2) Ai)) AG^Ak _)^Cq (CO^Bp^cg a d^AB (AO^AV AN Am (dv 2) AG) AM)^C9^Aj (Hc a) Kv (dv 2) (AV AN Am (dv 0) AG)^by with_unfolding_all rfl) (AH^Ah CU) Al))
 (AH^Ah (Ao (FF rfl) PL rfl T.Gaf jU (AT (Ph [("_law_thing":Str),("_law_k":Str)] [P3 1,p_] (DI.c (EG rfl T.Gae (AT (A3 Dn FL (Ao A8 CK rfl T.Gac PySem.boot_len (AT (AV AN Am (dv 1) AG) Ai)) AG) Ai))) (Ab (i:=1) (show iH [("_law_thing":Str),("_law_k":Str)] by decide +kernel) rfl (TW rfl)) C1 (GQ (DP a) FN (AV AN Am (AV AN Am (dv 0) AG)^dv 1) (AV AN Am (AV AN Am (dv 0) AG)^A3 As A4 (dv 1) AG)^Ak _)^by kernel_rfl) Ai)))))) HV
omit A in
def oW:Ag ["_law_places","_law_ties","_law_thing","_law_a","_law_b","_law_lengths_here","_law_one","_law_other","_law_length_here","_law_along"] ["_law_places","_law_ties","_law_thing","_law_a","_law_b"]^AI Jj:=by walk_at "s"
def OZ:Qz P w K mg base:=A.got A.h__law_led λT F m b=>ET F oW (λc=>(AF (BF (DTW.dt^Cq (CO^Bp (CA kit_tuple (dv 2) rfl T.Gaa rfl T.Gab (by decide +kernel)))^C9^Aj C4 FO (Ao A8 CK rfl T.Gac PySem.boot_len (AT (dv 2) Ai)) AG^Ak _) (AH^Ah BX) Al)
 (AF (BF (DTW.dt^Cq (CO^Bp (Ao (FF rfl) PL rfl T.Gaf jU (AT (Ph [("_law_places":Str),("_law_one":Str)] [P3 0,p_] (CC^dv 2) (Ab (i:=1) (show iH [("_law_places":Str),("_law_one":Str)] by decide +kernel) rfl (TW rfl)) C1 (GR (CA NB (dv 1) rfl T.Gaa rfl T.Gal (by decide +kernel))^Hs^GQ (QJ c) Kv (dv 1) (dv 0)^by with_unfolding_all rfl)^by kernel_rfl) Ai)))^Cq (Aj IL PF (AV AN Am (dv 2) AG) (dv 3)^Ak _)^C9^Aj IL PF (AV AN Am (dv 2)^Hu AG) (dv 4)^Ak _) (AH^Ah BX) Al)
 (AF (Bm (i:=5) oW.nd rfl (TW rfl) WH)
 (AF (JD gL rfl (pv 1) (Ci rfl (Ar (Ab (i:=6) oW.nd rfl (TW rfl))^Ar (Ab (i:=7) oW.nd rfl (TW rfl))^Ar (Ab (i:=8) oW.nd rfl (TW rfl)) B5)) (AF (R6 (i:=5) c (pv 5) (An^AA (dv 6)^AA (dv 7) AK)^dv 8)
 (AH^R6 (i:=5) c (pv 5) (An^AA (dv 7)^AA (dv 6) AK)^dv 8)))
 (AF (Aq (i:=9) oW.nd rfl (TW rfl) AG)
 (AF (By gL rfl (WB rfl T.Gam (AA (dv 2)^AA (CT D8 CV (dv 2) (BP AG) Bb) AK)) (Ci rfl (Ar (Ab (i:=6) oW.nd rfl (TW rfl))^Ar (Ab (i:=7) oW.nd rfl (TW rfl)) B5)) (AF (BF (Aj (Cs c) Wa (An^AA (dv 6)^AA (dv 7) AK) (Dz 5)^by with_unfolding_all rfl) (AH^Ah BX) Al)
 (AH (Aq (i:=9) oW.nd rfl (TW rfl) (A3 As A4 (dv 9)^X_ c (Dz 5)^An^AA (dv 6)^AA (dv 7) AK)))))
 (AH^Ah^dv 9)))))))) Us
omit A in
def oX:Ag ["_law_ties","_law_a","_law_b","_law_known","_law_way_here","_law_one","_law_other","_law_length_here","_law_near"] ["_law_ties","_law_a","_law_b"]^AI Je:=by walk_at "s"
def OV:Qu P w K mg base:=A.got A.h__law_way λT F m b=>have d:=EZ A;ET F oX (λc=>(AF (Aq (i:=3) oX.nd rfl (TW rfl) (cg c d^AB (DY^Dz 0)^AB (AO^dv 1) AM))
 (AF (BF (Aj (Cs c) EK (dv 2) (dv 3)^by with_unfolding_all rfl) (AH^Ah BX) Al)
 (AF (Bm (i:=4) oX.nd rfl (TW rfl) (BO^AA (dv 2) AK))
 (AF (FD gL (Aj IL PF (AV AN Am (Dz 4) AG) (dv 1)^Ak _) (AH (JD gL rfl (pv 0) (Ci rfl (Ar (Ab (i:=5) oX.nd rfl (TW rfl))^Ar (Ab (i:=6) oX.nd rfl (TW rfl))^Ar (Ab (i:=7) oX.nd rfl (TW rfl)) B5)) (AF (Aq (i:=8) oX.nd rfl (TW rfl) (ME (Aj C4 FO (dv 5) (AV AN Am (Dz 4) AG)^Ak _) (dv 6)^ME (Aj C4 FO (dv 6) (AV AN Am (Dz 4) AG)^Ak _) (dv 5) BX))
 (AH (BF (DTW.dt^GL (Aj JA Nc (dv 8) BX^Ak _)^GL (Aj (QK c) Wf (dv 8) (dv 3)^by with_unfolding_all rfl)^G2^Aj C4 FO (A3 As A4 (Bc c (dv 3)^dv 8)^dv 7) (Bc c (dv 3)^AV AN Am (Dz 4) AG)^Ak _) (AF (Cr 4 PySem.F.plainAttrs_list PySem.F.slot_list_insert PySem.F.type_list_insert S7 cj (pv 4)^AA AG^AA (dv 8) AK)
 (AH V9)) Al))))))
 (AH^Ah (Bi BJ CJ rfl T.Gab jF (AT (Dz 4) Ai)))))))) Sh
omit A in
def oZ:Ag ["_law_e","_law_some_here"] ["_law_e"]^AI Er:=by walk_at "s"
def Io:Kw P w K mg base:=A.gotH A.h__law_refused λT F=>by
 let#[C_NoLine,U_NoLine,j,k]:=T.x_NoLine;let#[C_NoPaper,U_NoPaper,a,b]:=T.x_NoPaper;let#[C_NoPlace,U_NoPlace,c,d]:=T.x_NoPlace;let#[C_NoRow,U_NoRow,l,m]:=T.x_NoRow;let#[C_NoTie,U_NoTie,o,p]:=T.x_NoTie;let#[C_TooMany,U_TooMany,e,g]:=T.x_TooMany;let#[C_Twice,U_Twice,q,r]:=T.x_Twice;exact eY F oZ (by cbv) (λu A t s H E v y=>(AF (Aq (i:=1) oZ.nd rfl (TW rfl) (BO^AA (GP (i:=0) (by cbv) e rfl g rfl T.Gaa)^AA (GP (i:=0) (by cbv) q rfl r rfl T.Gaa)^AA (GP (i:=0) (by cbv) c rfl d rfl T.Gaa)^AA (GP (i:=0) (by cbv) o rfl p rfl T.Gaa) AK))
 (AF (Aq (i:=1) oZ.nd rfl (TW rfl) (A3 As A4 (dv 1)^BO^AA (GP (i:=0) (by cbv) j rfl k rfl T.Gaa)^AA (GP (i:=0) (by cbv) l rfl m rfl T.Gaa)^AA (Qf (YB (i:=0) rfl T.Gai rfl T.Gaa)) AK))
 (AF (BF (DTW.dt^Cq (Aj (Xc v) Kv CU (dv 1)^by with_unfolding_all rfl)^C9^CO^Bp (GP (i:=0) (by cbv) a rfl b rfl T.Gaa)) (AH^Ah Az) Al)
 (AH^Ah^An^AA (Yu (i:=0)^by cbv)^AA (Yu (i:=0)^by cbv) AK))))) (λz n B C x=>Um x)
omit A in
def oa:Ag ["_law_net_here","_law_piece","_law_place","_law_kept","_law_tie","_law_one","_law_other"] ["_law_net_here"]^AI Dk:=by walk_at "s"
def DQ:HH P w K mg base:=A.got A.h__law_least_tree λT F m b=>have c:=Fz A;ET F oa (λa=>(AF (Bm (i:=1) oa.nd rfl (TW rfl) Ox)
 (AF (By gL rfl (Cu^AV AN Am (dv 0) AG) (Ab (i:=2) oa.nd rfl (TW rfl)) (AH^EV (i:=1) a (pv 1) (dv 2)^dv 2))
 (AF (Bm (i:=3) oa.nd rfl (TW rfl) (BO AK))
 (AF (By gL rfl (Cu^cg a c^AB (AO^AV AN Am (dv 0) AG) AM) (Ab (i:=4) oa.nd rfl (TW rfl)) (AF (Aq (i:=5) oa.nd rfl (TW rfl) (Bc a (Dz 1)^AV AN Am (dv 4) AG))
 (AF (Aq (i:=6) oa.nd rfl (TW rfl) (Bc a (Dz 1)^AV AN Am (dv 4) AG))
 (AH (BF (Aj IL PF (dv 5) (dv 6)^Ak _) (AF (Cr 3 PySem.F.plainAttrs_list PySem.F.slot_list_append PySem.F.type_list_append BK Dd (pv 3)^AA (dv 4) AK)
 (AH (By gL rfl (Cu^AV AN Am (dv 0) AG) (Ab (i:=2) oa.nd rfl (TW rfl)) (AH^BF (Aj C4 FO (Bc a (Dz 1)^dv 2) (dv 6)^Ak _) (AH^EV (i:=1) a (pv 1) (dv 2)^dv 5) Al)))) Al)))))
 (AH^Ah^An^AA (AV AN Am (dv 0) AG)^AA (Bi BJ CJ rfl T.Gab jF (AT (Ao Cv Fk rfl T.Gad j2 (AT (Dz 3) Ai)) Ai)) AK)))))) Jp
omit A in
def oh:Ag ["_law_feed_here","_law_ties","_law_share"] ["_law_feed_here","_law_ties"]^AI IH:=by walk_at "s"
def M5:PU P w K mg base:=A.got A.h__law_some λT F m b=>have a:=Ba A;ET F oh (λc=>(AF (Aq (i:=2) oh.nd rfl (iI rfl) (A3 As A4 AG^cg c a^AB (BN 0)^AB (AO AG) AM))
 (AH^Ah (Bi BJ CJ rfl T.Gab jF (AT (Ph [("_law_feed_here":Str),("_law_share":Str),("_law_tie":Str)] [P3 0,P3 2,p_] (CC^dv 1) (Ab (i:=2) (show iH [("_law_feed_here":Str),("_law_share":Str),("_law_tie":Str)] by decide +kernel) rfl (TW rfl)) (Fi^Aj J5 PK (cg c a^AB (BN 0)^AB (AO^A3 As A4 AG^dv 1) AM) AG^Ak _) (dv 2)^by kernel_rfl) Ai))))) LH
omit A in
def oi:Ag ["_law_feed_here","_law_net_here","_law_left_here","_law_kept","_law_tie"] ["_law_feed_here","_law_net_here"]^AI EX:=by walk_at "s"
def He:Iv P w K mg base:=A.got A.h__law_any_tree λT F m b=>have d:=EZ A;have e:=Ba A;ET F oi (λa=>(AF (Bm (i:=2) oi.nd rfl (TW rfl) (Bi DF Nd rfl T.Gag boot_list (AT (AV AN Am (dv 1) AG) Ai)))
 (AF (Bm (i:=3) oi.nd rfl (TW rfl) (BO AK))
 (AF (FD gL (Aj (J0 a) PD (Dz 2) (BO AK)^Ak _) (AF (R7 (i:=2) (pv 2) (cg a e^AB (BN 0)^AB (AO (Ao A8 CK rfl T.Gac PySem.boot_len (AT (Dz 2) Ai))) AM) (Ab (i:=4) oi.nd rfl (TW rfl)))
 (AH^BF (Aj (Cs a) EK (AV AN Am (dv 4) AG) (cg a d^AB (DY^Dz 3)^AB (AO^AV AN Am (dv 4) AG) AM)^by with_unfolding_all rfl) (AH^Cr 3 PySem.F.plainAttrs_list PySem.F.slot_list_append PySem.F.type_list_append BK Dd (pv 3)^AA (dv 4) AK) Al)))
 (AH^Ah^An^AA (AV AN Am (dv 1) AG)^AA (Bi BJ CJ rfl T.Gab jF (AT (Ao Cv Fk rfl T.Gad j2 (AT (Dz 3) Ai)) Ai)) AK))))) Gp
omit A in
def oj:Ag ["_law_feed_here","_law_places","_law_ties","_law_way_here","_law_at","_law_near","_law_a","_law_b","_law_length_here"] ["_law_feed_here","_law_places","_law_ties","_law_way_here"]^AI Fw:=by walk_at "s"
def J_:Lc P w K mg base:=A.got A.h__law_detour λT F m b=>have d:=Ba A;ET F oj (λc=>(AF (Aq (i:=4) oj.nd rfl (TW rfl) (cg c d^AB (BN 0)^AB (AO (Ao A8 CK rfl T.Gac PySem.boot_len (AT (dv 3) Ai))) AM))
 (AF (Bm (i:=5) oj.nd rfl (TW rfl) (BO AK))
 (AF (JD gL rfl (pv 2) (Ci rfl (Ar (Ab (i:=6) oj.nd rfl (TW rfl))^Ar (Ab (i:=7) oj.nd rfl (TW rfl))^Ar (Ab (i:=8) oj.nd rfl (TW rfl)) B5)) (AH^BF (Aj (QJ c) Kv (AV AN Am (dv 3)^dv 4) (An^AA (dv 6)^AA (dv 7) AK)^by with_unfolding_all rfl) (AH^Cr 5 PySem.F.plainAttrs_list PySem.F.slot_list_append PySem.F.type_list_append BK Dd (pv 5)^AA (ME (Aj C4 FO (AV AN Am (dv 3)^dv 4) (dv 6)^Ak _) (dv 7)^dv 6) AK) Al))
 (AF (BF (Aj (VP c) Yy (Dz 5) (BO AK)^Ak _) (AH^Ah^dv 3) Al)
 (AH^Ah^A3 As A4 (A3 As A4 (CT D8 CV (dv 3) Bb^BP^A3 As A4 (dv 4) AG)^An^AA (AV AN Am (Dz 5)^cg c d^AB (BN 0)^AB (AO (Ao A8 CK rfl T.Gac PySem.boot_len (AT (Dz 5) Ai))) AM) AK)^CT D8 CV (dv 3) (BP^dv 4) Bb)))))) Uv
omit A in
def om:Ag ["_law_feed_here","_law_some_here"] ["_law_feed_here"]^AI Jg:=by walk_at "s"
def IR:Qw P w K mg base:=A.got A.h__law_odd λT F m b=>have a:=Ba A;ET F om (λc=>(AF (Aq (i:=1) om.nd rfl (TW rfl) (BO^AA BX^AA CU^AA AG^AA AG^AA (Hu AG)^AA AG^AA Az^AA Az^AA Az^AA (An AK)^AA (BO AK)^AA (An^AA Az AK)^AA (BO^AA Az AK)^AA (An^AA Az^AA (An AK) AK)^AA (A3 Jz Hv AG AG)^AA (An^AA Az^AA Az AK) AK))
 (AH^Ah^AV AN Am (dv 1)^cg c a^AB (BN 0)^AB (AO AG) AM))) Uq
omit A in
def oo:Ag ["_law_feed_here","_law_thing","_law_names_here","_law_deep","_law_way_here","_law_at","_law_inner"] ["_law_feed_here","_law_thing","_law_names_here","_law_deep"]^AI IJ:=by walk_at "s"
def M7:PZ P w K mg base:=A.got A.h__law_bent λT F m b=>have c:=Ba A;have d:=IR A;Yn 1 F oo m b (λj g a=>(AF (Aq (i:=4) oo.nd rfl (TW rfl) (Bk c (a.mono^by lk) rfl (AB (BN 0)^AB (AO AG) AM)))
 (AF (BF (Bp (CA kit_tuple (dv 1) rfl T.Gaa rfl T.Gab (by decide +kernel))) (AF (Aq (i:=5) oo.nd rfl (TW rfl) (Bk c (a.mono^by lk) rfl (AB (BN 0)^AB (AO^A3 As A4 (Ao A8 CK rfl T.Gac PySem.boot_len (AT (dv 1) Ai)) AG) AM)))
 (AF (BF (DTW.dt^GL (Aj J5 PK (dv 4) AG^Ak _)^GL (Aj (DP a) FN (dv 5) (Ao A8 CK rfl T.Gac PySem.boot_len (AT (dv 1) Ai))^Ak _)^G2^Aj J5 PK (dv 3) AG^Ak _) (AF (Aq (i:=6) oo.nd rfl (TW rfl) (Bk g (a.mono^Re _) rfl (AB (BN 0)^AB (AO^AV AN Am (dv 1)^dv 5)^AB (AO^dv 2)^AB (AO^A3 Dn FL (dv 3) AG) AM)))
 (AH^Ah^A3 As A4 (A3 As A4 (CT D8 CV (dv 1) Bb^BP^dv 5)^An^AA (dv 6) AK)^CT D8 CV (dv 1) (BP^A3 As A4 (dv 5) AG) Bb)) Al)
 (AF (BF (DTW.dt^Cq (Aj C4 FO (dv 4) AG^Ak _)^C9^Aj C4 FO (dv 4) AG^Ak _) (AH^Ah^A3 As A4 (CT D8 CV (dv 1) Bb^BP^dv 5)^CT D8 CV (dv 1) (BP^A3 As A4 (dv 5) AG) Bb) Al)
 (AF (BF (Aj C4 FO (dv 4) AG^Ak _) (AH^Ah^A3 As A4 (A3 As A4 (CT D8 CV (dv 1) Bb^BP^dv 5)^CT D8 CV (dv 1) (BP^dv 5)^BP^A3 As A4 (dv 5) AG)^CT D8 CV (dv 1) (BP^dv 5) Bb) Al)
 (AF (BF (Aj C4 FO (dv 4) AG^Ak _) (AH^Ah^A3 As A4 (A3 As A4 (CT D8 CV (dv 1) Bb^BP^dv 5)^An^AA (Bk d (a.mono^by lk) rfl (AB (BN 0) AM)) AK)^CT D8 CV (dv 1) (BP^dv 5) Bb) Al)
 (AH^Ah^AV AN Am (BO^AA (Bi DF Nd rfl T.Gag boot_list (AT (dv 1) Ai))^AA (Qe rfl (dv 1) rfl T.Gab rfl T.Gah) AK) (Bk c (a.mono^by lk) rfl (AB (BN 0)^AB (AO AG) AM)))))))) Al)
 (AF (BF (DTW.dt^GL (Bp (CA NB (dv 1) rfl T.Gaa rfl T.Gal (by decide +kernel)))^G2^Aj J5 PK (dv 4) AG^Ak _) (AH^Ah^AV AN Am (dv 2) (Bk c (a.mono^by lk) rfl (AB (BN 0)^AB (AO (Ao A8 CK rfl T.Gac PySem.boot_len (AT (dv 2) Ai))) AM))) Al)
 (AF (BF (DTW.dt^GL (Bp (CA NC (dv 1) rfl T.Gaa rfl T.Gak (by decide +kernel)))^G2^Aj J5 PK (dv 4) AG^Ak _) (AH^Ah^AV AN Am (BO^AA (A3 As A4 (dv 1) AG)^AA (A3 Dn FL (dv 1) AG)^AA (GQ C4 FO (dv 1) AG^Ak _)^AA (A3 As A4 (dv 1)^A3 Jz Hv AG AG)^AA AG^AA (A3 Dn FL (dv 1) AG)^AA (A3 As A4 (dv 1) AG) AK)^A3 Dn FL (dv 4) AG) Al)
 (AH^Ah (Bk d (a.mono^by lk) rfl (AB (BN 0) AM)))))))) Sk (λ_ _ _ _ h=>by let#[_,_,_,e,_]:=h;rw[e];rfl) (by cbv) 4
omit A in
def LD:Ag ["_law_ties","_law_tie"] ["_law_ties","_law_tie"]^AI Gk:=by walk_at "s"
def Du:Nn P w K mg base:=A.got A.h__law_ahead λT F m b=>ET F LD (λa=>(AH^Ah^Ph [("_law_tie":Str),("_law_one":Str)] [P3 1,p_] (CC^Dz 0) (Ab (i:=1) (show iH [("_law_tie":Str),("_law_one":Str)] by decide +kernel) rfl (TW rfl)) (Fi^Aj (DP a) FN (An^AA (AV AN Am (dv 1) AG)^AA (AV AN Am (dv 1) AG)^AA (AV AN Am (dv 1) AG) AK) (An^AA (AV AN Am (dv 0) AG)^AA (AV AN Am (dv 0) AG)^AA (AV AN Am (dv 0) AG) AK)^Ak _) (dv 1)^by kernel_rfl)) Ut
omit A in
def Mg:Ag ["_law_net_here","_law_thin"] ["_law_net_here","_law_thin"]^AI II:=by walk_at "s"
def EQ:PY P w K mg base:=A.got A.h__law_left λT F m b=>have d:=Fz A;ET F Mg (λc=>(AH^Ah^Ph [("_law_thin":Str),("_law_tie":Str)] [P3 1,p_] (CC^cg c d^AB (AO^AV AN Am (dv 0) AG) AM) (Ab (i:=1) (show iH [("_law_thin":Str),("_law_tie":Str)] by decide +kernel) rfl (TW rfl)) (Fi^Aj (Hc c) Kv (dv 1) (AV AN Am (dv 0) AG)^by with_unfolding_all rfl) (dv 1)^by kernel_rfl)) P8
omit A in
def oy:Ag ["_law_net_here","_law_thin","_law_paper","_law_left_here","_law_k","_law_tie"] ["_law_net_here","_law_thin","_law_paper"]^AI Jk:=by walk_at "s"
def Oa:Q0 P w K mg base:=A.got A.h__law_due λT F m b=>have c:=Du A;have d:=Ip A;have e:=DQ A;have g:=OZ A;have j:=EQ A;ET F oy (λa=>(AF (BF (DTW.dt^Cq (CO^Bp^cg a d^AB (AO^dv 0)^AB (AO^dv 1) AM)^C9^CO^Bp (CA kit_tuple (dv 2) rfl T.Gaa rfl T.Gab (by decide +kernel))) (AH^Ah^An^AA Az^AA AG AK) Al)
 (AF (Aq (i:=3) oy.nd rfl (TW rfl) (cg a j^AB (AO^dv 0)^AB (AO^dv 1) AM))
 (AF (BF (Aj IL PF (Ao A8 CK rfl T.Gac PySem.boot_len (AT (dv 2) Ai)) (Ao A8 CK rfl T.Gac PySem.boot_len (AT (dv 3) Ai))^Ak _) (AH^Ah^An^AA Az^AA AG AK) Al)
 (AF (BF (Aj (DP a) FN (Ao A8 CK rfl T.Gac PySem.boot_len (AT (AV AN Am (cg a e^AB (AO^dv 1) AM) AG) Ai)) (Ao A8 CK rfl T.Gac PySem.boot_len (AT (AV AN Am (dv 1) AG) Ai))^Ak _) (AH^Ah^An^AA Az^AA AG AK) Al)
 (AF (By gL rfl (EG rfl T.Gae (AT (Ao A8 CK rfl T.Gac PySem.boot_len (AT (dv 3) Ai)) Ai)) (Ab (i:=4) oy.nd rfl (TW rfl)) (AF (Aq (i:=5) oy.nd rfl (TW rfl) (AV AN Am (dv 3)^dv 4))
 (AH^BF (Aj J1 PJ (cg a g^AB (AO^AV AN Am (dv 0) AG)^AB (DY^cg a c^AB (DY^AV AN Am (dv 1) AG)^AB (AO^dv 5) AM)^AB (AO^AV AN Am (dv 2)^dv 4)^AB (AO^AV AN Am (dv 5) AG)^AB (AO^AV AN Am (dv 5) AG) AM) BX^Ak _) (AH^Ah^An^AA Az^AA (dv 4) AK) Al)))
 (AH^Ah BX))))))) Uu
omit A in
def o8:Ag ["_law_net_here","_law_thin","_law_paper","_law_found","_law_e"] ["_law_net_here","_law_thin","_law_paper"]^AI Ji:=by walk_at "s"
def OY:Qy P w K mg base:=A.got A.h__law_let λT F m b=>have j:=Io A;have GR_lets_tree:=Mu A;by
 let#[C_ThinError,c,d,e]:=T.x_ThinError;exact ET F o8 (λg=>(AF (Aq (i:=3) o8.nd rfl (TW rfl) Az)
 (AF (aF rfl rfl (λ_ _ h=>h) (V8 (X2 (i:=3) o8.nd rfl (TW rfl) (X9 Zo ci (WD GR_lets_tree (g.mono^by cbv) rfl (AB (AO^dv 0)^AB (AO^dv 1)^AB (AO^dv 2) AM)) CU (Ak _) BX Az)))
 (X8 (i:=4) o8.nd rfl rfl rfl d e (TW #[rfl,c]) rfl rfl (λa=>(AH (Aq (i:=3) o8.nd rfl (TW rfl) (WI (a:=a) 4 rfl j ((g.held^P3^.ref a).mono^by cbv) rfl (AB (cZ 4) AM)))))
 aG))
 (AH^Ah^dv 3)))) Ur
omit A in
def o_:Ag ["_law_net_here","_law_thin","_law_is_ahead","_law_rows","_law_tie","_law_ties","_law_way_here"] ["_law_net_here","_law_thin","_law_is_ahead"]^AI Jf:=by walk_at "s"
def OW:Qv P w K mg base:=A.got A.h__law_own λT F m b=>have c:=Du A;have d:=EQ A;have e:=OV A;ET F o_ (λa=>(AF (Bm (i:=3) o_.nd rfl (TW rfl) (BO AK))
 (AF (By gL rfl (Cu^cg a d^AB (AO^dv 0)^AB (AO^dv 1) AM) (Ab (i:=4) o_.nd rfl (TW rfl)) (AF (Aq (i:=5) o_.nd rfl (TW rfl) (ME (Bp^dv 2) (DE.sh^cg a c^AB (DY^AV AN Am (dv 1) AG)^AB (AO^dv 4) AM)^AV AN Am (dv 1) AG))
 (AF (Aq (i:=6) o_.nd rfl (TW rfl) (cg a e^AB (DY^dv 5)^AB (AO^AV AN Am (dv 4) AG)^AB (AO^AV AN Am (dv 4) AG) AM))
 (AH^Cr 3 PySem.F.plainAttrs_list PySem.F.slot_list_append PySem.F.type_list_append BK Dd (pv 3)^AA (ME (Aj J1 PJ (dv 6) BX^Ak _) (An^AA (AV AN Am (dv 4) AG)^AA (AV AN Am (dv 4) AG) AK)^dv 6) AK))))
 (AH^Ah (Bi BJ CJ rfl T.Gab jF (AT (Dz 3) Ai)))))) Uo
omit A in
def pB:Ag ["_law_feed_here","_law_net_here","_law_thin","_law_paper","_law_some_here","_law_at","_law_left_here","_law_way_here","_law_farther","_law_behind","_law_one","_law_more","_law_others","_law_other"] ["_law_feed_here","_law_net_here","_law_thin","_law_paper"]^AI Fv:=by walk_at "s"
def J9:Lb P w K mg base:=A.got A.h__law_forged λT F m b=>have e:=Du A;have g:=He A;have d:=J_ A;have j:=EQ A;have k:=Ba A;have c:=OW A;have l:=M5 A;ET F pB (λa=>(AF (Bm (i:=4) pB.nd rfl (TW rfl) (BO^AA (An^AA (dv 2)^AA (dv 3) AK)^AA (An^AA (dv 2)^AA (cg a c^AB (AO^dv 1)^AB (AO^dv 2)^AB (AO CU) AM) AK)^AA (An^AA (dv 2)^AA (cg a c^AB (AO^dv 1)^AB (AO^dv 2)^AB (AO CU) AM) AK)^AA (An^AA (dv 2)^AA (WF (dv 3)^Hu AG) AK) AK))
 (AF (BF (Aj (J0 a) PD (dv 3) (An AK)^Ak _) (AF (Aq (i:=5) pB.nd rfl (TW rfl) (cg a k^AB (BN 0)^AB (AO (Ao A8 CK rfl T.Gac PySem.boot_len (AT (dv 3) Ai))) AM))
 (AF (Aq (i:=6) pB.nd rfl (TW rfl) (AV AN Am (cg a j^AB (AO^dv 1)^AB (AO^dv 2) AM)^dv 5))
 (AF (Aq (i:=7) pB.nd rfl (TW rfl) (cg a d^AB (BN 0)^AB (AO^AV AN Am (dv 1) AG)^AB (DY^cg a e^AB (DY^AV AN Am (dv 2) AG)^AB (AO^dv 6) AM)^AB (AO^AV AN Am (dv 3)^dv 5) AM))
 (AF (Aq (i:=8) pB.nd rfl (TW rfl) (cg a d^AB (BN 0)^AB (AO^AV AN Am (dv 1) AG)^AB (DY^AV AN Am (dv 1) AG)^AB (AO^AV AN Am (dv 3)^dv 5) AM))
 (AF (Aq (i:=9) pB.nd rfl (TW rfl) (cg a d^AB (BN 0)^AB (AO^AV AN Am (dv 1) AG)^AB (DY^AV AN Am (dv 2) AG)^AB (AO^AV AN Am (dv 3)^dv 5) AM))
 (AF (By gL rfl (Cu^BO^AA (dv 7)^AA (dv 8)^AA (dv 9)^AA (WF (dv 7)^Hu AG)^AA (CT D8 CV (dv 7) Bb^BP^Hu AG)^AA (Bi DF Nd rfl T.Gag boot_list (AT (dv 7) Ai))^AA (An^AA (AV AN Am (dv 6) AG)^AA (AV AN Am (dv 6) AG) AK) AK) (Ab (i:=10) pB.nd rfl (TW rfl)) (AH^Cr 4 PySem.F.plainAttrs_list PySem.F.slot_list_append PySem.F.type_list_append BK Dd (pv 4)^AA (An^AA (dv 2)^AA (A3 As A4 (A3 As A4 (CT D8 CV (dv 3) Bb^BP^dv 5)^An^AA (dv 10) AK)^CT D8 CV (dv 3) (BP^A3 As A4 (dv 5) AG) Bb) AK) AK))
 (AF (Aq (i:=11) pB.nd rfl (TW rfl) (An^AA (AV AN Am (dv 1) AG)^AA (Bi BJ CJ rfl T.Gab jF (AT (Ao Cv Fk rfl T.Gad j2 (AT (A3 As A4 (AV AN Am (dv 2) AG)^An^AA (dv 6) AK) Ai)) Ai)) AK))
 (AF (Cr 4 PySem.F.plainAttrs_list PySem.F.slot_list_append PySem.F.type_list_append BK Dd (pv 4)^AA (An^AA (dv 11)^AA (A3 As A4 (CT D8 CV (dv 3) Bb^BP^dv 5)^CT D8 CV (dv 3) (BP^A3 As A4 (dv 5) AG) Bb) AK) AK)
 (AH^Cr 4 PySem.F.plainAttrs_list PySem.F.slot_list_append PySem.F.type_list_append BK Dd (pv 4)^AA (An^AA (dv 11)^AA (cg a c^AB (AO^dv 1)^AB (AO^dv 11)^AB (AO CU) AM) AK) AK))))))))) Al)
 (AF (Aq (i:=12) pB.nd rfl (TW rfl) (BO^AA (cg a g^AB (BN 0)^AB (AO^dv 1) AM)^AA (dv 1)^AA (An^AA (AV AN Am (dv 1) AG)^AA (cg a l^AB (BN 0)^AB (AO^AV AN Am (dv 1) AG) AM) AK)^AA (An^AA (AV AN Am (dv 1) AG)^AA (CT D8 CV (AV AN Am (dv 2) AG) (BP AG) Bb) AK) AK))
 (AF (By gL rfl (Cu^dv 12) (Ab (i:=13) pB.nd rfl (TW rfl)) (AF (Cr 4 PySem.F.plainAttrs_list PySem.F.slot_list_append PySem.F.type_list_append BK Dd (pv 4)^AA (An^AA (dv 13)^AA (cg a c^AB (AO^dv 1)^AB (AO^dv 13)^AB (AO CU) AM) AK) AK)
 (AH^Cr 4 PySem.F.plainAttrs_list PySem.F.slot_list_append PySem.F.type_list_append BK Dd (pv 4)^AA (An^AA (dv 13)^AA (cg a c^AB (AO^dv 1)^AB (AO^dv 13)^AB (AO CU) AM) AK) AK)))
 (AH^NO 4^pv 4)))))) Sj
end
section
variable {P:Program}{w:World}{K:Frag}{mg:Str->t_ Value}{base:Heap}
def Mh:Ag ["_law_script"] ["_law_script"]^AI Eu:=by constructor <;>first|rfl|decide +kernel
def M6{f:Db}{fd:gy}(T:Txt K mg)(F:Fun K "_law_feed" "_law_feed" Eu f fd):CW P w K mg base FV 1 f fd ["_law_script"]^Mb K:=by
 refine F.ok Mh (λi H Q E h=>?_) λj A d s H i Q E n h=>?_
 .let#[a,k,rfl,_]:=h
  rfl
 .let#[a,k,rfl,#[l,m],q]:=h
  exists _,Cy^GD^QI^Bl (Lq DF rfl T.Gag boot_list (Bl (OQ sl_list (pv 0) RQ^RP BG) Cb))^Bl BG^Bl BG Cb;refine#[_,rfl,63,rfl,a,_,rfl,m,λp o=>#[p,_,rfl,.inl^SqL.of Af,λc r=>#[by show 3<=sizeLine;decide,λg e=>?_]]];rw[ce l]at e ⊢;have b:c≠g:=λz=>by rw[←z,Af]at e;cases e
  exact q c g _ b (by rw[AS b,Af]) Af
def pG:Ag ["_law_script","_law_feed_here","_law_net_here","_law_thin","_law_paper","_law_asked","_law_k","_law_one","_law_other"] ["_law_script"]^AI Jb:=by walk_at "s"
def Zq{h:gI}{f d:Db}{fd c:gy}(A:Ctx P w K mg base h)(m:CW P w K mg base FV 1 d c ["_law_script"]^Mb K)(n:mg "_law_feed"=P3^.ref d)(o:keepIn K^.ref d=q_)(p:Binds K c ["_law_script"] [])(F:Fun K "law" "law" Jb f fd):CW P w K mg base FV 8 f fd ["_law_script"]^OE K:=by
 have g:=M7 A;have j:=Oa A;have q:=J9 A;have r:=DQ A;have k:=OY A;have t:=OX A;have l:=IR A;have u:=LJ A;have T:=A.T
 exact cO (n0:=3000) F pG rfl (by cbv) (λe A b s H E a=>Ew (i:=1) pG.nd rfl (TW rfl) (RS m (a.mono^by cbv) rfl n o p .nil Yj (Bl (pv 0) Cb)))
  (λe A b s H E a=>(AF (Aq (i:=2) pG.nd rfl (TW rfl) (cg a t^AB (BN 1)^AB (AO AG)^AB (AO AG) AM))
 (AF (Aq (i:=3) pG.nd rfl (TW rfl) (cg a r^AB (AO^dv 2) AM))
 (AF (Aq (i:=4) pG.nd rfl (TW rfl) (cg a u^AB (AO^dv 2) AM))
 (AF (BF (DTW.dt^Cq (Aj JA Nc (cg a j^AB (AO^dv 2)^AB (AO^dv 3)^AB (AO^dv 4) AM) BX^Ak _)^C9^Aj JA Nc (cg a k^AB (AO^dv 2)^AB (AO^dv 3)^AB (AO^dv 4) AM) BX^Ak _) (AH^Ah CU) Al)
 (AF (Bm (i:=5) pG.nd rfl (TW rfl) (A3 RZ MN (cg a q^AB (BN 1)^AB (AO^dv 2)^AB (AO^dv 3)^AB (AO^dv 4) AM)^BO^AA (An^AA (dv 3)^AA (cg a l^AB (BN 1) AM) AK)^AA (An^AA (cg a l^AB (BN 1) AM)^AA (dv 4) AK) AK))
 (AF (By gL rfl (EG rfl T.Gae (AT AG Ai)) (Ab (i:=6) pG.nd rfl (TW rfl)) (AF (Cr 5 PySem.F.plainAttrs_list PySem.F.slot_list_append PySem.F.type_list_append BK Dd (pv 5)^AA (An^AA (dv 3)^AA (cg a g^AB (BN 1)^AB (AO^dv 4)^AB (AO^AV AN Am (dv 2) AG)^AB (AO AG) AM) AK) AK)
 (AH^BF (Aj (DP a) FN (dv 6) AG^Ak _) (AH^Cr 5 PySem.F.plainAttrs_list PySem.F.slot_list_append PySem.F.type_list_append BK Dd (pv 5)^AA (An^AA (cg a g^AB (BN 1)^AB (AO^dv 3)^AB (AO^AV AN Am (dv 2) AG)^AB (AO AG) AM)^AA (dv 4) AK) AK) Al)))
 (AF (X4 gL rfl (pv 5) (Ci rfl (Ar (Ab (i:=7) pG.nd rfl (TW rfl))^Ar (Ab (i:=8) pG.nd rfl (TW rfl)) B5)) (AH^BF (Aj IL PF (Ao (MF a) Wc rfl T.Gao boot_repr (AT (cg a k^AB (AO^dv 2)^AB (AO^dv 7)^AB (AO^dv 8) AM) Ai)) (Ao (MF a) Wc rfl T.Gao boot_repr (AT (cg a j^AB (AO^dv 2)^AB (AO^dv 7)^AB (AO^dv 8) AM) Ai))^Ak _) (AH^Ah CU) Al))
 (AH^Ah CU))))))))) P9
end
local macro_rules|`(tactic|walk_at "B")=>`(tactic|(intro _ _ _ _ _ _;exact fL λ_=>rfl))
def all_mk{l:PySem.W.OpenLaw}{w:gY}{K:Frag}{h:gI}{d:Str->t_ Ev}{i:Db}(e:d "law"=P3^.ref i)(A:C0 K d h):∃fd:gy,(∀(s:Go) (v:Ev),lg s fd #[[v],[]] [("_law_script",v)])/\∀b:gI,K.In b->b.Ns mainGlobals d->CW l.prog w K d b FV 8 i fd ["_law_script"]^OE K:=by
 let#[y,j,m,g]:=A.h__law_feed.fn A.X A.G;have n:=g.binds (ps:=["_law_script"]) (by walk_at "B");let#[f,z,B,o,C,p,q,r,t,u,a,x,c,k]:=A.h_law;cases e.symm.trans^mg_of A.X A.G a;exact#[fnOf "law" "law" (CL Jb) (BV Jb) (AI Jb) .none p q r o t u,λs v=>.of_eq rfl,λb _ _=>Zq A (M6 A.T g) m g.kp n^Qa (st:=Jb) x c k]
def walk{l:PySem.W.OpenLaw}{q:gN}{c:s_ Str}{m:(Str->t_ Ev)->gI->Prop}{i:gY->gI->Prop}{d:DefRec}{K:Params->Frag}(o:l.most=P3 63)(g:d.params.defaults=[])
  (p:∀(w:gY) (h:gI),i w h->(K w.params).In h)
  (F:∀(w:gY) (e:Str->t_ Ev) (j:Db) (h:gI),(K w.params).In h->h.Ns mainGlobals e->e d.name=P3^.ref j->
   ∃fd:gy,(∀(s:Go) (u:Ev),lg s fd #[[u],[]] [("_law_script",u)])/\∀b:gI,(K w.params).In b->b.Ns mainGlobals e->CW l.prog w (K w.params) e b FV 8 j fd ["_law_script"]^OE^K w.params):
  PySem.W.WalkO q c m i l.row.toRowW d [] (λf r=>PySem.call f r):=
 L2.Q7 (n:=63) (k:=8) (x:="_law_script") (CX:=λ_=>FV) (sp:=λw=>OE^K w.params) o (by cbv) g #[rfl,by cbv,by cbv,rfl] p F (λ_ _ a t v _ y=>#[a,t,rfl,#[v,y],λ_=>rfl]) λ_ _ _ _ _ z=>z
end K31
end _p
namespace PySem.W.Fast
theorem tw225484946640476319:True:=⟨⟩
theorem tw18308957187243990413:True:=⟨⟩
theorem tw4182797922681501267:True:=⟨⟩
theorem tw4160500519451588191:True:=⟨⟩
theorem tw10151874011021709283:True:=⟨⟩
theorem tw8874656702089350874:True:=⟨⟩
theorem tw14675339372069847196:True:=⟨⟩
theorem tw10803314238098490840:True:=⟨⟩
theorem tw4017406708169545707:True:=⟨⟩
theorem tw4108364818477916031:True:=⟨⟩
theorem tw7362111110843867695:True:=⟨⟩
theorem tw4216310453705506782:True:=⟨⟩
theorem tw4814777238467742263:True:=⟨⟩
theorem tw15728570310212071026:True:=⟨⟩
theorem tw10810174811702582078:True:=⟨⟩
theorem tw11983189740125942528:True:=⟨⟩
theorem tw12676718140253623555:True:=⟨⟩
theorem tw719739852826372917:True:=⟨⟩
theorem tw6892608750410662096:True:=⟨⟩
theorem tw7443863255127544989:True:=⟨⟩
theorem tw13504634096086841362:True:=⟨⟩
theorem tw17272653442830820018:True:=⟨⟩
theorem tw7513587527033838255:True:=⟨⟩
theorem tw17117222179442440227:True:=⟨⟩
theorem tw11110093648005672377:True:=⟨⟩
theorem tw6025709828220417772:True:=⟨⟩
theorem tw12517125775569474891:True:=⟨⟩
theorem tw8846447399231695391:True:=⟨⟩
theorem tw17697787955413466724:True:=⟨⟩
theorem tw8201093630937734142:True:=⟨⟩
theorem tw10829208566682870022:True:=⟨⟩
theorem tw18080408919348893014:True:=⟨⟩
theorem tw7155236823009869123:True:=⟨⟩
theorem tw10569286740072977259:True:=⟨⟩
theorem tw8760289663774753239:True:=⟨⟩
theorem tw9893228834089558847:True:=⟨⟩
theorem tw18364043711849005432:True:=⟨⟩
theorem tw13476483321869033544:True:=⟨⟩
theorem tw16195562452376700579:True:=⟨⟩
theorem tw3696326565617096613:True:=⟨⟩
theorem tw15676168061319666365:True:=⟨⟩
theorem tw9076788936189545381:True:=⟨⟩
theorem tw10070586533858219206:True:=⟨⟩
theorem tw5053322523386162788:True:=⟨⟩
theorem tw683967617766335307:True:=⟨⟩
theorem tw16520536512776679064:True:=⟨⟩
theorem tw1243811366978855897:True:=⟨⟩
theorem tw16590784541307814010:True:=⟨⟩
theorem tw2912515466715016555:True:=⟨⟩
theorem tw15632639348841508799:True:=⟨⟩
theorem tw6665611561789698459:True:=⟨⟩
theorem tw3626451998344702996:True:=⟨⟩
theorem tw7598168677189088234:True:=⟨⟩
theorem tw2467038440508098102:True:=⟨⟩
theorem tw9281427914739175818:True:=⟨⟩
theorem tw3517824912328904516:True:=⟨⟩
theorem tw8849159636556688766:True:=⟨⟩
theorem tw16525342513385552234:True:=⟨⟩
theorem tw15632587424092198739:True:=⟨⟩
theorem tw12840150310338737051:True:=⟨⟩
theorem tw9815545065695983842:True:=⟨⟩
theorem tw11798381628164186245:True:=⟨⟩
theorem tw18397153520114054254:True:=⟨⟩
theorem tw6401207938354460907:True:=⟨⟩
theorem tw8438122937021412125:True:=⟨⟩
theorem tw17851121685305931154:True:=⟨⟩
theorem tw12068879101040319664:True:=⟨⟩
theorem tw10702261798176727500:True:=⟨⟩
theorem tw10009702188901851199:True:=⟨⟩
theorem tw7352951323897733376:True:=⟨⟩
theorem tw7385915046664515532:True:=⟨⟩
theorem tw2253606552655649827:True:=⟨⟩
theorem tw6094479106211878641:True:=⟨⟩
theorem tw11503830091935002600:True:=⟨⟩
theorem tw18004206515265861586:True:=⟨⟩
theorem tw18353959238183558123:True:=⟨⟩
theorem tw719862994354058675:True:=⟨⟩
theorem tw3003907517979310964:True:=⟨⟩
theorem tw5918545797357023033:True:=⟨⟩
theorem tw4333367504573763190:True:=⟨⟩
theorem tw3760941999121904493:True:=⟨⟩
theorem tw17120954241505866750:True:=⟨⟩
theorem tw13853698922239719963:True:=⟨⟩
theorem tw13176731681461290591:True:=⟨⟩
theorem tw16049989779791501054:True:=⟨⟩
theorem tw2841089782978199530:True:=⟨⟩
theorem tw16555212043711165661:True:=⟨⟩
theorem tw14778949461290297567:True:=⟨⟩
theorem tw13494482308529562156:True:=⟨⟩
theorem tw6946981966942508042:True:=⟨⟩
theorem tw18007558386237549616:True:=⟨⟩
theorem tw17432940707889283349:True:=⟨⟩
theorem tw13160990442794373844:True:=⟨⟩
theorem tw13198290296361320467:True:=⟨⟩
theorem tw17771664073237557541:True:=⟨⟩
theorem tw15344086106903946474:True:=⟨⟩
theorem tw5172807909618881519:True:=⟨⟩
theorem tw4872176955238106738:True:=⟨⟩
theorem tw17113807113604273572:True:=⟨⟩
theorem tw5551912227945022314:True:=⟨⟩
theorem tw10498989954376056802:True:=⟨⟩
theorem tw17006172678583175029:True:=⟨⟩
theorem tw9378444899420412289:True:=⟨⟩
theorem tw13435301406730078435:True:=⟨⟩
theorem tw7724608332738864219:True:=⟨⟩
theorem tw10312413738411686520:True:=⟨⟩
theorem tw537367906144959395:True:=⟨⟩
theorem tw9041860942235326477:True:=⟨⟩
theorem tw5093649099490954227:True:=⟨⟩
theorem tw9236199852837138055:True:=⟨⟩
theorem tw2395854053673710825:True:=⟨⟩
theorem tw17609530752285477191:True:=⟨⟩
theorem tw4514022462355608390:True:=⟨⟩
theorem tw1584621983752239083:True:=⟨⟩
theorem tw15068293594874189121:True:=⟨⟩
theorem tw17241896190376138164:True:=⟨⟩
theorem tw14455469204027667323:True:=⟨⟩
theorem tw4311643610396755110:True:=⟨⟩
theorem tw15320670327138224905:True:=⟨⟩
theorem tw7218062880340353022:True:=⟨⟩
theorem tw10214073943171087135:True:=⟨⟩
theorem tw18319490780472181118:True:=⟨⟩
theorem tw11188960364709839810:True:=⟨⟩
theorem tw10664205935143007540:True:=⟨⟩
theorem tw12479205956350457179:True:=⟨⟩
theorem tw1016166270646762139:True:=⟨⟩
theorem tw1344542883828337250:True:=⟨⟩
theorem tw13703301850009229015:True:=⟨⟩
theorem tw6171676394482604042:True:=⟨⟩
theorem tw1394482372279007154:True:=⟨⟩
theorem tw14035903959855555515:True:=⟨⟩
theorem tw3621269349426859961:True:=⟨⟩
theorem tw8903994826225043208:True:=⟨⟩
theorem tw2975892282634542479:True:=⟨⟩
theorem tw17844976163739570381:True:=⟨⟩
theorem tw8510241414835171838:True:=⟨⟩
theorem tw18405939576677549434:True:=⟨⟩
theorem tw16699709794932669025:True:=⟨⟩
theorem tw13399600376247055954:True:=⟨⟩
theorem tw7686982021123469162:True:=⟨⟩
theorem tw4954949520243292927:True:=⟨⟩
theorem tw15021300908020933034:True:=⟨⟩
theorem tw4282599971275660318:True:=⟨⟩
theorem tw16745537137860894907:True:=⟨⟩
theorem tw10703718609020277123:True:=⟨⟩
theorem tw17175527959581460079:True:=⟨⟩
theorem tw9313982742192414681:True:=⟨⟩
theorem tw18209321594593760306:True:=⟨⟩
theorem tw7889982692457687433:True:=⟨⟩
theorem tw3838116177661268137:True:=⟨⟩
theorem tw13214864250551583206:True:=⟨⟩
theorem tw9940431145251586487:True:=⟨⟩
theorem tw14116887648995962555:True:=⟨⟩
theorem tw984998614462412106:True:=⟨⟩
theorem tw10782227105120211525:True:=⟨⟩
theorem tw863835194205718482:True:=⟨⟩
theorem tw15452223510663199972:True:=⟨⟩
theorem tw10493184760697417517:True:=⟨⟩
theorem tw13382637527920869665:True:=⟨⟩
theorem tw5522283956313133886:True:=⟨⟩
theorem tw13964509659949351261:True:=⟨⟩
theorem tw2108881458618745114:True:=⟨⟩
theorem tw5588356856690840045:True:=⟨⟩
theorem tw1536640004422966621:True:=⟨⟩
theorem tw13247008948320408756:True:=⟨⟩
theorem tw13246166144312215280:True:=⟨⟩
theorem tw16753216002993013516:True:=⟨⟩
theorem tw1698108137393406585:True:=⟨⟩
theorem tw4355645430983061459:True:=⟨⟩
theorem tw5242889077375139923:True:=⟨⟩
theorem tw18245393077672794263:True:=⟨⟩
theorem tw17115397129510592314:True:=⟨⟩
theorem tw3370389992734626004:True:=⟨⟩
theorem tw16169850378561946482:True:=⟨⟩
theorem tw17222940666397852454:True:=⟨⟩
theorem tw1597800165918534441:True:=⟨⟩
theorem tw3885252600870006509:True:=⟨⟩
theorem tw1501079889963164555:True:=⟨⟩
theorem tw13469224521825498678:True:=⟨⟩
theorem tw16450536751591837156:True:=⟨⟩
theorem tw11017194905818805010:True:=⟨⟩
theorem tw9223809662419652791:True:=⟨⟩
theorem tw9273445663781109214:True:=⟨⟩
theorem tw4293849195255784037:True:=⟨⟩
theorem tw15715817699725469194:True:=⟨⟩
theorem tw14988396358355274277:True:=⟨⟩
theorem tw5830535169687106811:True:=⟨⟩
theorem tw417256642176637340:True:=⟨⟩
theorem tw13744091022787821585:True:=⟨⟩
theorem tw1805454854863770413:True:=⟨⟩
theorem tw15148782402839309642:True:=⟨⟩
theorem tw11870441105685945174:True:=⟨⟩
theorem tw11228398341460346072:True:=⟨⟩
theorem tw9803329585876237092:True:=⟨⟩
theorem tw13319262354991509262:True:=⟨⟩
theorem tw4552133095457021073:True:=⟨⟩
theorem tw12108214734816756155:True:=⟨⟩
theorem tw17751366086117291794:True:=⟨⟩
theorem tw11317629175456896456:True:=⟨⟩
theorem tw12336023580905193624:True:=⟨⟩
theorem tw13079795567670727310:True:=⟨⟩
theorem tw13280202982282104883:True:=⟨⟩
end PySem.W.Fast
open _p
open PySem.W
set_option maxRecDepth 100000 in
set_option maxHeartbeats 0 in
theorem PySem.Challenge.cw_thinnet_k31_tree_papers_holds : PySem.Challenge.rw_thinnet_k31_tree_papers.Holds := by
 w_on;o_law;k_head;(case hw=>w_witness2)
 k_fill
 refine K31.walk (l:=PySem.Challenge.rw_thinnet_k31_tree_papers) rfl rfl (λw h Y=>PySem.W.kIn_of Y) ?F
 case F =>
  intro w mg fa h KX G hmg
  refine K31.all_mk (h:=h) hmg ?_
  apply K31.C0.mk KX G
  all_goals first
   | (refine' K31.Ht.mk ?a ?l ?c ?k;(case a=>k_is);(case l=>k_is);(case c=>k_is);(case k=>k_is))
   | (refine' K31.Hn.mk ?a;(case a=>k_is))
   | (refine' K31.Hx.mk ?c;(case c=>(refine' K31.xc_mk ?at_ ?atU ?o ?u ?kp ?ga ?gt ?sa ?ca ?nw ?nn ?nr;(case at_=>k_is);(case atU=>k_is);(case o=>k_is);(case u=>k_is);(case kp=>k_is);(case ga=>k_is);(case gt=>k_is);(case sa=>k_is);(case ca=>k_is);(case nw=>k_is);(case nn=>k_is);(case nr=>k_is))))
   | (refine' K31.H2.mk ?c ?i ?ty ?l ?cc ?k;(case c=>(refine' K31.xc_mk ?at_ ?atU ?o ?u ?kp ?ga ?gt ?sa ?ca ?nw ?nn ?nr;(case at_=>k_is);(case atU=>k_is);(case o=>k_is);(case u=>k_is);(case kp=>k_is);(case ga=>k_is);(case gt=>k_is);(case sa=>k_is);(case ca=>k_is);(case nw=>k_is);(case nn=>k_is);(case nr=>k_is)));(case i=>k_is);(case ty=>k_is);(case l=>k_is);(case cc=>k_is);(case k=>k_is))
#print axioms PySem.Challenge.cw_thinnet_k31_tree_papers_holds

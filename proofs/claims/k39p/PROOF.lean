import PyProof.Rows.All
import Wide.All
import OpenK.AllK
import Wide.FinOn
import Lean
import PyProof.EqAt
import PyProof.EqKinds
import PyProof.TupleCall
import PyProof.StationsW
import PyProof.PassesOwn
import PyProof.RulesAs
import PyProof.ExcClass3
import PyProof.Rows.CatchOwn
import OpenK.KMake
import OpenK.KWalk
import PyProof.InstStoreFacts
import PyProof.ExcBaseAll.ValueError
import PyProof.RangeIter
import OpenK.KRaise
import PyProof.NsDelKeeps
import KE.KIsAll
import PyProof.P3In
import PyProof.NeData
import PyProof.ExcArgs
import KE.KSortTup
import PyProof.CompUse
import KE.KRevIter
import PyProof.TupleOfGen
import PyProof.CollectIter
import PyProof.ListMulRoad
import PyProof.Draws
import PyProof.EnumMake
import PyProof.ListNew
import PyProof.AttrMissHeap
import PyProof.FactsAll.dict
import KE.KEqDict
import PyProof.FactsAll.zip
import PyProof.StrBlockH
import PyProof.MeetsStr2
import KE.KIntText
import PyProof.Rows.FStr
import PyProof.ReprLen
import PyProof.SumAny
import PyProof.Rows.SeqCalls
import PySem.SetOps
import PyProof.TupleKey
import PyProof.SetKind
import PyProof.IsRules
import PyProof.Rows.SetFrom
import PyProof.WalksMore
import PyProof.TupleIter
import KE.KDictSum
import PyProof.RulesTry
import PySem.Challenge.RW_thinnet_k39_whole_pairs
open PySem.W (Frag nsIn keepIn fnOf codeIn mg_of mg_none_of)
set_option Elab.async false
set_option linter.all false
set_option maxRecDepth 100000
open Array renaming length_toList->kO,getElem?_eq_getElem->kZ,getElem?_eq_some_iff->nI,getElem?_eq_none->n9,getElem_mem->pJ,getElem?_toList->p9,toArray_toList->qE
open Array.Perm renaming refl->ph
open Bool renaming and_eq_true->jN,false_ne_true->jR,eq_false_iff->ji,false_eq_true->kC,eq_iff_iff->kT
open Classical renaming byContradiction->mL,propDecidable->mY
open False renaming elim->jt
open ForInStep renaming yield->lW
open Iff renaming rfl->pP
open Int renaming le_refl->mO,mul_le_mul_of_nonneg_left->mw,toNat_natCast->mx,mul_le_mul_of_nonneg_right->oZ
open List renaming length_map->No,getElem?_eq_getElem->On,mem_cons_self->Rs,mem_cons_of_mem->Sc,mem_map->TM,mem_singleton->Tk,replicate->T0,mem_cons->UF,getElem?_eq_some_iff->ZB,size_toArray->f8,length_cons->jC,length_append->jD,getElem?_map->jG,mem_append->jK,not_mem_nil->jO,nil_append->jQ,mem_append_right->jU,length_singleton->jV,append_nil->jZ,nodup_cons->ja,Nodup->jb,toArray->jc,range->je,getElem_mem->jm,mem_of_getElem?->jo,map_cons->ju,map_append->jz,append_assoc->j6,getD_eq_getElem?_getD->j8,length_reverse->kG,getElem?_append_right->kH,drop_eq_getElem_cons->kJ,pairwise_cons->kM,nodup_nil->kR,length_nil->kW,map_map->kh,all_eq_true->kr,mem_filter->k_,cons_ne_nil->lI,mem_append_left->lJ,nodup_append->lL,mem_flatMap->lN,mem_reverse->lO,mem_range->lP,take_append_drop->lQ,lookup_cons->lj,lookup->lq,length_set->mB,mem_iff_getElem?->mC,length_filter_le->mE,getElem?_append_left->mH,mem_of_find?_eq_some->mM,lt_irrefl->mP,length_take->mR,drop_length->mT,any_eq_true->mU,filterMap_cons->mW,reverse_cons->my,pairwise_map->m6,getElem?_set_ne->nA,map_id->nL,of_mem_zip->nO,forIn_cons->nP,zip_cons_cons->nS,zipWith->nW,getElem?_replicate->nh,length_eq_zero_iff->ni,length->n8,take_length->oC,cons_append->oF,map_reverse->oG,getElem?_zipWith->oI,getElem?_eq_none->oJ,getElem?_reverse->oK,singleton_append->oM,find?_some->oW,filter_map->oX,mem_filterMap->oz,filterMap_map->o0,perm_ext_iff_of_nodup->pC,take_sublist->pD,getElem?_set->pH,length_range->pI,filter_congr->pL,length_drop->pU,getElem?_cons_succ->pe,pairwise_singleton->pf,getElem?_set_self->pi,range_succ_eq_map->pk,take_of_length_le->px,length_replicate->p7,drop_zero->p8,all_cons->qH,map_nil->qP
open List.Sublist renaming refl->pM
open Nat renaming le_refl->Op,zero_le->eq,le_trans->jJ,ne_of_lt->jL,lt_of_lt_of_le->jW,le_succ->jk,lt_irrefl->j7,lt_succ_of_lt->ke,ne_of_gt->lS,min_eq_left->lX,le_sub_of_add_le->mN,lt_of_le_of_lt->mh,min_le_right->nC,sub_self->nX,not_lt->ng,le_of_lt->pQ,succ_le_succ->pV,le_of_eq->pW,lt_succ_self->pX,le_add_right->pd,ble->qB,mul_le_mul->qC,mod_lt->qG
open Ne renaming symm->jv
open Option renaming map_eq_some_iff->jx,isSome_map->pG,some_beq_some->qF
open Option.some renaming inj->jH
open Or renaming inl->TW,inr->jy
open PyProof.Rows renaming slot_tuple_getitem->jg,callWith_type1->jw,boot_tuple->kX,boot_all->lC,boot_sorted->lw,listUpdate_at->mG,get?_update_seq->mj,AllBare->m7,IsTup->nc,listItems_at->oV,entry_tuple_getitem->oa,seqEpoch_at->oy,args_tuple_getitem->o4,size_push'->pO,lt_int->pj
open PyProof.Rows.KeyOrd renaming kle_refl->lB,kle_of_klt->nj,kle_trans->oE,kle_antisymm->qL
open PySem renaming wpAny_bind->Ch,Addr->Db,Value->Ev,Shared->Go,wpAny_pure->Re,Heap->jI,Program->jM,Stmt->jP,World->jT,Expr->jX,Around->jY,wpAny_field->jf,wpAny_mono->jh,sizeLine_eq->jj,wpAny_holding->jn,FuncData->jp,wpAny_Call_Name_kw->jq,wpAny_newObj_type->j1,wpAny_loadPart_at->kA,codeAny_builtin->kF,wpAny_callSpecial?_slot->kI,wpAny_loadPart'->kN,wpAny_isSubtype_exc->kP,plainId_quiet->kQ,wpAny_call_entry->kY,wpAny_truthy_bool->kd,builtinLookup_eq_fast->ki,Builtin->kz,wpAny_of_eq->k6,wpAny_seqItems->k7,wpAny_pyIter_list->k9,wpAny_pyIter_tuple->lD,IsPair->lH,Scope->lR,wpAny_call->lU,wpAny_specialOf->lV,typeLookup_type->lY,wpAny_attempt->lf,NameKind->lg,Keyword->lh,wpAny_setField->ln,wpAny_typeOf->l7,tupleKind_room_in1->l8,wpAny_setField_rec->l9,wpAny_passesOwn->l_,codeAny_call_builtin->mJ,codeAny_mono->mQ,wpAny_getItem_str_slice->mX,wpAny_execs_nil->me,wpAny_updateSeq->mn,wpAny_letGo->mq,IsZip->mz,isSubtype_type->m9,wpAny_rule->nE,wpAny_isInstance->nF,ExceptHandler->nJ,codeAny_of_tree->nQ,PyData->nR,wpAny_standAt->n_,wpAny_onRaise->oB,PassesOwn->oH,plainObj_wpAny_Assign_Attribute->oN,IsPart->oO,call_meetsIn->oP,post_val_or_str->oR,wpAny_updateSeq_pair->oS,BindsTo->oj,wpAny_tryCatch->oo,ItemsOf->oq,SetTable->ou,wpAny_newFunctionEnv_cells->o8,wpAny_newList->pA,wpAny_sequenceKey->pE,slot_list_getitem->pF,object_init_meets->pK,wpAny_execs_cons->pR,noFill_tuple_add->pS,wpAny_madeBy_exc->pY
open PySem.Around renaming under_plainId->kL,frames_deeper->qD
open PySem.Builtin.Builtins renaming bindParams->o6
open PySem.Builtin.List renaming listExtendWith->kn,listLengthHint->ko,listTooLong->mS,listSameRef->mV
open PySem.Builtin.ObjectAttr renaming storeInDict->oQ
open PySem.Builtin.Slice renaming slicePlaces->lA,sliceAdjust->mI,sliceApplied->o9
open PySem.Builtin.SmallTypes renaming nextOf->kc,ownedTupleIsFree->lK,ownedTupleHandOut->nU
open PySem.Builtin.Tuple renaming tupleExact->lF,tupleItemsOf->nH,tupleIsExact->o_
open PySem.Calls renaming spliced_cons->kU,spliced_nil->k8,callWith_builtin->lr,evalArgs_plain->nB,Name_function_global->o7
open PySem.Code renaming quiet_builtin->mi
open PySem.EntryCells renaming newEntry->qJ
open PySem.Expr renaming Call->nY
open PySem.F renaming slot_tuple_iterator_next->mF,called_tuple->m_,args_object_init_2->nG,plain_list_iadd->nk,plain_tuple_new->nt,slot_zip_next->oU,plain_reversed_new->oY,plain_extend_loop->oh,entry_object_init->oi,args_tuple_iterator_next_1->om,entry_tuple_iterator_next->o5
open PySem.Heap renaming get?_push_of_some->FM,lt_size->Uf,get?_push_size->XV,get?_update_other->jF,get?_update_self->jr,size_push->ku,SameBut->lz,get?_update_ne->nN,IsTuple->pZ,ExtBut->pq,IsList->pw
open PySem.Heap.ExtBut renaming push->qQ
open PySem.Heap.IsSliceOf renaming new->qO
open PySem.Heap.SameBut renaming update->og
open PySem.Heap.UpToSlots renaming refl->qK
open PySem.NameKind renaming free->j_,cell->oA
open PySem.Obj renaming mapSeq->j9,data_mapFields->lG,mapFields->lc,isFreed_of_fields->m8
open PySem.PassesOwn renaming never->jS
open PySem.PyData renaming eqv->kE,depthAll->kj,canLayAll0->lZ,eqvAll->pB,leavesShortAll->p_
open PySem.SeqAt.EqAt renaming int_str->qM,str_int->qN
open PySem.Shared renaming heap->mr
open PySem.Str renaming ofString->lE
open PySem.Value renaming ref->jE,none->jd,builtin->mZ,type->md,bool->pN
open PySem.Walks renaming listRev->qI
open Std.Legacy.Range renaming size->qA
open Sum renaming inr->kg,inl->nZ
open Sum.inr renaming inj->lu
open True renaming intro->lT
open PySem PySem.Spec PyProof.Rows
local macro_rules | `(tactic| walk_at "s")=>`(tactic| (constructor <;> first | rfl | decide +kernel))
namespace _p

local macro_rules|`(tactic|let#[$x,*]:=$e)=>open Lean Parser Tactic in do
 let q k a:=mkNode ``rcasesPatLo #[mkNode ``rcasesPatMed #[mkNullNode #[mkNode k a]],mkNullNode]
 let p:Syntax:=(← `(term|⟨$x,*⟩)).raw.rewriteBottomUp fun s=>if s.isIdent then q ``rcasesPat.one #[s] else if s.getKind= ``Term.hole then q ``rcasesPat.ignore s.getArgs else if s.getKind= ``Term.anonymousCtor||s.getKind= `«term#[_,]» then q ``rcasesPat.tuple s.getArgs else s
 let m:TSyntax ``rcasesPatMed:=⟨p[0]⟩
 `(tactic|obtain $m:rcasesPatMed:=$e)
local macro_rules|`(tactic|exists $x,*)=>`(tactic|refine⟨$x,*, ?_⟩)
local macro_rules|`(tactic|lk)=>`(tactic|first|lia|omega)
local macro_rules|`(tactic|cbv)=>`(tactic|decide)
local macro_rules|`($f^$x)=>if f.raw.getTrailingSize>0 then Lean.Macro.throwUnsupported else match f with|`($g $a*)=>`($g $a* $x)|_=>`($f $x)
local macro_rules|`(#[%$t $y,*])=>if t.getTrailingSize>0||y.getElems.size=0 then Lean.Macro.throwUnsupported else `(⟨$y,*⟩)
open Option renaming some->P3,none->s_
open Bool renaming true->t_,false->u_
abbrev v_(a:Type u):=List a
abbrev w_(a:Type u):=Option a
namespace L2
abbrev Key:=Sum Int Str
def NP:Key->Ev->Bool
 |.inl k,v=>Value.isInt k v
 |.inr x,v=>Value.isStrOf x v
def gv(w:jT):Key->Int
 |.inl k=>hashInt k
 |.inr x=>hashStr w x
theorem BX:∀{k:Key}{v:Ev},NP k v=t_->(∃i t,k=nZ i/\v=Value.int i t)\/(∃x t,k=kg x/\v=Value.str x t)
 |.inl i,v,h=>by
  let#[t,e]:=Value.isInt_shape h;exact .inl #[i,t,rfl,e]
 |.inr x,v,h=>by
  let#[t,e]:=Value.isStrOf_shape h;exact .inr #[x,t,rfl,e]
def VN(i:Int)(t:Tok):NP (.inl i)^.int i t=t_:=by simp[NP,Value.isInt]
def VM(x:Str)(t:Tok):NP (.inr x)^.str x t=t_:=by simp[NP,Value.isStrOf]
def b9(a b:Int):decide ((nZ a:Key)=nZ b)=(a==b):=by
 grind
def bz(a b:Str):decide ((kg a:Key)=kg b)=decide (a=b):=by
 grind
def b8(a:Int)(b:Str):decide ((nZ a:Key)=kg b)=u_:=decide_eq_false λq=>nomatch q
def b7(a:Str)(b:Int):decide ((kg a:Key)=nZ b)=u_:=decide_eq_false λq=>nomatch q
def BH(c:jM)(w:jT):PySem.KeyKind c w Key where
 is:=NP
 hash:=gv w
 inj:=λv a b l g=>by
  rcases BX l with⟨i,t,rfl,rfl⟩|⟨x,t,rfl,rfl⟩
  .rcases BX g with⟨j,u,rfl,e⟩|⟨y,u,rfl,e⟩
   .injection e with d _;rw[d]
   .exact nomatch e
  .rcases BX g with⟨j,u,rfl,e⟩|⟨y,u,rfl,e⟩
   .exact nomatch e
   .injection e with d _;rw[d]
 byValue:=λk v h=>by
  rcases BX h with⟨i,t,rfl,rfl⟩|⟨x,t,rfl,rfl⟩ <;>rfl
 pyHash:=λf h=>by
  rcases BX f with⟨i,t,rfl,rfl⟩|⟨x,t,rfl,rfl⟩
  .exact wpAny_pyHash_int h
  .exact wpAny_pyHash_str h
 eqBool:=λm f h=>by
  rcases BX m with⟨i,t,rfl,rfl⟩|⟨x,t,rfl,rfl⟩
  .rcases BX f with⟨j,u,rfl,rfl⟩|⟨y,u,rfl,rfl⟩
   .rw[b9]at h;exact wpAny_eqBool_int h
   .rw[b8]at h;exact qM i t y u _ _ _ _ h
  .rcases BX f with⟨j,u,rfl,rfl⟩|⟨y,u,rfl,rfl⟩
   .rw[b7]at h;exact qN x t j u _ _ _ _ h
   .rw[bz]at h;exact wpAny_eqBool_str h
 «strs»:=λk x t v h=>by
  rcases BX h with⟨i,u,rfl,e⟩|⟨y,u,rfl,e⟩
  .exact nomatch e
  .injection e with d _
   subst d
   cases v <;>rfl
def QH(a:jM)(w:jT)(i:Int)(t:Tok):(BH a w).is (.inl i)^.int i t=t_:=VN i t
def QG(a:jM)(w:jT)(x:Str)(t:Tok):(BH a w).is (.inr x)^.str x t=t_:=VM x t
inductive V where
 |non|bl (b:Bool)|int (i:Int)|str (x:Str)|byt (b:Array UInt8)|flt (b:UInt64)|ref (a:Db)|ty (n:String)
 deriving DecidableEq
def RelV:V->Ev->Prop
 |.non,u=>u=jd
 |.bl b,u=>u=pN b
 |.int i,u=>∃t,u=Value.int i t
 |.str x,u=>∃t,u=Value.str x t
 |.byt b,u=>∃t,u=Value.bytes b t
 |.flt b,u=>∃t,u=Value.float b t
 |.ref a,u=>u=jE a
 |.ty n,u=>u=md n
abbrev Vals:v_ V->v_ Ev->Prop:=Paired RelV
def Vals.length{a:v_ V}{b:v_ Ev}(r:Vals a b):a.length=b.length:=Paired.length r
theorem Vals.get:∀{a:v_ V}{b:v_ Ev}{i:Nat}{x:V},Vals a b->a[i]?=P3 x->∃u,b[i]?=P3 u/\RelV x u
 |_,_,_,_,.nil,e=>by simp at e
 |_,_,0,_,.cons r _,e=>by simp_all
 |_,_,i+1,x,.cons _ t,e=>by
  let#[u,c,d]:=Vals.get t^by simpa using e
  simp_all
theorem Vals.set{x:V}{u:Ev}(r:RelV x u):∀{a:v_ V}{b:v_ Ev} (i:Nat),Vals a b->Vals (a.set i x)^b.set i u
 |_,_,_,.nil=>.nil
 |_,_,0,.cons _ t=>.cons r t
 |_,_,i+1,.cons q t=>.cons q^Vals.set r i t
theorem Vals.append:∀{a b:v_ V}{c d:v_ Ev},Vals a c->Vals b d->Vals (a++b) (c++d)
 |_,_,_,_,.nil,s=>s
 |_,_,_,_,.cons r t,s=>.cons r^Vals.append t s
theorem Vals.take:∀{a:v_ V}{b:v_ Ev} (n:Nat),Vals a b->Vals (a.take n)^b.take n
 |_,_,0,_=>.nil
 |_,_,_+1,.nil=>.nil
 |_,_,n+1,.cons r t=>.cons r^Vals.take n t
theorem Vals.drop:∀{a:v_ V}{b:v_ Ev} (n:Nat),Vals a b->Vals (a.drop n)^b.drop n
 |_,_,0,r=>r
 |_,_,_+1,.nil=>.nil
 |_,_,n+1,.cons _ t=>Vals.drop n t
def RelO:w_ V->w_ Ev->Prop
 |some v,P3 u=>RelV v u
 |none,s_=>True
 |_,_=>False
def KV{a:Type}:v_ (a×V)->v_ (a×Ev)->Prop:=Paired fun(p:a×V) (q:a×Ev)=>p.1=q.1/\RelV p.2 q.2
def kV:Key->V
 |.inl i=>.int i
 |.inr x=>.str x
inductive HO where
 |lst (xs:List V)
 |tup (xs:List V)
 |dK (kvs:List (Key×V))|dT (kvs:List (List Key×V))
 |set (S:Int->Bool) (n:Nat)
 |ins (C dx:Db) (fs:List (Str×V))
 |own (x:Db)
 |xd (fs:List (Str×V))
 |met (f x:Db)
 |rng (lo hi:Int)
 |frz (o:Obj) (u:HO)
 |tbl (ps:Array Ev)
 |ext (φ:jI->Prop)
abbrev Hp:=Db->w_ HO
def A4(H:Hp)(a:Db)(o:HO):Hp:=λb=>if b=a then P3 o else H b
def Ah{H:Hp}{a:Db}{o:HO}:A4 H a o a=P3 o:=by unfold A4;grind
def AW{H:Hp}{a b:Db}{o:HO}(h:b≠a):A4 H a o b=H b:=by unfold A4;rw[if_neg h]
def fE{H:Hp}{a b:Db}{o u:HO}(h:H a=P3 o)(c:H b=P3 u)(d:o≠u):a≠b:=by
 grind
def A6{H:Hp}{a b:Db}{o:HO}(h:H a=P3 o)(c:H b=s_):a≠b:=by
 grind
def IsTupN(h:jI)(a:Db)(b:Array Ev):Prop:=∃o,h.get? a=P3 o/\o.cls=.type "tuple"/\∃n,o.data=.seq b n/\o.dict=s_/\o.slots=#[]
def IsTupN.tup{h:jI}{a:Db}{b:Array Ev}(x:IsTupN h a b):nc h a b:=let #[o,c,d,n,e,_]:=x;#[o,c,d,n,e]
def IsTupN.new(h:jI)(a:Array Ev):IsTupN (h.push {cls:=.type "tuple",data:=.seq a}) h.objs.size a:=#[_,XV _ rfl,rfl,_,rfl,rfl,rfl]
section
variable (P:Program)(w:World)
def ObjOk(H:Hp)(h:jI)(a:Db):HO->Prop
 |.lst d=>d.length<=sizeLine/\∃(b:v_ Ev) (n:Nat),Vals d b/\h.get? a=P3 {cls:=.type "list",data:=.seq b.toArray n}
 |.tup d=>d.length<=sizeLine/\∃b:v_ Ev,Vals d b/\IsTupN h a b.toArray
 |.dK c=>c.length<=sizeLine/\(a==sysModules)=u_/\∃k,KV c k/\h.DictOf (BH P w) a k
 | .dT c=>c.length<=sizeLine/\(a==sysModules)=u_/\∃d:v_ (v_ Key×Db×Ev),
   Paired (fun(p:v_ Key×V) (q:v_ Key×Db×Ev)=>p.1=q.1/\H q.2.1=P3^.tup^p.1.map kV/\RelV p.2 q.2.2) c d /\
   ∃o l y,h.get? a=P3 o/\o.ExactDict/\o.data=.dict l y/\l.toList=d.map^entryOfKey^tupleKind^BH P w/\(d.map (·.1)).Nodup
 |.set S n=>h.SetOf (intKind P w) a S n
 | .ins C i g=>H i=P3^.own a/\g.length<=1000/\i≠a/\h.get? a=P3^PySem.W.instObj C i /\
   ∃e,h.Ns1 i e/\(∀f,RelO (g.lookup f)^e f)/\PySem.Within e (g.map (·.1))
 |.own _=>∃o,h.get? a=P3 o
 |.xd g=>∃e,h.Ns1 a e/\∀f,RelO (g.lookup f)^e f
 |.rng z A=>∃t u v,h.get? a=P3 {cls:=.type "range",data:=.fields #[ .int z t,.int A u,.int 1 v]}
 |.frz o u=>h.get? a=P3 o/\ObjOk H h a u
 |.tbl B=>h.get? a=P3 {cls:=.none,data:=.fields B}
 |.met f x=>h.get? a=P3^PySem.W.methodObj (.ref f)^.ref x
 |.ext j=>j h/\(∃o,h.get? a=P3 o)/\∀m r:jI,j m->(∀o,m.get? a=P3 o->r.get? a=P3 o)->j r
def HOk(H:Hp)(h:jI):Prop:=∀a o,H a=P3 o->ObjOk P w H h a o
end
section
variable {P:Program}{w:World}{H H':Hp}{h h':Heap}{a:Addr}{o:HO}
def ObjOk.lt(x:ObjOk P w H h a o):a<h.objs.size:=by
 cases o with
 |lst c=>let#[_,_,_,_,e]:=x;exact Uf e
 |tup c=>let#[_,_,_,p]:=x;exact p.tup.lt
 |dK b=>let#[_,_,_,_,o,_,_,e,_]:=x;exact Uf e
 |dT b=>let#[_,_,_,_,o,_,_,e,_]:=x;exact Uf e
 |set S n=>let#[o,_,_,_,e,_]:=x;exact Uf e
 |ins C g d=>let#[_,_,_,e,_]:=x;exact Uf e
 |own y=>let#[_,e]:=x;exact Uf e
 |xd d=>let#[_,#[_,_,_,e,_],_]:=x;exact Uf e
 |rng i j=>let#[_,_,_,e]:=x;exact Uf e
 |frz k u=>let#[e,_]:=x;exact Uf e
 |tbl l=>exact Uf (show h.get? a=P3 _ from x)
 |met f y=>exact Uf (show h.get? a=P3 _ from x)
 |ext m=>let#[_,#[_,e],_]:=x;exact Uf e
theorem Paired.mapP{e g:Type}{F G:e->g->Prop}:∀{c:v_ e}{d:v_ g},Paired F c d->(∀a b,F a b->G a b)->Paired G c d
 |_,_,.nil,_=>.nil
 |_,_,.cons r t,f=>.cons (f _ _ r)^Paired.mapP t f
def ObjOk.stay(x:ObjOk P w H h a o)(k:∀b u,(b=a\/H b=P3^.own a)->h.get? b=P3 u->h'.get? b=P3 u)
  (F:∀b,H b=P3^.own a->H' b=P3^.own a) (G:∀b m,H b=P3^.tup m->H' b=P3^.tup m):ObjOk P w H' h' a o:=by
 induction o with
 |lst m=>let#[z,l,n,r,e]:=x;exact#[z,l,n,r,k _ _ (.inl rfl) e]
 |tup m=>let#[z,l,r,g,e,c]:=x;exact#[z,l,r,g,k _ _ (.inl rfl) e,c]
 |dK s=>let#[z,y,I,r,g,i,j,e,c]:=x;exact#[z,y,I,r,g,i,j,k _ _ (.inl rfl) e,c]
 |dT s=>
  let#[z,y,m,r,g,i,j,e,c]:=x;exact#[z,y,m,Paired.mapP r λp q z=>#[z.1,G _ _ z.2.1,z.2.2],g,i,j,k _ _ (.inl rfl) e,c]
 |set S n=>let#[g,i,j,t,e,c]:=x;exact#[g,i,j,t,k _ _ (.inl rfl) e,c]
 |ins C N J=>
  let#[d,z,K,e,A,#[B,i,j,L,c],r]:=x;exact#[F _ d,z,K,k _ _ (.inl rfl) e,A,#[B,i,j,k _ _ (.inr d) L,c],r]
 |own y=>let#[g,e]:=x;exact#[g,k _ _ (.inl rfl) e]
 |xd J=>let#[A,#[B,i,j,e,c],r]:=x;exact#[A,#[B,i,j,k _ _ (.inl rfl) e,c],r]
 |rng O Q=>let#[t,u,v,e]:=x;exact#[t,u,v,k _ _ (.inl rfl) e]
 |frz g u M=>let#[e,q]:=x;exact#[k _ _ (.inl rfl) e,M q]
 |tbl D=>
  have e:h.get? a=P3 {cls:=.none,data:=.fields D}:=x;show h'.get? a=P3 {cls:=.none,data:=.fields D};exact k a _ (.inl rfl) e
 |met f y=>
  have e:h.get? a=P3^PySem.W.methodObj (.ref f)^.ref y:=x;show h'.get? a=P3^PySem.W.methodObj (.ref f)^.ref y;exact k a _ (.inl rfl) e
 |ext R=>let#[p,#[o,e],E]:=x;exact#[E _ _ p λo q=>k _ _ (.inl rfl) q,#[o,k _ _ (.inl rfl) e],E]
def HOk.lt(x:HOk P w H h)(e:H a=P3 o):a<h.objs.size:=(x a o e).lt
def HOk.fresh(x:HOk P w H h)(e:h.objs.size<=a):H a=s_:=by
 cases q:H a with
 |none=>rfl
 |some u=>exact absurd (jW (x.lt q) e)^j7 _
def HOk.kept(x:HOk P w H h)(k:∀b u,h.get? b=P3 u->h'.get? b=P3 u):HOk P w H h':=λa o e=>
 (x a o e).stay (λb u _ q=>k b u q) (λ_ q=>q) λ_ _ q=>q
def HOk.laid(x:HOk P w H h)(k:∀b u,h.get? b=P3 u->h'.get? b=P3 u)(g:h.objs.size<=a)(new:ObjOk P w (A4 H a o) h' a o):HOk P w (A4 H a o) h':=λb u e=>by
 have d:=x.fresh g
 by_cases f:b=a
 .subst f;rw[Ah]at e;grind
 .rw[AW f]at e
  exact(x b u e).stay (λc v _ q=>k c v q) (λc q=>by rw[AW^A6 q d];exact q) λc i q=>by rw[AW^A6 q d];exact q
end
def Rd(H:Hp)(a:Db)(u:HO):Prop:=H a=P3 u\/∃o,H a=P3^.frz o u
def Rd.ok{P:jM}{w:jT}{H:Hp}{h:jI}{a:Db}{u:HO}(r:Rd H a u)(x:HOk P w H h):ObjOk P w H h a u:=by
 rcases r with r|⟨o,r⟩
 .exact x a u r
 .let#[_,q]:=x a _ r
  exact q
def f7:w_ HO->Prop
 |some (.lst _)=>True
 |some (.dK _)=>True
 |some (.dT _)=>True
 |some (.set _ _)=>True
 |some (.ins _ _ _)=>True
 |some (.ext _)=>True
 |_=>False
section
variable {P:Program}{w:World}{H:Hp}{h h':Heap}{x e:Addr}{o':HO}
def HOk.write(ok:HOk P w H h)(f:f7^H x)(o:e=x\/H e=P3^.own x)(k:∀b u,b≠e->h.get? b=P3 u->h'.get? b=P3 u)(i:∃u,h'.get? e=P3 u)
  (new:ObjOk P w (A4 H x o') h' x o'):HOk P w (A4 H x o') h':=λb u q=>by
 have a:∀c y,H c=P3^.own y->c≠x:=λc y r z=>by subst z;rw[r]at f;exact f
 have d:∀c g,H c=P3^.tup g->c≠x:=λc g r z=>by subst z;rw[r]at f;exact f
 by_cases l:b=x
 .subst l;rw[Ah]at q;cases q;exact new
 .rw[AW l]at q
  by_cases j:b=e
  .have m:H b=P3^.own x:=by
    grind
   rw[q]at m;cases m
   let#[v,n]:=i;exact#[v,by rw[j];exact n]
  .refine(ok b u q).stay (λc v p r=>k c v ?_ r) (λc r=>by rw[AW^a c b r];exact r) λc g r=>by rw[AW^d c g r];exact r
   grind
end
structure Un (fs ex:List Db) (H H':Hp) (h h':jI):Prop where
 keep:∀b o,h.get? b=P3 o->H b=s_->b∉fs->b∉ex->h'.get? b=P3 o
 slot:∀b o,h.get? b=P3 o->H b=s_->b∈fs->b∉ex->∃sl,h'.get? b=P3 {o with slots:=sl}
 free:∀b o,h.get? b=P3 o->H b=s_->b∉ex->H' b=s_
 there:∀b o,h.get? b=P3 o->b∉ex->∃o',h'.get? b=P3 o'
 tups:∀b xs,H b=P3^.tup xs->H' b=P3 (.tup xs)
 frzs:∀b o u,H b=P3^.frz o u->H' b=P3 (.frz o u)
 tbls:∀b ps,H b=P3^.tbl ps->∃more,H' b=P3^.tbl (ps++more)
section
variable {fs ex:v_ Addr}{H H1 H2:Hp}{h h1 h2 h':Heap}{a x e:Addr}{o:HO}
def Un.any(u:Un fs ex H H1 h h1){b:Db}{c:Obj}(q:h.get? b=P3 c)(n:H b=s_)(hx:b∉ex):∃e,h1.get? b=P3 {c with slots:=e}:=by
 by_cases d:b∈fs
 .exact u.slot b c q n d hx
 .exact#[_,u.keep b c q n d hx]
def Un.trans(a:Un fs ex H H1 h h1)(b:Un fs ex H1 H2 h1 h2):Un fs ex H H2 h h2 where
 keep:=λc d q n g e=>b.keep c d (a.keep c d q n g e) (a.free c d q n e) g e
 slot:=λc d q n g e=>by
  let#[p,f]:=a.slot c d q n g e;let#[l,k]:=b.slot c _ f (a.free c d q n e) g e;exact#[_,k]
 free:=λc d q n e=>by
  let#[j,f]:=a.there c d q e;exact b.free c j f (a.free c d q n e) e
 there:=λc d q e=>by
  let#[j,f]:=a.there c d q e;exact b.there c j f e
 tups:=λc i q=>b.tups c i (a.tups c i q)
 frzs:=λc d i q=>b.frzs c d i (a.frzs c d i q)
 tbls:=λc m q=>by
  let#[r,f]:=a.tbls c m q;let#[s,k]:=b.tbls c _ f
  grind
def Un.kept(k:∀b u,h.get? b=P3 u->h'.get? b=P3 u):Un fs ex H H h h':=
 #[λb c q _ _ _=>k b c q,λb c q _ _ _=>#[_,k b c q],λ_ _ _ n _=>n,λb c q _=>#[c,k b c q],λ_ _ q=>q,λ_ _ _ q=>q,λ_ d q=>#[#[],by rw[q];simp]]
def Un.refl:Un fs ex H H h h:=Un.kept λ_ _ q=>q
def Un.laid(k:∀b u,h.get? b=P3 u->h'.get? b=P3 u)(d:h.objs.size<=a)(c:H a=s_):Un fs ex H (A4 H a o) h h' where
 keep:=λb u q _ _ _=>k b u q
 slot:=λb u q _ _ _=>#[_,k b u q]
 free:=λb u q n _=>by rw[AW^jL^jW (Uf q) d];exact n
 there:=λb u q _=>#[u,k b u q]
 tups:=λb e q=>by rw[AW^A6 q c];exact q
 frzs:=λb u e q=>by rw[AW^A6 q c];exact q
 tbls:=λb f q=>#[#[],by rw[AW^A6 q c,q];simp]
def Un.write(f:f7^H x)(m:e=x\/H e=P3^.own x)(k:∀b u,b≠e->h.get? b=P3 u->h'.get? b=P3 u)(i:∃u,h'.get? e=P3 u):Un fs ex H (A4 H x o) h h':=by
 have j:∀b,H b=s_->b≠x:=λb n z=>by subst z;rw[n]at f;exact f
 have g:∀b,H b=s_->b≠e:=λb n z=>by
  grind
 have c:∀b u,H b=P3 u->¬f7^P3 u->b≠x:=λb u q p z=>by grind
 refine#[λb u q n _ _=>k b u (g b n) q,λb u q n _ _=>#[u.slots,k b u (g b n) q],λb u q n _=>by rw[AW^j b n];exact n,λb u q _=>?_,
  λb l q=>by rw[AW^c b _ q λz=>z];exact q,λb u l q=>by rw[AW^c b _ q λz=>z];exact q,λb r q=>#[#[],by rw[AW^c b _ q λz=>z,q];simp]]
 by_cases d:b=e
 .simp_all
 .exact#[u,k b u d q]
end
def ia(h:jI)(H:Hp):v_ Db:=(je h.objs.size).filter λa=>(H a).isSome
def OV(h:jI)(H:Hp):jI:=PySem.W.hideAll h^ia h H
def VQ(h:jI)(H:Hp):(OV h H).objs.size=h.objs.size:=PySem.W.hideAll_size _ _
def Xo{h:jI}{H:Hp}{b:Db}{o:Obj}(e:h.get? b=P3 o)(n:H b=s_):(OV h H).get? b=P3 o:=
 PySem.W.hideAll_get _ e λa=>by
  have q:=(k_.mp a).2
  grind
def ZI{h:jI}{H:Hp}{b:Db}{o:Obj}(e:(OV h H).get? b=P3 o):h.get? b=P3 o/\H b=s_:=by
 have a:=PySem.W.of_hideAll _ e;exists a;cases q:H b with
 |none=>rfl
 |some x=>
  have z:(OV h H).get? b=s_:=PySem.W.hideAll_none _^k_.mpr #[lP.mpr^Uf a,by simp[q]]
  grind
structure Mod (K:Frag) (mg:Str->Option Ev) (base:jI):Prop where
 kin:K.In base
 glob:base.Ns mainGlobals mg
 blt:∃mb,base.Ns builtinsNs mb/\∀x:Str,x ≠ "__name__"->mb x=bootBuiltins x
 nolimit:base.NoLimit
/-- the context:a def's body (or a comprehension's block) running. base:fixed through the whole law;s₀,H₀:the entry;outer:the frames whose slots others may change (a def's callers);stack:all frames that run;
   ex:iterators that were made ahead of the entry and are walked here^a comprehension's;fn:the names whose cells were made at the entry (a def:all;a comprehension's block:its own);calm:not within an except suite;pn:zG that every state bears;xe:what is wanted of an exception that leaves the code -/
structure Cx where
 prog:jM
 w:jT
 K:Frag
 mg:Str->Option Ev
 base:jI
 A:jY
 N:List Str
 s₀:Go
 H₀:Hp
 env:Env
 outer:List Env
 stack:List Env
 ex:List Db
 fn:Str->Bool
 calm:Bool
 pn:List (Db×Obj)
 xe:Ev->Go->Prop
def NS(l:v_ Env):v_ Db:=l.filterMap (·.frame)
abbrev Cx.fs(X:Cx):v_ Db:=NS X.outer
def Vw(a:lR)(x:Str):Prop:=a.names.lookup x=P3 .local\/a.names.lookup x=P3 .cell\/a.names.lookup x=P3 .free
def Loc(a:lR)(x:Str):Prop:=a.names.lookup x=P3 .local\/a.names.lookup x=P3 .cell
def Look(a:Env)(h:jI)(m:Str->w_ Ev)(x:Str)(u:Ev):Prop:=
 (a.kindOf x=P3 .local/\m x=P3 u)\/((a.kindOf x=P3 .cell\/a.kindOf x=P3 .free)/\∃c,a.cells.lookup x=P3 c/\h.IsCell c^P3 u)
structure Cx.Ok (X:Cx):Prop where
 mod:Mod X.K X.mg X.base
 kind:X.env.scope.kind=.function
 glob:X.env.globals=mainGlobals
 blt:X.env.builtins=builtinsNs
 above:X.s₀.heap.objs.size<=X.env.locals
 inj:∀x y c,X.env.cells.lookup x=P3 c->X.env.cells.lookup y=P3 c->x=y
 has:∀x,(X.env.kindOf x=P3 .cell\/X.env.kindOf x=P3 .free)->∃c,X.env.cells.lookup x=P3 c
 cab:∀x c,X.fn x=t_->X.env.cells.lookup x=P3 c->X.s₀.heap.objs.size<=c
 hd:X.calm=t_->X.A.handled=s_
 frames:X.A.frames=P3 X.stack
 stk:X.stack=X.outer\/(X.stack=X.env::X.outer/\X.env.frame=P3 X.env.locals)
 exf:∀b∈X.ex,b≠X.env.locals/\∀x c,X.env.cells.lookup x=P3 c->c≠b
 bs:∀b o,X.base.get? b=P3 o->X.s₀.heap.get? b=P3 o/\X.H₀ b=s_
 bsz:X.base.objs.size<=X.s₀.heap.objs.size
 noex:∀b o,X.base.get? b=P3 o->b∉X.ex
 exfs:∀b∈X.ex,b∉X.fs
 funs:X.s₀.heap.FunFrames X.base X.outer
 frf:∀b∈X.fs,X.H₀ b=s_
structure Inv (X:Cx) (zG:List (Db×Obj)) (Z:List^Option V) (H:Hp) (s:Go):Prop where
 ok:X.Ok
 os:s.os=X.s₀.os
 bare:m7 s.gens
 base:Un X.fs X.ex X.H₀ H X.s₀.heap s.heap
 loc:∃m,s.heap.Ns X.env.locals m/\∀(i:Nat) (x:Str) (v:V),X.N[i]?=P3 x->Z[i]?=P3^P3 v->Vw X.env.scope x->∃u,RelV v u/\Look X.env s.heap m x u
 cell:∀x c,X.env.cells.lookup x=P3 c->∃v,s.heap.IsCell c v
 free:H X.env.locals=s_
 freeC:∀x c,X.env.cells.lookup x=P3 c->H c=s_
 pin:∀p∈X.pn++zG,s.heap.get? p.1=P3 p.2/\H p.1=s_/\p.1≠X.env.locals/\p.1∉X.fs/\∀v,p.2.data≠.cell v
 hok:HOk X.prog X.w H s.heap
 len:Z.length=X.N.length
section
variable {X:Cx}{zG:v_ (Addr×Obj)}{Z:v_^w_ V}{H H':Hp}{s:Shared}{h':Heap}
def Cx.Ok.nofr(ok:X.Ok){b:Db}{o:Obj}(e:X.base.get? b=P3 o):b∉X.fs:=λa=>by
 have:=(ok.funs.mem a).1
 grind
def Inv.bs(I:Inv X zG Z H s):∀b o,X.base.get? b=P3 o->s.heap.get? b=P3 o/\H b=s_:=λb o e=>
 #[I.base.keep b o (I.ok.bs b o e).1 (I.ok.bs b o e).2 (I.ok.nofr e)^I.ok.noex b o e,I.base.free b o (I.ok.bs b o e).1 (I.ok.bs b o e).2 (I.ok.noex b o e)]
def Inv.bk(I:Inv X zG Z H s):∀b o,X.base.get? b=P3 o->s.heap.get? b=P3 o:=λb o e=>(I.bs b o e).1
def Inv.mod(I:Inv X zG Z H s):Mod X.K X.mg X.base:=I.ok.mod
def Inv.kIn(I:Inv X zG Z H s):X.K.In s.heap:=I.ok.mod.kin.keeps I.bk
def Inv.lt(I:Inv X zG Z H s):X.env.locals<s.heap.objs.size:=let #[_,a,_]:=I.loc;a.lt
def Inv.sz(I:Inv X zG Z H s):X.s₀.heap.objs.size<=s.heap.objs.size:=jJ I.ok.above^pQ I.lt
def Inv.nofs(I:Inv X zG Z H s){a:Db}(h:s.heap.objs.size<=a):a∉X.fs:=λb=>by
 let#[_,o,c,_]:=I.ok.funs.mem b;exact absurd (jW (Uf c)^jJ I.sz h)^j7 _
def Inv.cne(I:Inv X zG Z H s):∀x c,X.env.cells.lookup x=P3 c->c≠X.env.locals:=λx c e z=>by
 let#[v,o,d,f]:=I.cell x c e;let#[m,#[g,h,i,a,b,_],_]:=I.loc
 grind
def Inv.funs(I:Inv X zG Z H s):s.heap.FunFrames X.base X.outer:=by
 have all:∀(l:v_ _),(∀b∈NS l,b∈X.fs)->X.s₀.heap.FunFrames X.base l->s.heap.FunFrames X.base l:=by
  intro l
  induction l with
  |nil=>intro _ _;trivial
  |cons g r h=>
   intro d i;let#[j,#[L,o,f,k,m,n],p]:=i;have a:=d L (by unfold NS;simp_all);let#[q,e]:=I.base.slot L o m (I.ok.frf L a) a λz=>I.ok.exfs L z a;exact#[j,#[L,_,f,k,e,n],h (λb c=>d b^by unfold NS;rw[mW,f];exact Sc _ c) p]
 exact all _ (λ_ c=>c) I.ok.funs
def Inv.stack(I:Inv X zG Z H s):s.heap.FunFrames X.base X.stack:=by
 rcases I.ok.stk with e|⟨e,a⟩
 .rw[e];exact I.funs
 .rw[e]
  let#[m,b,_]:=I.loc;exact .cons (by rw[I.ok.kind];decide) a b (Heap.get?_none_of_le^jJ I.ok.bsz I.ok.above) I.funs
def Inv.stkSub(I:Inv X zG Z H s):∀b∈NS X.stack,b∈X.env.locals::X.fs:=λb a=>by
 rcases I.ok.stk with e|⟨e,c⟩
 .grind
 .rw[e]at a
  unfold NS at a;rw[mW,c]at a;exact a
def Inv.stkFree(I:Inv X zG Z H s):∀b∈NS X.stack,H b=s_:=λb a=>by
 rcases UF.mp^I.stkSub b a with e|a
 .rw[e];exact I.free
 .let#[_,o,c,_]:=I.ok.funs.mem a
  exact I.base.free b o c (I.ok.frf b a) λz=>I.ok.exfs b z a
def Inv.step{g':Array GenState}{t':Nat}{d':Drawn}{ch:v_ Db}(I:Inv X zG Z H s)
  (f:∀b∈ch,(b∈X.ex\/X.s₀.heap.objs.size<=b)/\b≠X.env.locals/\(∀x c,X.env.cells.lookup x=P3 c->c≠b)/\∀p∈X.pn++zG,p.1≠b)
  (keep:∀b o,b≠X.env.locals->b∉X.fs->b∉ch->s.heap.get? b=P3 o->H b=s_->h'.get? b=P3 o)
  (y:∀b o,b≠X.env.locals->b∈X.fs->b∉ch->s.heap.get? b=P3 o->H b=s_->∃N,h'.get? b=P3 {o with slots:=N}) (free:∀b o,b∉ch->s.heap.get? b=P3 o->H b=s_->H' b=s_)
  (B:∀b o,b∉ch->s.heap.get? b=P3 o->∃E,h'.get? b=P3 E)
  (tups:∀b A,H b=P3^.tup A->H' b=P3^.tup A) (F:∀b o u,H b=P3^.frz o u->H' b=P3^.frz o u) (G:∀b M,H b=P3^.tbl M->∃J,H' b=P3^.tbl (M++J))
  (V:∀m,s.heap.Ns X.env.locals m->h'.Ns X.env.locals m) (O:HOk X.prog X.w H' h') (W:m7 g'):
  Inv X zG Z H' {s with heap:=h',gens:=g',drawn:=d',toks:=t'}:=by
 have K:∀b o,X.s₀.heap.get? b=P3 o->b≠X.env.locals:=λb o e=>jL^jW (Uf e) I.ok.above
 have j:∀b o,X.s₀.heap.get? b=P3 o->b∉X.ex->b∉ch:=λb o e a C=>by
  rcases(f b C).1 with z|z
  .exact a z
  .exact absurd (jW (Uf e) z)^j7 _
 have g:∀x c,X.env.cells.lookup x=P3 c->∀v,s.heap.IsCell c v->h'.IsCell c v:=λx c e v #[o,D,P]=>by
  have h:c∉ch:=λz=>(f c z).2.2.1 x c e rfl
  by_cases R:c∈X.fs
  .let#[N,q]:=y c o (I.cne x c e) R h D^I.freeC x c e
   exact#[_,q,P]
  .exact#[o,keep c o (I.cne x c e) R h D^I.freeC x c e,P]
 refine#[I.ok,I.os,W,#[λb o e n C a=>?_,λb o e n C a=>?_,λb o e n a=>?_,λb o e a=>?_,λb A e=>tups b A^I.base.tups b A e,λb o A e=>F b o A^I.base.frzs b o A e,λb M e=>?_],?_,λx c e=>?_,?_,λx c e=>?_,λp S=>?_,O,I.len]
 .exact keep b o (K b o e) C (j b o e a) (I.base.keep b o e n C a)^I.base.free b o e n a
 .let#[N,t]:=I.base.slot b o e n C a
  let#[Q,L]:=y b _ (K b o e) C (j b o e a) t^I.base.free b o e n a;exact#[Q,L]
 .let#[E,t]:=I.base.there b o e a
  exact free b E (j b o e a) t^I.base.free b o e n a
 .let#[E,t]:=I.base.there b o e a
  exact B b E (j b o e a) t
 .let#[Y,t]:=I.base.tbls b M e
  let#[m2,L]:=G b _ t;exact#[Y++m2,by rw[L,Array.append_assoc]]
 .let#[m,hn,hl]:=I.loc
  refine#[m,V m hn,λi x v t L e3=>?_];let#[u,r,l]:=hl i x v t L e3;exists u,r
  rcases l with l|⟨k,c,e,z⟩
  .exact .inl l
  .exact .inr #[k,c,e,g x c e _ z]
 .let#[v,z]:=I.cell x c e
  exact#[v,g x c e v z]
 .let#[m,#[o,_,_,D,_],_]:=I.loc
  exact free _ o (λz=>(f _ z).2.1 rfl) D I.free
 .let#[v,o,D,P]:=I.cell x c e
  exact free c o (λz=>(f c z).2.2.1 x c e rfl) D^I.freeC x c e
 .let#[e,n,T,U,d]:=I.pin p S
  have h:p.1∉ch:=λz=>(f p.1 z).2.2.2 p S rfl;exact#[keep p.1 p.2 T U h e n,free p.1 p.2 h e n,T,U,d]
def Inv.un{t':Nat}(I:Inv X zG Z H s)(u:Un X.fs [] H H' s.heap h')(c:HOk X.prog X.w H' h'):Inv X zG Z H' {s with heap:=h',toks:=t'}:=by
 let#[m,#[o,l,p,f,r],_]:=id I.loc;let#[q,g]:=u.any f I.free^by simp
 exact I.step (ch:=[]) (λ_ z=>nomatch z) (λb o _ d _ e n=>u.keep b o e n d^by simp) (λb o _ d _ e n=>u.slot b o e n d^by simp) (λb o _ e n=>u.free b o e n^by simp) (λb o _ e=>u.there b o e^by simp) u.tups u.frzs u.tbls (λt h=>by
  let#[v,i,j,a,k]:=h;rw[f]at a;cases a
  exact#[_,_,_,g,k]) c I.bare
def Inv.call{i:Array GenState}{l:Nat}{q:Drawn}{j:v_ Db}(I:Inv X zG Z H s)(u:Un (NS X.stack) j H H' s.heap h')(g:HOk X.prog X.w H' h')(t:m7 i)
  (d:∀b∈j,(b∈X.ex\/X.s₀.heap.objs.size<=b)/\b≠X.env.locals/\(∀x c,X.env.cells.lookup x=P3 c->c≠b)/\∀p∈X.pn++zG,p.1≠b):
  Inv X zG Z H' {s with heap:=h',gens:=i,drawn:=q,toks:=l}:=by
 let#[m,#[o,D,E,k,r],_]:=id I.loc;let#[F,h]:=u.any k I.free λz=>(d _ z).2.1 rfl
 exact I.step d (λb o h v a e n=>u.keep b o e n (λz=>(UF.mp^I.stkSub b z).elim h v) a) (λb o _ _ a e n=>u.any e n a) (λb o a e n=>u.free b o e n a) (λb o a e=>u.there b o e a) u.tups u.frzs u.tbls (λG y=>by
  let#[J,A,B,f,C]:=y;rw[k]at f;cases f
  exact#[_,_,_,h,C]) g t
def Inv.turned{t':Nat}{it:Db}(I:Inv X zG Z H s)(k:∀b o,b≠it->s.heap.get? b=P3 o->h'.get? b=P3 o)(A:H it=s_)(d:it≠X.env.locals)
  (f:it∈X.ex\/X.s₀.heap.objs.size<=it) (g:∀x c,X.env.cells.lookup x=P3 c->c≠it) (h:∀p∈X.pn++zG,p.1≠it):Inv X zG Z H {s with heap:=h',toks:=t'}:=by
 have i:∀b u,H b=P3 u->b≠it:=λb u e z=>by grind
 refine I.step (g':=s.gens) (d':=s.drawn) (ch:=[it]) (λb j=>?_) (λb o _ _ a e _=>k b o (λz=>a^by simp[z]) e) (λb o _ _ a e _=>#[o.slots,k b o (λz=>a^by simp[z]) e]) (λ_ _ _ _ n=>n)
  (λb o a e=>#[o,k b o (λz=>a^by simp[z]) e]) (λ_ _ e=>e) (λ_ _ _ e=>e) (λb B e=>#[#[],by rw[e];simp]) (λm l=>?_) (λb u e=>?_) I.bare
 .have e:b=it:=by simpa using j
  subst e;exact#[f,d,g,h]
 .let#[o,t,w,y,r]:=l
  exact#[o,t,w,k _ o (jv d) y,r]
 .refine(I.hok b u e).stay (λc v a q=>k c v ?_ q) (λ_ q=>q) λ_ _ q=>q
  grind
def Inv.tok(I:Inv X zG Z H s)(t:Nat):Inv X zG Z H {s with toks:=t}:=I.un Un.refl I.hok
def Inv.kept{t':Nat}(I:Inv X zG Z H s)(k:∀b u,s.heap.get? b=P3 u->h'.get? b=P3 u):Inv X zG Z H {s with heap:=h',toks:=t'}:=I.un (Un.kept k)^I.hok.kept k
def Inv.laid{a:Db}{o:HO}{t':Nat}(I:Inv X zG Z H s)(k:∀b u,s.heap.get? b=P3 u->h'.get? b=P3 u)(c:s.heap.objs.size<=a)(d:ObjOk X.prog X.w (A4 H a o) h' a o):
  Inv X zG Z (A4 H a o) {s with heap:=h',toks:=t'}:=I.un (Un.laid k c^I.hok.fresh c)^I.hok.laid k c d
def Inv.write{x e:Db}{o:HO}{g:Nat}(I:Inv X zG Z H s)(d:f7^H x)(f:e=x\/H e=P3^.own x)(k:∀b u,b≠e->s.heap.get? b=P3 u->h'.get? b=P3 u)(a:∃u,h'.get? e=P3 u)
  (c:ObjOk X.prog X.w (A4 H x o) h' x o):Inv X zG Z (A4 H x o) {s with heap:=h',toks:=g}:=I.un (Un.write d f k a)^I.hok.write d f k a c
def Inv.pins_of{a:v_ (Db×Obj)}(I:Inv X zG Z H s)(h:∀p∈a,s.heap.get? p.1=P3 p.2/\H p.1=s_/\p.1≠X.env.locals/\p.1∉X.fs/\∀v,p.2.data≠.cell v):Inv X a Z H s:=
 #[I.ok,I.os,I.bare,I.base,I.loc,I.cell,I.free,I.freeC,λp b=>(jK.mp b).elim (λz=>I.pin p^lJ _ z)^h p,I.hok,I.len]
def LQ{N:v_ Str}(c:N.Nodup){i j:Nat}{x:Str}(a:N[i]?=P3 x)(b:N[j]?=P3 x):i=j:=by
 let#[f,d]:=ZB.mp a;let#[g,e]:=ZB.mp b;exact(List.getElem_inj c).mp^d.trans e.symm
def M5{M:Model}{A:jY}{E:Ev->Go->Prop}{i:Nat}{x:Str}{v:V}{u:Ev}{Q:Unit->Go->Prop}(I:Inv X zG Z H s)(hN:X.N.Nodup)(P:X.N[i]?=P3 x)(B:Loc X.env.scope x)(r:RelV v u)
  (h:∀s',Inv X zG (Z.set i^P3 v) H s'->(∃a,lz a s.heap s'.heap/\(a=X.env.locals\/X.env.cells.lookup x=P3 a))->Q () s') (hf:X.fn x=t_\/X.env.scope.names.lookup x=P3 .local:=by first|exact .inl rfl|exact .inr rfl|assumption):wpAny M A (storeName X.env x u) Q E s:=by
 let#[m,hn,hl]:=id I.loc;have R:(X.env.scope.kind==.class||(X.env.scope.kind==.module&&X.env.locals !=X.env.globals))=u_:=by rw[I.ok.kind];rfl
 have F:i<Z.length:=by rw[I.len];exact(ZB.mp P).1
 have J:=I.cne
 have g:∀{a:Db}{h':jI},(∃o,s.heap.get? a=P3 o/\H a=s_)->lz a s.heap h'->HOk X.prog X.w H h':=λ{a h'} ha f b ob e=>by
  let#[_,_,C]:=ha;refine(I.hok b ob e).stay (λc Y t q=>(f.2 c ?_).trans q) (λ_ q=>q) λ_ _ q=>q;rintro rfl
  rcases t with rfl|t
  .rw[C]at e;cases e
  .rw[C]at t;cases t
 rcases B with G|G
 .refine wpAny_storeName_local G hn (λh' a0 f=>?_) R
  let#[oL,_,_,a1,_]:=id hn;refine h _ #[I.ok,I.os,I.bare,#[λb o e n K B=>?_,λb o e n K B=>?_,I.base.free,λb o e B=>?_,I.base.tups,I.base.frzs,I.base.tbls],#[_,a0,λj y v' l D e3=>?_],λy c e=>?_,I.free,I.freeC,λp hp=>?_,g #[oL,a1,I.free] f,by simpa using I.len] #[_,f,.inl rfl]
  .exact(f.2 b^jL^jW (Uf e) I.ok.above).trans^I.base.keep b o e n K B
  .let#[sl,l]:=I.base.slot b o e n K B
   exact#[sl,(f.2 b^jL^jW (Uf e) I.ok.above).trans l]
  .let#[o',l]:=I.base.there b o e B
   exact#[o',(f.2 b^jL^jW (Uf e) I.ok.above).trans l]
  .by_cases L:j=i
   .subst L
    rw[P]at l;cases l
    rw[pi F]at D;cases D;exact#[u,r,.inl #[G,by simp]]
   .rw[nA^jv L]at D
    let#[u',r',q]:=hl j y v' l D e3;exists u',r'
    rcases q with⟨k,e⟩|⟨k,c,e,z⟩
    .refine .inl #[k,?_]
     have:y≠x:=λe=>L^LQ hN l (e▸P)
     simp[this,e]
    .exact .inr #[k,c,e,z.sameBut f^J y c e]
  .let#[Y,z]:=I.cell y c e
   exact#[Y,z.sameBut f^J y c e]
  .let#[e,n,ne,nf,d]:=I.pin p hp
   exact#[(f.2 p.1 ne).trans e,n,ne,nf,d]
 .have O:X.fn x=t_:=by
   rcases hf with z|z
   .exact z
   .rw[z]at G;cases G
  let#[c,t]:=I.ok.has x^.inl G;let#[Y,z]:=I.cell x c t;refine wpAny_storeName_cell I.ok.kind G t z λh' S f=>?_;let#[oc,T,U]:=id z;refine h {s with heap:=h'} #[I.ok,I.os,I.bare,#[λb o e n K B=>?_,λb o e n K B=>?_,I.base.free,λb o e B=>?_,I.base.tups,I.base.frzs,I.base.tbls],#[m,hn.sameBut f^jv^J x c t,λj y v' l D e3=>?_],λy c' e=>?_,I.free,I.freeC,λp hp=>?_,g #[oc,T,I.freeC x c t] f,by simpa using I.len] #[c,f,.inr t]
  .exact(f.2 b^jL^jW (Uf e)^I.ok.cab x c O t).trans^I.base.keep b o e n K B
  .let#[sl,l]:=I.base.slot b o e n K B
   exact#[sl,(f.2 b^jL^jW (Uf e)^I.ok.cab x c O t).trans l]
  .let#[o',l]:=I.base.there b o e B
   exact#[o',(f.2 b^jL^jW (Uf e)^I.ok.cab x c O t).trans l]
  .by_cases L:j=i
   .subst L
    rw[P]at l;cases l
    rw[pi F]at D;cases D;exact#[u,r,.inr #[.inl G,c,t,S]]
   .rw[nA^jv L]at D
    let#[u',r',q]:=hl j y v' l D e3;exists u',r'
    rcases q with q|⟨k,c',e,z'⟩
    .exact .inl q
    .refine .inr #[k,c',e,z'.sameBut f ?_]
     rintro rfl;exact L^LQ hN l (I.ok.inj _ _ _ e t▸P)
  .by_cases W:c'=c
   .subst W;exact#[_,S]
   .let#[w2,z2]:=I.cell y c' e
    exact#[w2,z2.sameBut f W]
  .let#[e,n,ne,nf,d]:=I.pin p hp
   refine#[(f.2 p.1 ?_).trans e,n,ne,nf,d];intro q;rw[q,T]at e;have q':oc=p.2:=jH e;exact d Y^by rw[←q'];exact U
def G6{M:Model}{A:jY}{E:Ev->Go->Prop}{i:Nat}{x:Str}{v:V}{u:Ev}{Q:Unit->Go->Prop}(I:Inv X zG Z H s)(b:X.N.Nodup)(c:X.N[i]?=P3 x)(hx:Loc X.env.scope x)(r:RelV v u)
  (h:∀a,Inv X zG (Z.set i^P3 v) H a->Q () a) (d:X.fn x=t_\/X.env.scope.names.lookup x=P3 .local:=by first|exact .inl rfl|exact .inr rfl|assumption):wpAny M A (storeName X.env x u) Q E s:=
 M5 I b c hx r (λa e _=>h a e) d
def Inv.call'{a:Go}{f:v_ Db}(I:Inv X zG Z H s)(g:a.os=s.os)(u:Un (NS X.stack) f H H' s.heap a.heap)(d:HOk X.prog X.w H' a.heap)(h:m7 a.gens)
  (e:∀b∈f,(b∈X.ex\/X.s₀.heap.objs.size<=b)/\b≠X.env.locals/\(∀x c,X.env.cells.lookup x=P3 c->c≠b)/\∀p∈X.pn++zG,p.1≠b):Inv X zG Z H' a:=by
 let#[h',i,j,k,l]:=a;subst g;exact I.call u d h e
end
abbrev XK:=Ev->w_ Db->Hp->Prop
abbrev St:=v_^w_ V
abbrev VK:=V->Hp->Prop
abbrev TE:=St->Hp->VK->Prop
abbrev TT:=St->Hp->(Bool->Hp->Prop)->Prop
abbrev TA:=St->Hp->(v_ V->Hp->Prop)->Prop
structure Ends where
 nx:St->Hp->Prop
 rt:VK
 bk:St->Hp->Prop:=λ_ _=>False
 ct:St->Hp->Prop:=λ_ _=>False
abbrev TS:=Ends->St->Hp->Prop
def EP(X:Cx)(b:v_ (Db×Obj))(Z:St)(Q:VK)(u:Ev)(c:Go):Prop:=∃v a,Inv X b Z a c/\RelV v u/\Q v a
def TP(X:Cx)(c:v_ (Db×Obj))(Z:St)(Q:Bool->Hp->Prop)(b:Bool)(d:Go):Prop:=∃a,Inv X c Z a d/\Q b a
def AP(X:Cx)(c:v_ (Db×Obj))(Z:St)(Q:v_ V->Hp->Prop)(d:v_ Ev)(e:Go):Prop:=∃a b,Inv X c Z b e/\Vals a d/\Q a b
def SP(X:Cx)(c:v_ (Db×Obj))(D:Ends)(f:Flow)(d:Go):Prop:=
 match f with
 |.next=>∃b a,Inv X c b a d/\D.nx b a
 |.brk=>∃b a,Inv X c b a d/\D.bk b a
 |.cont=>∃b a,Inv X c b a d/\D.ct b a
 |.ret u=>∃v b a,Inv X c b a d/\RelV v u/\D.rt v a
def PE(X:Cx)(e:jX)(t:TE):Prop:=
 ∀(a:v_ (Db×Obj)) (s:Go) (Z:St) (H:Hp) (Q:VK),Inv X a Z H s->t Z H Q->wpAny (model X.prog X.w) X.A (eval e X.env) (EP X a Z Q) X.xe s
def PT(X:Cx)(e:jX)(t:TT):Prop:=
 ∀(a:v_ (Db×Obj)) (s:Go) (Z:St) (H:Hp) (Q:Bool->Hp->Prop),Inv X a Z H s->t Z H Q->wpAny (model X.prog X.w) X.A (isTrue e X.env^eval e X.env) (TP X a Z Q) X.xe s
def PW(X:Cx)(e:jX)(t:TT):Prop:=
 ∀(a:Sem Ev) (b:v_ (Db×Obj)) (s:Go) (Z:St) (H:Hp) (Q:Bool->Hp->Prop),Inv X b Z H s->t Z H Q->wpAny (model X.prog X.w) X.A (isTrue e X.env a) (TP X b Z Q) X.xe s
def PW.pt{X:Cx}{e:jX}{t:TT}(h:PW X e t):PT X e t:=h _
def PA(X:Cx)(b:v_ jX)(t:TA):Prop:=
 ∀(pos:Pos) (a:v_ (Db×Obj)) (s:Go) (Z:St) (H:Hp) (Q:v_ V->Hp->Prop),Inv X a Z H s->t Z H Q->wpAny (model X.prog X.w) X.A (spliced^backTo pos^starEach b X.env) (AP X a Z Q) X.xe s
def PS(X:Cx)(st:jP)(t:TS):Prop:=
 ∀(a:v_ (Db×Obj)) (s:Go) (Z:St) (H:Hp) (D:Ends),Inv X a Z H s->t D Z H->wpAny (model X.prog X.w) X.A (exec st X.env) (SP X a D) X.xe s
def PSs(X:Cx)(st:v_ jP)(t:TS):Prop:=
 ∀(a:v_ (Db×Obj)) (s:Go) (Z:St) (H:Hp) (D:Ends),Inv X a Z H s->t D Z H->wpAny (model X.prog X.w) X.A (execs st X.env) (SP X a D) X.xe s
def thn{b:Type}{t:Sem b}{Q c:b->Go->Prop}{M:Model}{A:jY}{E:Ev->Go->Prop}{s:Go}(h:wpAny M A t Q E s)(d:∀a s,Q a s->c a s):wpAny M A t c E s:=jh h d λ_ _ x=>x
section
variable {X:Cx}
def CA(i:Nat):TE:=λZ H Q=>∃v,Z[i]?=P3^P3 v/\Q v H
def tC(v:V):TE:=λ_ H Q=>Q v H
def FJ{i:Nat}{x:Str}{pos:Pos}(j:X.N[i]?=P3 x)(k:Vw X.env.scope x)(hd:(x==("__debug__":Str))=u_:=by cbv)(f:(x==("__classdict__":Str))=u_:=by cbv):PE X (.Name x pos)^CA i:=by
 intro q s Z H Q I h;let#[v,e,h]:=h;let#[m,n,o]:=I.loc;let#[u,r,l]:=o i x v j e k;have b:EP X _ Z Q u s:=#[v,H,I,r,h]
 rcases l with⟨d,p⟩|⟨d,c,g,a⟩
 .exact wpAny_Name (wpAny_loadName_local I.ok.kind d n p b) hd
 .rcases d with d|d
  .exact wpAny_Name (wpAny_loadName_cell I.ok.kind d g a b) hd
  .exact wpAny_Name (wpAny_loadName_free I.ok.kind d g a b f) hd
def BD{i j pos}:PE X (.Constant (.int i) j pos)^tC^.int i:=λ_ _ _ H _ I h=>wpAny_Constant_int #[.int i,H,I.tok _,#[_,rfl],h]
def e_{b j pos}:PE X (.Constant (.bool b) j pos)^tC^.bl b:=λ_ _ _ H _ I h=>Constant_bool #[.bl b,H,I,rfl,h]
def be{j pos}:PE X (.Constant .none j pos)^tC .non:=λ_ _ _ H _ I h=>Constant_none #[.non,H,I,rfl,h]
def bZ{x j pos}:PE X (.Constant (.str x) j pos)^tC^.str x:=λ_ _ _ H _ I h=>Calls.Constant_str #[.str x,H,I.tok _,#[_,rfl],h]
def Gl(X:Cx)(x:Str):Prop:=X.env.kindOf x=P3 .globalImplicit
def D7{E:Ev->Go->Prop}{a:v_ (Db×Obj)}{s:Go}{Z:St}{H:Hp}{x:Str}{u:Ev}{pos:Pos}{Q:Ev->Go->Prop}(I:Inv X a Z H s)(b:Gl X x)(c:X.mg x=P3 u)(h:Q u s)
  (hd:(x==("__debug__":Str))=u_:=by cbv):wpAny (model X.prog X.w) X.A (eval (.Name x pos) X.env) Q E s:=
 o7 I.ok.kind b (Calls.loadGlobal_global (by rw[I.ok.glob];exact I.mod.glob.keeps I.bk) c h) hd
def DF{E:Ev->Go->Prop}{a:v_ (Db×Obj)}{s:Go}{Z:St}{H:Hp}{x:Str}{u:Ev}{pos:Pos}{Q:Ev->Go->Prop}(I:Inv X a Z H s)(b:Gl X x)(c:X.mg x=s_)(d:bootBuiltins x=P3 u)(h:Q u s)
  (e:x ≠ "__name__":=by cbv) (hd:(x==("__debug__":Str))=u_:=by cbv):wpAny (model X.prog X.w) X.A (eval (.Name x pos) X.env) Q E s:=by
 let#[i,f,g]:=I.mod.blt;exact o7 I.ok.kind b (Calls.loadGlobal_builtin (by rw[I.ok.glob];exact I.mod.glob.keeps I.bk) c (by rw[I.ok.blt];exact f.keeps I.bk) ((g x e).trans d) h) hd
def Y9{x:Str}{v:V}{u:Ev}{pos:Pos}(a:Gl X x)(b:X.mg x=P3 u)(r:RelV v u)(hd:(x==("__debug__":Str))=u_:=by cbv):PE X (.Name x pos)^tC v:=
 λ_ _ _ H _ I h=>D7 I a b #[v,H,I,r,h] hd
def Tf{x:Str}{v:V}{u:Ev}{pos:Pos}(a:Gl X x)(b:X.mg x=s_)(c:bootBuiltins x=P3 u)(r:RelV v u)(d:x ≠ "__name__":=by cbv)(hd:(x==("__debug__":Str))=u_:=by cbv):PE X (.Name x pos)^tC v:=
 λ_ _ _ H _ I h=>DF I a b c #[v,H,I,r,h] d hd
variable {a b:Expr}{ta tb:TE}{pos:Pos}
def tB(t:TE):TT:=λZ H Q=>t Z H λx d=>∃c,x=.bl c/\Q c d
def bP{e:jX}{t:TE}(h:PE X e t)(f:∀c,isTrue e X.env c=(do let v ←c;standAt e.pos;holding [v]^truthy v):=by intro _;rfl):PT X e^tB t:=by
 intro m s Z H Q I g;refine isTrue_plain (thn (h _ s Z H _ I g) λv n #[x,i,j,k,l]=>?_)^f _;let#[d,rfl,q]:=l;cases k;exact kd #[i,j,q]
variable {tA tB':TT}{rest:v_ Expr}
def eA(t u:TT):TT:=λZ H Q=>t Z H λc d=>if c=t_ then u Z d Q else Q u_ d
def ik(t u:TT):TT:=λZ H Q=>t Z H λc d=>if c=t_ then Q t_ d else u Z d Q
def gh(t:TT):TT:=λZ H Q=>t Z H λc d=>Q (!c) d
def TR(d:PT X a tA):PW X (.BoolOp .And [a] pos) tA:=by
 intro f g s Z H Q I h;refine isTrue_and^thn (d _ s Z H Q I h) λc i e=>?_;cases c with
 |true=>exact isTrue_and_nil e
 |false=>exact e
def bN(d:PT X a tA):PW X (.BoolOp .Or [a] pos) tA:=by
 intro f g s Z H Q I h;refine isTrue_or^thn (d _ s Z H Q I h) λc i e=>?_;cases c with
 |false=>exact isTrue_or_nil e
 |true=>exact e
def Ws(d:PT X a tA)(e:PW X (.BoolOp .And (b::rest) pos) tB'):PW X (.BoolOp .And (a::b::rest) pos)^eA tA tB':=by
 intro f l s Z H Q I h;refine isTrue_and^thn (d _ s Z H _ I h) λc g #[i,j,k]=>?_;cases c with
 |true=>exact e f _ g Z i Q j k
 |false=>assumption
def ej(d:PT X a tA)(e:PW X (.BoolOp .Or (b::rest) pos) tB'):PW X (.BoolOp .Or (a::b::rest) pos)^ik tA tB':=by
 intro f l s Z H Q I h;refine isTrue_or^thn (d _ s Z H _ I h) λc g #[i,j,k]=>?_;cases c with
 |true=>assumption
 |false=>exact e f _ g Z i Q j k
def bQ(c:PT X a tA):PT X (.UnaryOp .Not a pos)^gh tA:=λd s Z H Q I h=>isTrue_not^c _ s Z H _ I h
def d_(ta tb:TE):TE:=λZ H Q=>ta Z H λx d=>∃c,x=.bl c/\if c=t_ then tb Z d Q else Q (.bl u_) d
def di(ta:TE):TE:=λZ H Q=>ta Z H λx d=>∃c,x=.bl c/\Q (.bl (!c)) d
def bh(g:PE X a ta)(i:PE X (.BoolOp .And (b::rest) pos) tb):PE X (.BoolOp .And (a::b::rest) pos)^d_ ta tb:=by
 intro l s Z H Q I h;refine BoolOp_and^thn (g _ s Z H _ I h) λv j #[x,e,f,k,d]=>?_;let#[c,rfl,d]:=d;cases k;refine kd ?_;cases c with
 |true=>exact i _ j Z e Q f d
 |false=>exact#[.bl _,e,f,rfl,d]
def bd(e:PE X a ta):PE X (.UnaryOp .Not a pos)^di ta:=by
 intro j s Z H Q I h;refine UnaryOp_^thn (e _ s Z H _ I h) λv k #[x,f,g,i,d]=>?_;let#[c,rfl,d]:=d;cases i;exact not_of^kd #[.bl _,f,g,rfl,d]
def im(t:TT)(ta tb:TE):TE:=λZ H Q=>t Z H λc d=>if c=t_ then ta Z d Q else tb Z d Q
def P6{c:jX}(j:PT X c tA)(k:PE X a ta)(l:PE X b tb):PE X (.IfExp c a b pos)^im tA ta tb:=by
 intro m s Z H Q I h;refine wpAny_IfExp^thn (j _ s Z H _ I h) λd e #[f,g,i]=>?_;cases d with
 |true=>exact k _ e Z f Q g i
 |false=>exact l _ e Z f Q g i
end
def SqL(K:Frag)(H:Hp)(a:Db)(c:v_ V):Prop:=
 Rd H a (.lst c) \/
  ∃(o:Obj) (b:Array Ev) (n:Nat),K.lookup a=P3 o/\o.cls=.type "list"/\o.dict=s_/\o.data=.seq b n/\b.size<=sizeLine/\Vals c b.toList
def SqT(K:Frag)(H:Hp)(a:Db)(c:v_ V):Prop:=
 Rd H a (.tup c) \/
  ∃(o:Obj) (b:Array Ev) (n:Nat),K.lookup a=P3 o/\o.cls=.type "tuple"/\o.data=.seq b n/\b.size<=sizeLine/\Vals c b.toList
def iA:Ev->w_ V
 |.none=>P3 .non
 |.bool b=>P3^.bl b
 |.int i _=>P3^.int i
 |.str x _=>P3^.str x
 |.bytes b _=>P3^.byt b
 |.float b _=>P3^.flt b
 |.ref a=>P3^.ref a
 |.type n=>P3^.ty n
 |_=>s_
def RelV.abs{x:V}{u:Ev}(r:RelV x u):iA u=P3 x:=by
 cases x with
 |non=>cases r;rfl
 |bl _=>cases r;rfl
 |int _=>let#[t,rfl]:=r;rfl
 |str _=>let#[t,rfl]:=r;rfl
 |byt _=>let#[t,rfl]:=r;rfl
 |flt _=>let#[t,rfl]:=r;rfl
 |ref _=>cases r;rfl
 |ty _=>cases r;rfl
def RelV.inj{x y:V}{u:Ev}(r:RelV x u)(q:RelV y u):x=y:=jH^r.abs.symm.trans q.abs
theorem Vals.inj:∀{a b:v_ V}{c:v_ Ev},Vals a c->Vals b c->a=b
 |_,_,_,.nil,.nil=>rfl
 |_,_,_,.cons r t,.cons d e=>by rw[r.inj d,Vals.inj t e]
section
variable {X:Cx}{zG:v_ (Addr×Obj)}{Z:St}{H:Hp}{s:Shared}{a:Addr}{xs ys:v_ V}
def SqL.of{K:Frag}(h:H a=P3^.lst xs):SqL K H a xs:=.inl^.inl h
def SqT.of{K:Frag}(h:H a=P3^.tup xs):SqT K H a xs:=.inl^.inl h
def Inv.list(I:Inv X zG Z H s)(h:SqL X.K H a xs):∃b:v_ Ev,Vals xs b/\PlainL s.heap a b.toArray/\xs.length<=sizeLine:=by
 rcases h with h|⟨o,b,n,c,d,f,g,i,r⟩
 .let#[z,b,n,r,e]:=h.ok I.hok
  exact#[_,r,#[_,n,e,rfl,rfl,rfl],z]
 .exists _,r,#[o,n,I.kIn a o c,d,f,by lk]
  have e:=r.length
  grind
def Inv.tuple(I:Inv X zG Z H s)(h:SqT X.K H a xs):∃b:v_ Ev,Vals xs b/\nc s.heap a b.toArray/\xs.length<=sizeLine:=by
 rcases h with h|⟨o,b,n,c,d,f,g,r⟩
 .let#[z,b,r,p]:=h.ok I.hok
  exact#[_,r,p.tup,z]
 .exists _,r,#[o,I.kIn a o c,d,n,by lk]
  have e:=r.length
  grind
def Inv.list_inj(I:Inv X zG Z H s)(h:SqL X.K H a xs)(f:SqL X.K H a ys):xs=ys:=by
 let#[c,r,#[o,n,e,_,_,d],_]:=I.list h;let#[b,g,#[i,j,k,_,_,l],_]:=I.list f
 have:c=b:=by grind
 subst this;exact r.inj g
def Inv.tuple_inj(I:Inv X zG Z H s)(h:SqT X.K H a xs)(f:SqT X.K H a ys):xs=ys:=by
 let#[c,r,#[o,e,_,n,d],_]:=I.tuple h;let#[b,g,#[i,j,_,k,l],_]:=I.tuple f
 have:c=b:=by grind
 subst this;exact r.inj g
end
abbrev Cx.wish(X:Cx)(E:Ev->Go->Prop):Cx:={X with xe:=E}
abbrev Cx.nox(X:Cx):Cx:=X.wish λ_ _=>False
def Cx.Ok.wish{X:Cx}(ok:X.Ok)(E:Ev->Go->Prop):(X.wish E).Ok:=
 #[ok.mod,ok.kind,ok.glob,ok.blt,ok.above,ok.inj,ok.has,ok.cab,ok.hd,ok.frames,ok.stk,ok.exf,ok.bs,ok.bsz,ok.noex,ok.exfs,ok.funs,ok.frf]
def Cx.Ok.unwish{X:Cx}{E:Ev->Go->Prop}(ok:(X.wish E).Ok):X.Ok:=
 #[ok.mod,ok.kind,ok.glob,ok.blt,ok.above,ok.inj,ok.has,ok.cab,ok.hd,ok.frames,ok.stk,ok.exf,ok.bs,ok.bsz,ok.noex,ok.exfs,ok.funs,ok.frf]
section
variable {X:Cx}{zG:v_ (Addr×Obj)}{Z:St}{H:Hp}{s:Shared}{E:Value->Shared->Prop}
def Inv.wish(I:Inv X zG Z H s)(E:Ev->Go->Prop):Inv (X.wish E) zG Z H s:=#[I.ok.wish E,I.os,I.bare,I.base,I.loc,I.cell,I.free,I.freeC,I.pin,I.hok,I.len]
def Inv.unwish(I:Inv (X.wish E) zG Z H s):Inv X zG Z H s:=#[I.ok.unwish,I.os,I.bare,I.base,I.loc,I.cell,I.free,I.freeC,I.pin,I.hok,I.len]
def SP.unwish{D:Ends}{f:Flow}{c:Go}(h:SP (X.wish E) zG D f c):SP X zG D f c:=by
 cases f with
 |next=>let#[b,a,I,q]:=h;exact#[_,a,I.unwish,q]
 |brk=>let#[b,a,I,q]:=h;exact#[_,a,I.unwish,q]
 |cont=>let#[b,a,I,q]:=h;exact#[_,a,I.unwish,q]
 |ret u=>let#[v,b,a,I,r,q]:=h;exact#[v,_,a,I.unwish,r,q]
def PSs.nox{st:v_ jP}{t:TS}(h:PSs X.nox st t):PSs X st t:=λzG s Z H D I a=>
 jh (h _ s Z H D (I.wish _) a) (λ_ _ q=>q.unwish) λ_ _ z=>jt z
end
section
variable {X:Cx}{st:Stmt}{rest:v_ Stmt}{t u:TS}{e:Expr}{te:TE}{pos:Pos}
def Z1:TS:=λD Z H=>D.nx Z H
def Ua(t u:TS):TS:=λD Z H=>t {D with nx:=u D} Z H
def Jz:PSs X [] Z1:=λ_ _ Z H _ I h=>me #[Z,H,I,h]
def BV(a:PS X st t)(b:PSs X rest u):PSs X (st::rest)^Ua t u:=by
 intro g s Z H D I h;refine pR^thn (a _ s Z H _ I h) λf c q=>?_;cases f with
 |next=>
  let#[i,d,e,q]:=q;exact b _ c _ d D e q
 |ret v=>exact q
 |brk=>exact q
 |cont=>exact q
def C5(a:PS X st t):PSs X [st] t:=by
 intro b s Z H D I h;refine pR^thn (a _ s Z H D I h) λf c q=>?_;cases f with
 |next=>exact me q
 |ret v=>exact q
 |brk=>exact q
 |cont=>exact q
def bB:TS:=λD Z H=>D.bk Z H
def Wz:PS X (.Break pos) bB:=λ_ _ Z H _ I h=>wpAny_Break #[Z,H,I,h]
def Inv.quiet{a:v_ (Db×Obj)}{Z:St}{H:Hp}{s:Go}(I:Inv X a Z H s):interactive X.env=u_:=by simp[interactive,I.ok.kind]
def d7(te:TE):TS:=λD Z H=>te Z H λ_ a=>D.nx Z a
def TY(a:PE X e te)(b:swapsWith e s_ pos.line X.env=pure u_:=by rfl):PS X (.Expr e pos)^d7 te:=λg s Z H D I h=>wpAny_Expr_any (thn (a _ s Z H _ I h) λv i #[x,c,d,j,f]=>#[Z,c,d,f]) I.quiet b
def Yn(te:TE):TS:=λD Z H=>te Z H D.rt
def Gn(a:PE X e te):PS X (.Return (P3 e) pos)^Yn te:=λg s Z H D I h=>wpAny_Return_some^thn (a _ s Z H _ I h) λv i #[x,b,c,d,f]=>#[x,Z,b,c,d,f]
def dq(c:TT)(t u:TS):TS:=λD Z H=>c Z H λb a=>if b=t_ then t D Z a else u D Z a
def TX{c:jX}{a b:v_ jP}{e:TT}(k:PT X c e)(l:PSs X a t)(m:PSs X b u):PS X (.If c a b pos)^dq e t u:=by
 intro n s Z H D I h;refine wpAny_If^thn (k _ s Z H _ I h) λd f #[g,i,j]=>?_;cases d with
 |true=>exact l _ f Z g D i j
 |false=>exact m _ f Z g D i j
end
abbrev TG:=V->St->Hp->(St->Hp->Prop)->Prop
abbrev cz:=v_ V->St->Hp->(St->Hp->Prop)->Prop
def PG(X:Cx)(a:jX)(t:TG):Prop:=
 ∀(b:v_ (Db×Obj)) (s:Go) (Z:St) (H:Hp) (v:V) (u:Ev) (Q:St->Hp->Prop),Inv X b Z H s->RelV v u->t v Z H Q->
  wpAny (model X.prog X.w) X.A (assign a X.env u) (λ_ e=>∃c d,Inv X b c d e/\Q c d) X.xe s
def fz(X:Cx)(f:v_ jX)(t:cz):Prop:=
 ∀(a:v_ (Db×Obj)) (s:Go) (Z:St) (H:Hp) (b:v_ V) (c:v_ Ev) (Q:St->Hp->Prop),Inv X a Z H s->Vals b c->t b Z H Q->
  wpAny (model X.prog X.w) X.A (assignInOrder ((assignEach f X.env).map (·.2)) c) (λ_ g=>∃d e,Inv X a d e g/\Q d e) X.xe s
abbrev cy:=V->V->V->Hp->(Hp->Prop)->Prop
def fu(X:Cx)(t:cy):Prop:=
 ∀(a:v_ (Db×Obj)) (s:Go) (Z:St) (H:Hp) (o i v:V) (b c u:Ev) (Q:Hp->Prop),Inv X a Z H s->RelV o b->RelV i c->RelV v u->t o i v H Q->
  wpAny (model X.prog X.w) X.A (setItem b c u) (λ_ e=>∃d,Inv X a Z d e/\Q d) X.xe s
abbrev gN:=V->V->Hp->VK->Prop
def iV(X:Cx)(b:Operator)(t:gN):Prop:=
 ∀(a:v_ (Db×Obj)) (s:Go) (Z:St) (H:Hp) (x y:V) (v u:Ev) (Q:VK),Inv X a Z H s->RelV x v->RelV y u->t x y H Q->
  wpAny (model X.prog X.w) X.A (inplaceOp b v u) (EP X a Z Q) X.xe s
section
variable {X:Cx}{pos:Pos}
def JX(i:Nat):TG:=λv Z H Q=>Q (Z.set i^P3 v) H
def HP{i:Nat}{x:Str}(a:X.N.Nodup)(b:X.N[i]?=P3 x)(hx:Loc X.env.scope x)(c:X.fn x=t_\/X.env.scope.names.lookup x=P3 .local:=by first|exact .inl rfl|exact .inr rfl|assumption):PG X (.Name x pos)^JX i:=λe s Z H v u Q I r h=>wpAny_assign_Name^G6 I a b hx r (λf d=>#[_,H,d,h]) c
def g_:cz:=λa Z H Q=>a=[]/\Q Z H
def fP(t:TG)(u:cz):cz:=λa Z H Q=>∃v r,a=v::r/\t v Z H λb c=>u r b c Q
def Tb:fz X [] g_:=by
 intro a s Z H b c Q I r h;let#[e,h]:=h;exact assignInOrder_nil #[Z,H,I,h]
def HN{e:jX}{a:v_ jX}{t:TG}{u:cz}(b:PG X e t)(c:fz X a u)
  (d:(assignEach (e::a) X.env).map (·.2)=assign e X.env::(assignEach a X.env).map (·.2):=by rfl):fz X (e::a)^fP t u:=by
 intro m s Z H n o Q I r h;let#[v,p,f,h]:=h;subst f;cases r with
 |cons r g=>
  rw[d];exact assignInOrder_cons^thn (b _ s Z H _ _ _ I r h) λ_ i #[_,j,k,l]=>c _ i _ j _ _ Q k g l
def g9(K:Frag)(n:Nat)(t:cz):TG:=λv Z H Q=>∃a b,v=.ref a/\SqT K H a b/\b.length=n/\t b Z H Q
def W6{c:v_ jX}{k:Nat}{t:cz}{n:Nat}(g:X.calm=t_)(h:fz X c t)
  (i:(assignEach c X.env).length=n:=by rfl) (d:(assignEach c X.env).findIdx? (·.1)=s_:=by rfl):PG X (.Tuple c k pos)^g9 X.K n t:=by
 intro z s Z H v u Q I r f;let#[a,j,l,m,p,f]:=f;subst l;cases r;let#[q,w,x,A]:=I.tuple m;exact assign_Tuple_tuple (I.ok.hd g) x (by simp[i,←p,w.length]) d λB y=>h _ _ Z H j _ Q (I.kept λb o e=>y b o (jL^Uf e) e) (by lk) f
def fO(a b:TE)(t:cy):TG:=λv Z H Q=>a Z H λo c=>b Z c λi H2=>t o i v H2 λd=>Q Z d
def Rt{o i:jX}{c d:TE}{t:cy}(e:PE X o c)(f:PE X i d)(g:fu X t)
  (D:∀v,assign (.Subscript o i pos) X.env v=(do
   let a ←holding [v]^eval o X.env
   let b ←holding [v,a] (eval i X.env)
   standAt pos
   holding [v,a,b] (setItem a b v)
   release [v,a,b] []):=by intro _;rfl):PG X (.Subscript o i pos)^fO c d t:=λE s Z H v u Q I r h=>Ch^jn^thn (e _ s Z H _ I h) λa j #[x,k,l,m,n]=>Ch^jn^thn (f _ j Z k _ l n) λb p #[y,H2,q,w,z]=>Ch^n_^Ch^jn^thn (g _ p Z H2 x y v a b u _ q m w r z) λ_ F #[A,B,C]=>wpAny_release #[Z,A,B,C]
def Pk(a:TE)(g:TG):TS:=λD Z H=>a Z H λx b=>g x Z b D.nx
def K8{a e:jX}{b:TE}{g:TG}(c:PE X e b)(d:PG X a g)(f:swapsWithSole [a] e pos.line X.env=pure u_:=by rfl)(i:swappedStores [a] e X.env=pure s_:=by rfl)
  (j:(assignEach [a] X.env).map (·.2)=[assign a X.env]:=by rfl):PS X (.Assign [a] e pos)^Pk b g:=by
 intro p s Z H D I h;refine wpAny_Assign_stores (thn (c _ s Z H _ I h) λv k #[x,l,m,n,o]=>?_) f i;rw[j];exact thn (d _ k Z l x v _ m n o) λ_ r q=>q
def FI{i:Nat}{x:Str}{e:jX}{b:TE}{a:Pos}(c:X.N.Nodup)(d:X.N[i]?=P3 x)(hx:Loc X.env.scope x)(f:PE X e b)(g:swapsWith e (P3^.Name x a) pos.line X.env=pure u_:=by rfl)(j:X.fn x=t_\/X.env.scope.names.lookup x=P3 .local:=by first|exact .inl rfl|exact .inr rfl|assumption):
  PS X (.Assign [.Name x a] e pos) (Pk b^JX i):=λp s Z H D I h=>wpAny_Assign_Name (thn (f _ s Z H _ I h) λv q #[y,k,l,m,n]=>G6 l c d hx m (λr o=>#[_,k,o,n]) j) g
def gm(i:Nat)(a:TE)(b:gN):TS:=λD Z H=>∃x,Z[i]?=P3^P3 x/\a Z H λy c=>b x y c λz H2=>D.nx (Z.set i^P3 z) H2
def bT{i:Nat}{x:Str}{e:jX}{p:TE}{j:Operator}{q:gN}{d:Pos}(C:X.N.Nodup)(t:X.N[i]?=P3 x)(hx:Loc X.env.scope x)(E:PE X e p)(F:iV X j q)(G:X.fn x=t_\/X.env.scope.names.lookup x=P3 .local:=by first|exact .inl rfl|exact .inr rfl|assumption):
  PS X (.AugAssign (.Name x d) j e pos) (gm i p q):=by
 intro n s Z H D I h;let#[v,J,h]:=h;let#[m,K,L]:=I.loc;have o:Vw X.env.scope x:=by rcases hx with k|k;exact .inl k;exact .inr^.inl k
 let#[u,r,l]:=L i x v t J o;refine wpAny_AugAssign_Name ?_
 have B:wpAny (model X.prog X.w) X.A (eval e X.env) (λw f=>wpAny (model X.prog X.w) X.A (inplaceOp j u w) (λr g=>wpAny (model X.prog X.w) X.A (storeName X.env x r) (λ_=>SP X n D .next) X.xe g) X.xe f) X.xe s:=by
  refine thn (E n s Z H _ I h) λw M #[y,O,P,Q,R]=>?_;refine thn (F n M Z O v y u w _ P r Q R) λz s2 #[zv,H2,S,T,U]=>?_;exact G6 S C t hx T (λs3 V=>#[_,H2,V,U]) G
 rcases l with⟨a,W⟩|⟨a,c,Y,b⟩
 .exact wpAny_loadName_local I.ok.kind a K W B
 .rcases a with a|a
  .exact wpAny_loadName_cell I.ok.kind a Y b B
  .rcases hx with k|k
   .have:X.env.scope.names.lookup x=P3 .free:=a
    rw[k]at this;cases this
   .have:X.env.scope.names.lookup x=P3 .free:=a
    rw[k]at this;cases this
def iw(f:Int->Int->Int):gN:=λx y H Q=>∃i j,x=.int i/\y=.int j/\Q (.int^f i j) H
def cE:iV X .Add (iw λi j=>i+j):=by
 intro e s Z H x y v u Q I a b h;let#[i,j,c,d,q]:=h;subst c;subst d
 let#[t,rfl]:=a;let#[f,rfl]:=b;exact iadd_int #[.int _,H,I.tok _,#[_,rfl],q]
end
section
variable {X:Cx}{pos:Pos}
def av(c:TT)(g:TS):TS:=λD Z H=>∃W:Nat->St->Hp->Prop,(∃m,W m Z H)/\∀m Z H,W m Z H->
 c Z H λb a=>if b=t_ then ∃N:St->Hp->Prop,(∀d e,N d e->∃f,f<m/\W f d e)/\g {D with nx:=N,ct:=N,bk:=D.nx} Z a else D.nx Z a
def Wy{c:jX}{a:v_ jP}{t:TT}{u:TS}(x:oH (model X.prog X.w) X.A X.env X.xe)(F:PT X c t)(G:PSs X a u):PS X (.While c a [] pos)^av t u:=by
 intro l s Z H D I h;let#[W,#[J,K],d]:=h;refine wpAny_While^codeAny_whileLoop (λn L=>∃y z,Inv X l y z L/\W n y z) ?_ J #[Z,H,I,K];rintro n M ⟨i,B,O,P⟩;refine l_ x^thn (F l M i B _ O^d n i B P) λb Q #[H2,C,j]=>?_;cases b with
 | true=>
  let#[N,E,j]:=j;rw[if_pos rfl];refine l_ x^thn (G l Q i H2 _ C j) λf R k=>?_;cases f with
  |next=>
   let#[e,g,m,o]:=k;let#[p,q,r]:=E e g o;exact#[p,q,e,g,m,r]
  |cont=>
   let#[e,g,m,o]:=k;let#[p,q,r]:=E e g o;exact#[p,q,e,g,m,r]
  |brk=>exact k
  |ret v=>exact k
 |false=>
  rw[if_neg jR];exact me #[i,H2,C,j]
end
structure It where
 go:Nat->Hp->Prop
 yld:Nat->Hp->V->Hp->Prop
 stop:Nat->Hp->Prop
def Fx(X:Cx)(a:v_ (Db×Obj))(H:Hp)(b:Db):Prop:=
 H b=s_/\b≠X.env.locals/\b∉X.fs/\(b∈X.ex\/X.s₀.heap.objs.size<=b)/\(∀x c,X.env.cells.lookup x=P3 c->c≠b)/\∀p∈X.pn++a,p.1≠b
def Inv.fpOk{X:Cx}{d:v_ (Db×Obj)}{Z:St}{H f:Hp}{s:Go}{b:Db}(I:Inv X d Z H s)(a:s.heap.objs.size<=b)(g:f b=s_):Fx X d f b:=by
 refine#[g,lS^jW I.lt a,I.nofs a,.inr^jJ I.sz a,λx c e z=>?_,λp h z=>?_]
 .let#[v,q]:=I.cell x c e
  exact absurd (jW q.lt^by rw[z];exact a)^j7 _
 .exact absurd (jW (Uf (I.pin p h).1)^by rw[z];exact a)^j7 _
structure Turn (P:jM) (w:jT) (K:Frag) (tg:jX) (J:It) (fp:List Db) (it:Db) (tn:Nat->jI->Prop):Prop where
 mem:it∈fp
 obj:∀i h,tn i h->∀b∈fp,∃o,h.get? b=P3 o/\∀v,o.data≠.cell v
 keep:∀i h h',tn i h->(∀b∈fp,∀o,h.get? b=P3 o->h'.get? b=P3 o)->tn i h'
 item:∀(X:Cx),X.prog=P->X.w=w->X.K=K->X.calm=t_->∀(i:Nat) (zG:List (Db×Obj)) (s:Go) (Z:St) (H:Hp) (E:Ev->Go->Prop),Inv X zG Z H s->(∀b∈fp,Fx X zG H b)->tn i s.heap->J.go i H->
  wpAny (model P w) X.A (pyNext^.ref it) (λr s1=>∃u,r=P3 u /\
   wpAny (model P w) X.A (letOwnedTupleGo tg (.ref it) u) (λ_ s2=>∃x H',Inv X zG Z H' s2/\RelV x u/\J.yld i H x H'/\tn (i+1) s2.heap/\∀b∈fp,H' b=s_) E s1) E s
 done:∀(X:Cx),X.prog=P->X.w=w->X.K=K->X.calm=t_->∀(i:Nat) (zG:List (Db×Obj)) (s:Go) (Z:St) (H:Hp) (E:Ev->Go->Prop),Inv X zG Z H s->(∀b∈fp,Fx X zG H b)->tn i s.heap->J.stop i H->
  wpAny (model P w) X.A (pyNext^.ref it) (λr s1=>r=s_/\Inv X zG Z H s1) E s
 self:∀(A:jY) (i:Nat) (s:Go) (Q:Ev->Go->Prop) (E:Ev->Go->Prop),tn i s.heap->Q (.ref it) s->wpAny (model P w) A (pyIter^.ref it) Q E s
abbrev TI:=St->Hp->(It->Hp->Prop)->Prop
def iW(X:Cx)(d:v_ (Db×Obj))(Z:St)(h:jX)(R:It->Hp->Prop)(a:Ev)(e:Go):Prop:=
 ∃(it:Db) (f:v_ Db) (g:Nat->jI->Prop) (J:It) (c:Hp),a=.ref it/\Inv X d Z c e/\Turn X.prog X.w X.K h J f it g/\g 0 e.heap/\(∀b∈f,Fx X d c b)/\R J c
def PI(X:Cx)(c a:jX)(d:TI):Prop:=
 ∀(b:v_ (Db×Obj)) (s:Go) (Z:St) (H:Hp) (R:It->Hp->Prop),Inv X b Z H s->d Z H R->
  wpAny (model X.prog X.w) X.A (eval a X.env) (λv e=>wpAny (model X.prog X.w) X.A (pyIter v) (iW X b Z c R) X.xe e) X.xe s
def QR {M:Model}{A:jY}{E:Ev → Go → Prop}{s:Go}{b:jX}{it:Db}{u:Ev}{o:Obj}{n:String}{c:Array Ev}{Q:Unit → Go → Prop} (d:s.heap.get? it=P3 o) (e:o.cls=.type n) (hd:o.data=.fields c)
    (f:["enumerate","zip","dict_itemiterator","dict_reverseitemiterator","odict_iterator","itertools.zip_longest","itertools.pairwise"].contains n=u_) (a:Q () s):wpAny M A (letOwnedTupleGo b (.ref it) u) Q E s:=by
  unfold letOwnedTupleGo
  cases b <;>first
    |exact Re a
    |(cases u <;>first
        |exact Re a
        | (refine Ch^wpAny_load d ?_
           rw[e,hd];show wpAny M A (if(["enumerate","zip","dict_itemiterator","dict_reverseitemiterator","odict_iterator","itertools.zip_longest","itertools.pairwise"].contains n && c[0]?==P3^rawInt _)=t_ then _ else _) Q E s;rw[if_neg^by grind];exact Re a))
def iI(K:Frag)(a:Db):It:=
 #[λi H=>∃b x,SqL K H a b/\b[i]?=P3 x,λi H x c=>c=H/\∀b,SqL K H a b->b[i]?=P3 x,λi H=>∃b,SqL K H a b/\b.length<=i]
def c_(K:Frag)(a:Db):It:=
 #[λi H=>∃b x,SqT K H a b/\b[i]?=P3 x,λi H x c=>c=H/\∀b,SqT K H a b->b[i]?=P3 x,λi H=>∃b,SqT K H a b/\b.length<=i]
def gP(a:Int)(n:Nat):It:=#[λi _=>i<n,λi H x b=>b=H/\x=.int (a+i),λi _=>n<=i]
def UW{P:jM}{w:jT}{K:Frag}{O:jX}(a it:Db):Turn P w K O (iI K a) [it] it (λi h=>h.IsListIter it a i) where
 mem:=by simp
 obj:=λi h f b g=>by
  have e:b=it:=by simpa using g
  subst e;let#[o,e,c,d]:=f;exact#[o,e,λv z=>by rw[d]at z;cases z]
 keep:=λi h l f k=>f.at λo e=>k it (by simp) o e
 item:=by
  intro X q r t M i N s Z H E I m f y;subst q r t;let#[Q,x,n,A]:=y;let#[B,C,p,R]:=I.list n;let#[u,S,T]:=C.get A;let#[D,F,U,G,J,L]:=m it (by simp);refine wpAny_pyNext_list_item f p.isList (x:=u) (by simpa using S) λl j V=>?_;have W:Inv X N Z H {s with heap:=l}:=I.turned (t':=s.toks) (λb o g e=>(V.2 b g).trans e) D F G J L;let#[o,e,c,d]:=id j;exact#[u,rfl,QR (s:={s with heap:=l}) e c d (by cbv) #[x,H,W,T,#[rfl,λys Y=>by rw[I.list_inj Y n];exact A],j,λb g=>(m b g).1]]
 done:=by
  intro X q r t M i N s Z H E I m f y;subst q r t;let#[Q,n,A]:=y;let#[B,C,p,R]:=I.list n;let#[D,F,U,G,J,L]:=m it (by simp);have hl:=C.length;exact wpAny_pyNext_list_end (I.ok.hd M) f p.isList (by simp;lk) λl eb=>#[rfl,I.turned (t':=s.toks) (λb o g e=>eb b o g e) D F G J L]
 self:=λ_ _ _ _ _ f h=>wpAny_pyIter_listiter f h
def KY{P:jM}{w:jT}{K:Frag}{O:jX}(a it:Db):Turn P w K O (c_ K a) [it] it (λi h=>h.IsTupleIter it a i) where
 mem:=by simp
 obj:=λi h f b g=>by
  have e:b=it:=by simpa using g
  subst e;let#[o,e,c,d]:=f;exact#[o,e,λv z=>by rw[d]at z;cases z]
 keep:=λi h m f k=>f.at λo e=>k it (by simp) o e
 item:=by
  intro X r t y M i N s Z H E I n f A;subst r t y;let#[Q,x,q,B]:=A;let#[j,C,p,R]:=I.tuple q;let#[u,S,T]:=C.get B;let#[D,F,U,G,J,L]:=n it (by simp);refine wpAny_pyNext_tuple_item f (show s.heap.IsTuple a j.toArray from p) (x:=u) (by simpa using S) λm l V=>?_;have W:Inv X N Z H {s with heap:=m}:=I.turned (t':=s.toks) (λb o g e=>(V.2 b g).trans e) D F G J L;let#[o,e,c,d]:=id l;exact#[u,rfl,QR (s:={s with heap:=m}) e c d (by cbv) #[x,H,W,T,#[rfl,λys Y=>by rw[I.tuple_inj Y q];exact B],l,λb g=>(n b g).1]]
 done:=by
  intro X r t y M i N s Z H E I n f A;subst r t y;let#[Q,q,B]:=A;let#[j,C,p,R]:=I.tuple q;let#[D,F,U,G,J,L]:=n it (by simp);have hl:=C.length;exact wpAny_pyNext_tuple_end (I.ok.hd M) f (show s.heap.IsTuple a j.toArray from p) (by simp;lk) λm eb=>#[rfl,I.turned (t':=s.toks) (λb o g e=>eb b o g e) D F G J L]
 self:=λ_ _ _ _ _ f h=>wpAny_pyIter_tupleiter f h
def RN{P:jM}{w:jT}{K:Frag}{D:jX}(it:Db)(f:Int)(n:Nat):Turn P w K D (gP f n) [it] it (λi h=>IsRangeIter h it (f+(i:Nat)*1) ((n:Int) - (i:Nat)) 1) where
 mem:=by simp
 obj:=λi h a b c=>by
  simp_all
 keep:=λi h g a k=>k it (by simp) _ a
 item:=by
  intro X l m p q i B s Z H E I j a r;subst l m p;let#[u,x,F,y,z,A]:=j it (by simp);have W:=Walks.range (prog:=X.prog) (w:=X.w) (I.ok.hd q) it f 1 n;refine W.item i s _ _ r a λv g C G d J=>?_;let#[t,rfl]:=G;have L:Inv X B Z H {s with heap:=g,toks:=C}:=I.turned (λb o c e=>J b o (by simpa using c) e) u x y z A;refine#[_,rfl,QR (s:={s with heap:=g,toks:=C}) (n:="range_iterator") d rfl rfl (by cbv) #[.int (f+i),H,L,#[t,?_],#[rfl,rfl],d,λb c=>(j b c).1]];rw[Int.mul_one]
 done:=by
  intro X l m p q i B s Z H E I j a r;subst l m p;let#[u,x,F,y,z,A]:=j it (by simp);exact wpAny_pyNext_range_end (I.ok.hd q) a (by have:n<=i:=r;lk) λg M=>#[rfl,I.turned (t':=s.toks) (λb o c e=>M b o c e) u x y z A]
 self:=λ_ _ _ _ _ a h=>wpAny_pyIter_rangeiter a h
section
variable {X:Cx}{tg:Expr}
def g0(K:Frag)(c:TE):TI:=λZ H R=>c Z H λx b=>∃a,x=.ref a/\(∃d,SqT K b a d)/\R (c_ K a) b
def W4{l:jX}{d:TE}(f:PE X l d):PI X tg l^g0 X.K d:=by
 intro r s Z H R I h;refine thn (f _ s Z H _ I h) λv g #[x,i,c,j,k]=>?_;let#[a,e,#[t,m],q]:=k;subst e;cases j;let#[n,u,p,w]:=c.tuple m;refine lD (p) ?_;refine#[_,_,_,_,i,rfl,c.kept λb o e=>FM _ e,KY a _,#[_,XV _ rfl,rfl,rfl],λb y=>?_,q];have e:b=g.heap.objs.size:=by grind
 subst e;exact c.fpOk (Op _)^c.hok.fresh^Op _
def Wj{d:v_ (Db×Obj)}{Z:St}{H:Hp}{s:Go}{R:It->Hp->Prop}{E:Ev->Go->Prop}{a c:Int}{t u v:Tok}{f:Nat}(I:Inv X d Z H s)(h:-(2 ^ 62)<=a)(i:a<2 ^ 62)(j:-(2 ^ 62)<=c)(k:c<2 ^ 62)
  (q:R (gP a (c - a).toNat) H):wpAny (model X.prog X.w) X.A (pyIter^.ref s.heap.objs.size) (iW X d Z tg R) E {s with heap:=s.heap.push {cls:=.type "range",data:=.fields #[ .int a t,.int c u,.int 1 v]},toks:=f}:=by
 refine wpAny_pyIter_range (IsRange.new ..) (small_one h i j k) ?_;have g:Inv X d Z H {s with heap:=s.heap.push {cls:=.type "range",data:=.fields #[ .int a t,.int c u,.int 1 v]},toks:=f}:=I.kept λb o e=>FM _ e
 refine#[(s.heap.push {cls:=.type "range",data:=.fields #[ .int a t,.int c u,.int 1 v]}).objs.size,[(s.heap.push {cls:=.type "range",data:=.fields #[ .int a t,.int c u,.int 1 v]}).objs.size],_,_,H,rfl,
  g.kept (t':=f) λb o e=>FM _ e,RN _ a (c - a).toNat,?_,λb l=>?_,q]
 .have m:a+((0:Nat):Int)*1=a:=by simp
  have n:(((c - a).toNat:Nat):Int) - ((0:Nat):Int)=Builtin.Range.rangeSize a c 1:=by rw[rangeSize_one];grind
  show IsRangeIter _ _ (a+((0:Nat):Int)*1) ((((c - a).toNat:Nat):Int) - ((0:Nat):Int)) 1;rw[m,n];exact XV _ rfl
 .have e:b=(s.heap.push {cls:=.type "range",data:=.fields #[ .int a t,.int c u,.int 1 v]}).objs.size:=by simpa using l
  subst e;exact g.fpOk (Op _)^g.hok.fresh^Op _
def fM(a:TA):TI:=λZ H R=>a Z H λb c=>∃j:Int,b=[.int j]/\-(2 ^ 62)<=j/\j<2 ^ 62/\R (gP 0 j.toNat) c
def Uw{a:jX}{c:TA}{p pos:Pos}(d:Gl X "range")(f:X.mg "range"=s_)(g:PA X [a] c)(i:starEach [a] X.env=[(u_,eval a X.env)]:=by rfl):PI X tg (.Call (.Name "range" p) [a] [] pos)^fM c:=by
 intro o s Z H R I h;refine Call_^DF I d f boot_range (jw (thn (g _ _ s Z H _ I h) λu v #[w,x,k,l,b]=>?_) i rfl);let#[j,e,b,m,q]:=b;subst e;cases l with
 |cons r n=>
  cases n;let#[t,rfl]:=r;exact call_range_1^Wj k (by lk) (by lk) b m^by simpa using q
def gl(d:TI)(g:TG)(e:TS):TS:=λD Z H=>d Z H λJ f=>∃W:Nat->Nat->St->Hp->Prop,(∃m,W 0 m Z f)/\∀i m Z H,W i m Z H->
 (J.stop i H/\D.nx Z H)\/(J.go i H/\∃N:St->Hp->Prop,(∀b a,N b a->∃c,c<m/\W (i+1) c b a)/\∀x a,J.yld i H x a->g x Z a λh H2=>e {D with nx:=N,ct:=N,bk:=D.nx} h H2)
def LA(a:v_ Db)(h:jI):v_ (Db×Obj):=a.filterMap λb=>(h.get? b).map λo=>(b,o)
def Ej{a:v_ Db}{h:jI}{b:Db}{o:Obj}(c:b∈a)(e:h.get? b=P3 o):(b,o)∈LA a h:=oz.mpr #[b,c,by rw[e];rfl]
def U4{a:v_ Db}{h:jI}{p:Db×Obj}(c:p∈LA a h):p.1∈a/\h.get? p.1=P3 p.2:=by
 let#[b,f,e]:=oz.mp c;cases q:h.get? b with
 |none=>grind
 |some o=>
  rw[q]at e;have d:=jH e;subst d
  simp_all
def Inv.pinned{a:v_ (Db×Obj)}{Z:St}{H:Hp}{s:Go}{c:v_ Db}(I:Inv X a Z H s)(g:∀b∈c,Fx X a H b)(h:∀b∈c,∃o,s.heap.get? b=P3 o/\∀v,o.data≠.cell v):Inv X (a++LA c s.heap) Z H s:=
 I.pins_of λp i=>(jK.mp i).elim (λz=>I.pin p^jU _ z) λz=>by
  let#[f,e]:=U4 z;let#[j,k,l,_]:=g _ f;let#[o,m,d]:=h _ f
  grind
def Inv.unpinned{a b:v_ (Db×Obj)}{Z:St}{H:Hp}{s:Go}(I:Inv X (a++b) Z H s):Inv X a Z H s:=I.pins_of λp c=>I.pin p^jU _^lJ _ c
def K7{a:jX}{t:v_ jP}{wi:TI}{g:TG}{tb:TS}{pos:Pos}(C:oH (model X.prog X.w) X.A X.env X.xe)(hc:X.calm=t_)(hi:PI X tg a wi)(hg:PG X tg g)(c:PSs X t tb)
  (hs:∀x,foldedSetIterable a X.env x=pure x:=by intro _;rfl):PS X (.For tg a t [] pos)^gl wi g tb:=by
 intro z s Z H D I h;refine wpAny_For (thn (hi z s Z H _ I h) λv s1 h1=>thn h1 λa0 s2 h2=>?_) hs;let#[it,E,tn,J,H2,e,I2,T,R,f2,W,#[m0,w0],F]:=h2;subst e;have j:∀{q:Hp},(∀b∈E,q b=s_)->∀b∈E,Fx X z q b:=λhn b c=>#[hn b c,(f2 b c).2];refine codeAny_forLoop_any (λn s'=>∃i G q,Inv X z G q s'/\tn i s'.heap/\(∀b∈E,q b=s_)/\W i n G q) ?_ m0 #[0,Z,H2,I2,R,λb c=>(f2 b c).1,w0];rintro n s3 ⟨i,K,Q,I3,L,M,w3⟩
 rcases F i n K Q w3 with⟨O,qn⟩|⟨go,N,hN,step⟩
 .refine l_ C^thn (T.done X rfl rfl rfl hc i z s3 K Q X.xe I3 (j M) L O) λr s4 #[S,I4]=>?_
  subst S;exact me #[K,Q,I4,qn]
 .refine l_ C^thn (T.item X rfl rfl rfl hc i z s3 K Q X.xe I3 (j M) L go) λr s4 #[u,S,h4]=>?_
  subst S;refine l_ C^thn h4 λ_ s5 #[x,H5,I5,r5,y5,B,U]=>?_;have V:=I5.pinned (j U)^T.obj _ _ B;refine l_ C^thn (hg _ s5 K H5 x u _ V r5^step x H5 y5) λ_ s6 #[Y,H6,I6,q6]=>?_;refine l_ C^thn (c _ s6 Y H6 _ I6 q6) λf s7 y=>?_
  have again:∀{k:St}{l:Hp},Inv X (z++LA E s5.heap) k l s7->N k l->∃m,m<n/\∃i G q,Inv X z G q s7/\tn i s7.heap/\(∀b∈E,q b=s_)/\W i m G q:=λ{k l} p P=>by
   let#[m',hm,w7]:=hN k l P;refine#[m',hm,i+1,k,l,p.unpinned,T.keep _ _ _ B λb c o e=>(p.pin (b,o)^jU _^jU _^Ej c e).1,λb c=>?_,w7];let#[o,e,d]:=T.obj _ _ B b c;exact(p.pin (b,o)^jU _^jU _^Ej c e).2.1
  cases f with
  |next=>let#[k,l,p,P]:=y;exact again p P
  |cont=>let#[k,l,p,P]:=y;exact again p P
  |brk=>let#[k,l,p,y]:=y;exact#[k,l,p.unpinned,y]
  |ret v=>let#[x7,k,l,p,r7,y]:=y;exact#[x7,k,l,p.unpinned,r7,y]
end
def T1{K:Frag}{a:Db}{xs:v_ V}{g:TG}{j:TS}{D:Ends}{Z:St}{H:Hp}(b:Nat->St->Hp->Prop)(l:b 0 Z H)(n:∀i Z H,i<=xs.length->b i Z H->SqT K H a xs)
  (o:∀i x Z H,xs[i]?=P3 x->b i Z H->g x Z H λd H2=>j {D with nx:=b (i+1),ct:=b (i+1),bk:=D.nx} d H2) (r:∀Z H,b xs.length Z H->D.nx Z H):
  ∃W:Nat->Nat->St->Hp->Prop,(∃m,W 0 m Z H)/\∀i m Z H,W i m Z H->
   ((c_ K a).stop i H/\D.nx Z H)\/((c_ K a).go i H/\∃N:St->Hp->Prop,(∀f c,N f c->∃k,k<m/\W (i+1) k f c)/\∀x c,(c_ K a).yld i H x c->g x Z c λd H2=>j {D with nx:=N,ct:=N,bk:=D.nx} d H2):=by
 exists λi m Z H=>m=xs.length - i/\i<=xs.length/\b i Z H,#[xs.length,by simp,eq _,l];rintro i m Z H ⟨rfl,s,p⟩;have q:=n i Z H s p
 by_cases h:i<xs.length
 .refine .inr #[#[xs,xs[i],q,by simp],_,λf c t=>#[_,by lk,rfl,h,t],λx c y=>?_]
  let#[e,y]:=y;subst e;exact o i x Z _ (y xs q) p
 .have e:i=xs.length:=by lk
  subst e;exact .inl #[#[xs,q,Op _],r Z H p]
abbrev R2:=V->V->Hp->VK->Prop
def OpR(X:Cx)(f:Ev->Ev->Sem Ev)(r:R2):Prop:=
 ∀(a:v_ (Db×Obj)) (s:Go) (Z:St) (H:Hp) (x y:V) (v u:Ev) (Q:VK),Inv X a Z H s->RelV x v->RelV y u->r x y H Q->
  wpAny (model X.prog X.w) X.A (f v u) (EP X a Z Q) X.xe s
def iB(X:Cx)(f:Ev->Sem Ev)(r:V->Hp->VK->Prop):Prop:=
 ∀(a:v_ (Db×Obj)) (s:Go) (Z:St) (H:Hp) (x:V) (v:Ev) (Q:VK),Inv X a Z H s->RelV x v->r x H Q->
  wpAny (model X.prog X.w) X.A (f v) (EP X a Z Q) X.xe s
def DR(X:Cx)(f:Ev)(r:v_ V->Hp->VK->Prop):Prop:=
 ∀(a:v_ (Db×Obj)) (s:Go) (Z:St) (H:Hp) (b:v_ V) (c:v_ Ev) (Q:VK),Inv X a Z H s->Vals b c->r b H Q->
  wpAny (model X.prog X.w) X.A (call f c) (EP X a Z Q) X.xe s
def iC(X:Cx)(r:V->Hp->(Bool->Hp->Prop)->Prop):Prop:=
 ∀(a:v_ (Db×Obj)) (s:Go) (Z:St) (H:Hp) (x:V) (v:Ev) (Q:Bool->Hp->Prop),Inv X a Z H s->RelV x v->r x H Q->
  wpAny (model X.prog X.w) X.A (truthy v) (TP X a Z Q) X.xe s
def EK(r:R2)(a b:TE):TE:=λZ H Q=>a Z H λx c=>b Z c λy H2=>r x y H2 Q
def ii(r:V->Hp->VK->Prop)(a:TE):TE:=λZ H Q=>a Z H λx b=>r x b Q
def rI(C:Int->Int->Prop)(g:Int->Int->V):R2:=λx y H Q=>∃i j,x=.int i/\y=.int j/\C i j/\Q (g i j) H
def JO(g:Int->Int->V):R2:=λx y H Q=>∃i j,x=.int i/\y=.int j/\Q (g i j) H
def rU(g:Int->V):V->Hp->VK->Prop:=λx H Q=>∃i,x=.int i/\Q (g i) H
section
variable {X:Cx}{a b:Expr}{ta tb:TE}{pos:Pos}
def ce(j:PE X a ta)(k:PE X b tb){i:v_ (Db×Obj)}{s:Go}{Z:St}{H:Hp}{R:V->V->Hp->Prop}(I:Inv X i Z H s)
  (h:ta Z H λx g=>tb Z g λy H2=>R x y H2) {Q:Ev->Go->Prop}{f:Ev->Ev->Sem Ev}
  (l:∀v u e x y H2,Inv X i Z H2 e->RelV x v->RelV y u->R x y H2->wpAny (model X.prog X.w) X.A (f v u) Q X.xe e):
  wpAny (model X.prog X.w) X.A (eval a X.env) (λv c=>wpAny (model X.prog X.w) X.A (eval b X.env) (λu d=>wpAny (model X.prog X.w) X.A (f v u) Q X.xe d) X.xe c) X.xe s:=thn (j _ s Z H _ I h) λv m #[x,g,n,o,p]=>thn (k _ m Z g _ n p) λu e #[y,H2,q,r,t]=>l v u e x y H2 q o r t
def CB{c:Operator}{r:R2}(d:OpR X (binaryOp c) r)(e:PE X a ta)(f:PE X b tb):PE X (.BinOp a c b pos)^EK r ta tb:=λl s Z H Q I h=>wpAny_BinOp^ce e f I h λv u g x y H2 i j k q=>d _ g Z H2 x y v u Q i j k q
def e9{c:UnaryOp}{r:V->Hp->VK->Prop}(d:iB X (unaryOp c) r)(e:PE X a ta):PE X (.UnaryOp c a pos)^ii r ta:=λl s Z H Q I h=>UnaryOp_^thn (e _ s Z H _ I h) λv f #[x,g,i,j,k]=>d _ f Z g x v Q i j k
def gI{f:Ev->Ev->Sem Ev}{C:Int->Int->Prop}{g:Int->Int->Int}
  (c:∀(i j:Int) (t u:Tok) (s:Go) (Q:Ev->Go->Prop) (E:Ev->Go->Prop),C i j->Q (.int (g i j) s.toks) {s with toks:=s.toks+1}->wpAny (model X.prog X.w) X.A (f (.int i t)^.int j u) Q E s):
  OpR X f (rI C λi j=>.int^g i j):=by
 intro m s Z H x y v u Q I d e h;let#[i,j,rfl,rfl,k,q]:=h;let#[t,rfl]:=d;let#[l,rfl]:=e;exact c i j t l s _ _ k #[.int _,H,I.tok _,#[_,rfl],q]
def fD{f:Ev->Ev->Sem Ev}{g:Int->Int->Int}
  (c:∀(i j:Int) (t u:Tok) (s:Go) (Q:Ev->Go->Prop) (E:Ev->Go->Prop),Q (.int (g i j) s.toks) {s with toks:=s.toks+1}->wpAny (model X.prog X.w) X.A (f (.int i t)^.int j u) Q E s):
  OpR X f (JO λi j=>.int^g i j):=by
 intro l s Z H x y v u Q I d e h;let#[i,j,rfl,rfl,q]:=h;let#[t,rfl]:=d;let#[k,rfl]:=e;exact c i j t k s _ _ #[.int _,H,I.tok _,#[_,rfl],q]
def ZG{f:Ev->Ev->Sem Ev}{g:Int->Int->Bool}
  (c:∀(i j:Int) (t u:Tok) (s:Go) (Q:Ev->Go->Prop) (E:Ev->Go->Prop),Q (.bool^g i j) s->wpAny (model X.prog X.w) X.A (f (.int i t)^.int j u) Q E s):
  OpR X f (JO λi j=>.bl^g i j):=by
 intro l s Z H x y v u Q I d e h;let#[i,j,rfl,rfl,q]:=h;let#[t,rfl]:=d;let#[k,rfl]:=e;exact c i j t k s _ _ #[.bl _,H,I,rfl,q]
def Vs(i j:Int):Prop:=0<j/\j<1073741824
def L9(i j:Int):Prop:=0<=j/\j<=1000000/\i.natAbs<2 ^ 64
def CMul(i j:Int):Prop:=(-(2 ^ 64)<i/\i<2 ^ 64)\/(-(2 ^ 64)<j/\j<2 ^ 64)
def CMul.ok{i j:Int}(h:CMul i j):IntMulOk i j:=by
 rcases h with⟨c,d⟩|⟨c,d⟩
 .exact .of_left^intBits_le_64 c d
 .exact .of_right^intBits_le_64 c d
def op_add:OpR X (binaryOp .Add) (JO λi j=>.int (i+j)):=fD λ_ _ _ _ _ _ _ q=>add_int q
def op_sub:OpR X (binaryOp .Sub) (JO λi j=>.int (i - j)):=fD λ_ _ _ _ _ _ _ q=>sub_int q
def op_mul:OpR X (binaryOp .Mult) (rI CMul λi j=>.int (i*j)):=gI λ_ _ _ _ _ _ _ c q=>mul_int q c.ok
def HV:OpR X (binaryOp .FloorDiv) (rI Vs λi j=>.int (i / j)):=gI λi j _ _ _ _ _ c q=>by
 have d:=c.1;have e:=c.2;exact floordiv_int (by lk) (by grind)^.inl^PyProof.noPylong_small^by lk
def FN:OpR X (binaryOp .Mod) (rI (λ_ j=>0<j) λi j=>.int (i % j)):=gI λi j _ _ _ _ _ c q=>mod_int' (by lk)^by rw[Int.fmod_eq_emod_of_nonneg i^by lk];exact q
def FL:OpR X (binaryOp .Pow) (rI L9 λi j=>.int (i ^ j.toNat)):=gI λ_ _ _ _ _ _ _ c q=>pow_int_small c.1 c.2.1 c.2.2 q
def iZ{f:Ev->Sem Ev}{g:Int->Int}
  (c:∀(i:Int) (t:Tok) (s:Go) (Q:Ev->Go->Prop) (E:Ev->Go->Prop),Q (.int (g i) s.toks) {s with toks:=s.toks+1}->wpAny (model X.prog X.w) X.A (f^.int i t) Q E s):
  iB X f (rU λi=>.int^g i):=by
 intro e s Z H x v Q I d h;let#[i,rfl,q]:=h;let#[t,rfl]:=d;exact c i t s _ _ #[.int _,H,I.tok _,#[_,rfl],q]
def al:iB X (unaryOp .USub) (rU λi=>.int (-i)):=iZ λ_ _ _ _ _ q=>neg_int q
end
def eB:V->V->Bool
 |.non,.non=>t_|.non,.int _=>t_|.int _,.non=>t_|.non,.bl _=>t_|.bl _,.non=>t_|.non,.str _=>t_|.str _,.non=>t_
 |.int _,.int _=>t_|.bl _,.bl _=>t_|.str _,.str _=>t_|.byt _,.byt _=>t_
 |.int _,.str _=>t_|.str _,.int _=>t_|.bl _,.str _=>t_|.str _,.bl _=>t_
 |_,_=>u_
def iN:R2:=λx y H Q=>eB x y=t_/\Q (.bl (decide (x=y))) H
def iK:R2:=λx y H Q=>eB x y=t_/\Q (.bl (!decide (x=y))) H
def KC{i j:Int}:decide (V.int i=V.int j)=(i==j):=by
 rw[kT];simp
def Oe{i j:Bool}:decide (V.bl i=V.bl j)=(i==j):=by
 rw[kT];simp
def KA{i j:Str}:decide (V.str i=V.str j)=(i==j):=by
 rw[kT];simp
def T_{i j:Array UInt8}:decide (V.byt i=V.byt j)=(i.toList==j.toList):=by
 rw[kT]
 simp_all
section
variable {X:Cx}{a b c:Expr}{ta tb tc:TE}{pos:Pos}
def A9{c:v_ (Db×Obj)}{Z:St}{H:Hp}{s:Go}{Q:VK}{k d:Bool}(I:Inv X c Z H s)(q:Q (.bl k) H)(e:k=d):EP X c Z Q (.bool d) s:=by
 subst e;exact#[.bl k,H,I,rfl,q]
def Et:OpR X (compareOp .Eq) iN:=by
 intro g s Z H x y v u Q I f c h;let#[e,q]:=h;cases x with
 |non=>
  cases f;cases y with
  |non=>cases c;exact PySem.EqNone.eq_none_none^A9 I q^by simp
  |bl j=>cases c;exact PySem.EqNone.eq_none_bool^A9 I q^by simp
  |int j=>let#[d,rfl]:=c;exact PySem.EqNone.eq_none_int^A9 I q^by simp
  |str j=>let#[d,rfl]:=c;exact PySem.EqNone.eq_none_str^A9 I q^by simp
  |_=>exact absurd (show u_=t_ from e) jR
 |bl i=>
  cases f;cases y with
  |non=>cases c;exact PySem.EqNone.eq_bool_none^A9 I q^by simp
  |bl j=>cases c;exact eq_bool^A9 I q Oe
  |str j=>let#[d,rfl]:=c;exact PySem.EqMixed.eq_bool_str^A9 I q^by simp
  |_=>exact absurd (show u_=t_ from e) jR
 |int i=>
  let#[t,rfl]:=f;cases y with
  |non=>cases c;exact PySem.EqNone.eq_int_none^A9 I q^by simp
  |int j=>let#[d,rfl]:=c;exact eq_int^A9 I q KC
  |str j=>let#[d,rfl]:=c;exact PySem.EqMixed.eq_int_str^A9 I q^by simp
  |_=>exact absurd (show u_=t_ from e) jR
 |str i=>
  let#[t,rfl]:=f;cases y with
  |non=>cases c;exact PySem.EqNone.eq_str_none^A9 I q^by simp
  |bl j=>cases c;exact PySem.EqMixed.eq_str_bool^A9 I q^by simp
  |int j=>let#[d,rfl]:=c;exact PySem.EqMixed.eq_str_int^A9 I q^by simp
  |str j=>let#[d,rfl]:=c;exact eq_str^A9 I q KA
  |_=>exact absurd (show u_=t_ from e) jR
 |byt i=>
  let#[t,rfl]:=f;cases y with
  |byt j=>let#[d,rfl]:=c;exact PySem.W.eq_bytes^A9 I q T_
  |_=>exact absurd (show u_=t_ from e) jR
 |_=>cases y <;>exact absurd (show u_=t_ from e) jR
def XH:OpR X (compareOp .NotEq) iK:=by
 intro g s Z H x y v u Q I f c h;let#[e,q]:=h;cases x with
 |non=>
  cases f;cases y with
  |non=>cases c;exact PySem.EqNone.ne_none_none^A9 I q^by simp
  |bl j=>cases c;exact PySem.EqNone.ne_none_bool^A9 I q^by simp
  |int j=>let#[d,rfl]:=c;exact PySem.EqNone.ne_none_int^A9 I q^by simp
  |str j=>let#[d,rfl]:=c;exact PySem.EqNone.ne_none_str^A9 I q^by simp
  |_=>exact absurd (show u_=t_ from e) jR
 |bl i=>
  cases f;cases y with
  |non=>cases c;exact PySem.EqNone.ne_bool_none^A9 I q^by simp
  |bl j=>cases c;exact ne_bool^A9 I q^congrArg not Oe
  |str j=>let#[d,rfl]:=c;exact PySem.EqMixed.ne_bool_str^A9 I q^by simp
  |_=>exact absurd (show u_=t_ from e) jR
 |int i=>
  let#[t,rfl]:=f;cases y with
  |non=>cases c;exact PySem.EqNone.ne_int_none^A9 I q^by simp
  |int j=>let#[d,rfl]:=c;exact ne_int^A9 I q^congrArg not KC
  |str j=>let#[d,rfl]:=c;exact PySem.EqMixed.ne_int_str^A9 I q^by simp
  |_=>exact absurd (show u_=t_ from e) jR
 |str i=>
  let#[t,rfl]:=f;cases y with
  |non=>cases c;exact PySem.EqNone.ne_str_none^A9 I q^by simp
  |bl j=>cases c;exact PySem.EqMixed.ne_str_bool^A9 I q^by simp
  |int j=>let#[d,rfl]:=c;exact PySem.EqMixed.ne_str_int^A9 I q^by simp
  |str j=>let#[d,rfl]:=c;exact ne_str^A9 I q^congrArg not KA
  |_=>exact absurd (show u_=t_ from e) jR
 |byt i=>
  let#[t,rfl]:=f;cases y with
  |byt j=>let#[d,rfl]:=c;exact PySem.W.ne_bytes^A9 I q^congrArg not T_
  |_=>exact absurd (show u_=t_ from e) jR
 |_=>cases y <;>exact absurd (show u_=t_ from e) jR
def op_lt:OpR X (compareOp .Lt) (JO λi j=>.bl (decide (i<j))):=ZG λ_ _ _ _ _ _ _ q=>pj q
def op_le:OpR X (compareOp .LtE) (JO λi j=>.bl (decide (i<=j))):=ZG λ_ _ _ _ _ _ _ q=>le_int q
def aF:OpR X (compareOp .Gt) (JO λi j=>.bl (decide (j<i))):=ZG λ_ _ _ _ _ _ _ q=>gt_int q
def aG:OpR X (compareOp .GtE) (JO λi j=>.bl (decide (j<=i))):=ZG λ_ _ _ _ _ _ _ q=>ge_int q
def U2:OpR X (compareOp .Lt) (λx y H Q=>∃i j,x=.str i/\y=.str j/\Q (.bl (decide (i.cps.toList<j.cps.toList))) H):=by
 intro e s Z H x y v u Q I c d h;let#[i,j,rfl,rfl,q]:=h;let#[t,rfl]:=c;let#[f,rfl]:=d;exact lt_str (A9 I q rfl)
def FP:OpR X (compareOp .Is) (λx y H Q=>y=.non/\Q (.bl (decide (x=.non))) H):=by
 intro e s Z H x y v u Q I c d h;let#[rfl,q]:=h;cases d;refine is_none_gen^A9 I q ?_
 cases x <;>first
  |omega
  |(let#[t,rfl]:=c;rfl)
def J1:OpR X (compareOp .IsNot) (λx y H Q=>y=.non/\Q (.bl (!decide (x=.non))) H):=by
 intro e s Z H x y v u Q I c d h;let#[rfl,q]:=h;cases d;refine isnot_none_gen^A9 I q ?_
 cases x <;>first
  |omega
  |(let#[t,rfl]:=c;rfl)
def OpR.or{f:Ev->Ev->Sem Ev}{r c:R2}(h:OpR X f r)(g:OpR X f c):OpR X f (λx y H Q=>r x y H Q\/c x y H Q):=by
 intro i s Z H x y v u Q I d e q
 rcases q with q|q
 .exact h _ s Z H x y v u Q I d e q
 .exact g _ s Z H x y v u Q I d e q
def Am(b:jX){c:CmpOp}(h:c≠.In:=by cbv)(f:c≠.NotIn:=by cbv):behindInMarks c b=u_:=by
 have d:(c==CmpOp.In)=u_:=by grind
 have e:(c==CmpOp.NotIn)=u_:=by grind
 cases b <;>simp[behindInMarks,d,e]
def ZC{c:CmpOp}{r:R2}(d:OpR X (compareOp c) r)(e:PE X a ta)(f:PE X b tb)(g:behindInMarks c b=u_):PE X (.Compare a [c] [b] pos)^EK r ta tb:=λm s Z H Q I h=>wpAny_Compare1 (ce e f I h λv u i x y H2 j k l q=>d _ i Z H2 x y v u Q j k l q) g
def S9(t:TE):TT:=λZ H Q=>t Z H λx c=>∃k,x=.bl k/\Q k c
def HM{d:CmpOp}{r:R2}(f:OpR X (compareOp d) r)(g:PE X a ta)(i:PE X b tb)(j:behindInMarks d b=u_):PT X (.Compare a [d] [b] pos)^S9^EK r ta tb:=by
 intro F s Z H Q I h
 refine wpAny_isTrue_Compare1 (thn (g _ s Z H _ I h) λv l #[x,m,n,o,p]=>thn (i _ l Z m _ n p) λu q #[y,H2,t,w,A]=>
  thn (f _ q Z H2 x y v u _ t o w A) λc G #[z,B,C,D,k,e,E]=>?_) j
 subst e;cases D;exact kd #[B,C,E]
def WM(r d:R2)(ta tb tc:TE):TE:=λZ H Q=>ta Z H λx e=>tb Z e λy H2=>r x y H2 λz c=>∃k,z=.bl k /\
 (if k=t_ then tc Z c λf g=>d y f g Q else Q (.bl u_) c)
def Ww{g f:CmpOp}{r j:R2}(p:OpR X (compareOp g) r)(i:OpR X (compareOp f) j)(q:PE X a ta)(t:PE X b tb)(w:PE X c tc)
  (A:lastMarks [g,f] [b,c]=u_:=by with_unfolding_all rfl):PT X (.Compare a [g,f] [b,c] B)^S9^WM r j ta tb tc:=by
 intro zG s Z H Q I h
 refine isTrue_chain (thn (q _ s Z H _ I h) λv C #[x,D,E,F,G]=>test_link (thn (t _ C Z D _ E G) λu J #[y,H2,K,l,L]=>
  thn (p _ J Z H2 x y v u _ K F l L) λd M #[z,m,n,N,k,e,o]=>?_)) A
 subst e;cases N;refine kd ?_;cases k with
 |false=>
  let#[k',O,P]:=o;cases O;exact ite_ff #[m,n,P]
 |true=>
  refine ite_tt^test_last^thn (w _ M Z m _ n o) λR S #[T,U,V,W,Y]=>thn (i _ S Z U y T u R _ V l W Y) λd' s5 #[z2,H5,I5,r5,k2,e2,q5]=>?_;subst e2;cases r5;exact kd #[H5,I5,q5]
def cw(K:Frag)(x:V)(H:Hp)(k:Bool):Prop:=
 match x with
 |.non=>k=u_
 |.bl b=>k=b
 |.int i=>k=(i !=0)
 |.str y=>y.length<=sizeLine/\k=((y.length:Int) !=0)
 |.byt y=>y.size<=sizeLine/\k=((y.size:Int) !=0)
 |.ref p=>(∃c,SqL K H p c/\k=!c.isEmpty)\/(∃c,SqT K H p c/\k=!c.isEmpty)\/∃d,H p=P3^.dK d/\k=!d.isEmpty
 |_=>False
def SJ{d:Type}{c:v_ (d×V)}{e:v_ (d×Ev)}(r:KV c e):(!e.isEmpty)=!c.isEmpty:=by
 cases r <;>rfl
def LY{d:v_ V}{c:v_ Ev}(r:Vals d c):(!c.toArray.isEmpty)=!d.isEmpty:=by
 cases r <;>simp
def IX:(sizeLine:Nat)<2 ^ 63:=by cbv
def aq:iC X (λx H Q=>∃k,cw X.K x H k/\Q k H):=by
 intro C s Z H x v Q I j h;let#[k,e,q]:=h;have D:=IX;have E:sizeLine=16777216:=jj;cases x with
 |non=>
  cases j;have c:k=u_:=e;subst c;exact truthy_none #[H,I,q]
 |bl b=>
  cases j;have c:k=b:=e;subst c;exact kd #[H,I,q]
 |int i=>
  let#[t,rfl]:=j;have c:k=(i !=0):=e;subst c;exact PySem.P.truthy_int #[H,I,q]
 |str y=>
  let#[t,rfl]:=j;obtain⟨A,c⟩:y.length<=sizeLine/\k=((y.length:Int) !=0):=e;subst c;exact PySem.P.truthy_str (by lk) #[H,I.tok _,q]
 |byt y=>
  let#[t,rfl]:=j;obtain⟨A,c⟩:y.size<=sizeLine/\k=((y.size:Int) !=0):=e;subst c;exact PySem.W.truthy_bytes (by lk) #[H,I.tok _,q]
 | ref p=>
  cases j;have c:(∃g,SqL X.K H p g/\k=!g.isEmpty)\/(∃g,SqT X.K H p g/\k=!g.isEmpty)\/∃d,H p=P3^.dK d/\k=!d.isEmpty:=e
  rcases c with⟨g,l,c⟩|⟨g,l,c⟩|⟨d,l,c⟩
  .subst c
   let#[o,r,u,z]:=I.list l;have f:=r.length;exact wpAny_truthy_list u.isList (by simp only[f8];lk) #[H,I.tok _,by rw[LY r];exact q]
  .subst c
   let#[o,r,u,z]:=I.tuple l;have f:=r.length;exact truthy_tuple u (by simp only[f8];lk) #[H,I.tok _,by rw[LY r];exact q]
  .subst c
   obtain⟨z,B,n,r,m⟩:d.length<=sizeLine/\(p==sysModules)=u_/\∃n,KV d n/\s.heap.DictOf (BH X.prog X.w) p n:=I.hok p _ l;have f:d.length=n.length:=Paired.length r;exact wpAny_truthy_dict B m (by lk) #[H,I.tok _,by rw[SJ r];exact q]
 |_=>exact(show False from e).elim
def Wv(e:PE X a ta)(f:∀c,isTrue a X.env c=(do let v ←c;standAt a.pos;holding [v]^truthy v)):
  PT X a (λZ H Q=>ta Z H λx d=>∃k,cw X.K x d k/\Q k d):=λn s Z H Q I h=>isTrue_plain (thn (e _ s Z H _ I h) λv g #[x,i,j,l,m]=>aq _ g Z i x v Q j l m)^f _
def Rx:OpR X (binaryOp .Add) (λx y H Q=>∃i j,x=.str i/\y=.str j/\i.length+j.length<=sizeLine/\Q (.str (i++j)) H):=by
 intro g s Z H x y v u Q I c d h;let#[i,j,rfl,rfl,e,q]:=h;let#[t,rfl]:=c;let#[f,rfl]:=d;exact add_str (λf k=>#[.str _,H,I.tok _,#[_,rfl],q]) e
def vals1{x:V}{c:v_ Ev}(r:Vals [x] c):∃u,c=[u]/\RelV x u:=by
 cases r with
 |cons e d=>cases d;grind
def vals2{x y:V}{c:v_ Ev}(r:Vals [x,y] c):∃u d,c=[u,d]/\RelV x u/\RelV y d:=by
 cases r with
 |cons e f=>
  cases f with
  |cons g h=>cases h;exact#[_,_,rfl,e,g]
def YE:DR X (.builtin "abs") (λc H Q=>∃i,c=[.int i]/\Q (.int (if i<0 then -i else i)) H):=by
 intro d s Z H c e Q I r h;let#[i,rfl,q]:=h;let#[u,rfl,t,rfl]:=vals1 r;exact call_abs_int λu f=>#[.int _,H,I.tok _,#[_,rfl],q]
def Iq(e:X.calm=t_):DR X (.builtin "min") (λd H Q=>∃i j,d=[.int i,.int j]/\Q (.int (if j<i then j else i)) H):=by
 intro f s Z H d g Q I r h;let#[i,j,rfl,q]:=h;let#[u,l,rfl,#[t,rfl],#[m,rfl]]:=vals2 r;refine min_two_ints (I.ok.hd e) λn o k=>#[_,H,I.kept k,?_,q]
 by_cases c:j<i
 .rw[if_pos c,if_pos c];exact#[_,rfl]
 .rw[if_neg c,if_neg c];exact#[_,rfl]
def c9(K:Frag)(x:V)(H:Hp)(n:Nat):Prop:=
 match x with
 |.str y=>y.length<=sizeLine/\n=y.length
 |.byt y=>y.size<=sizeLine/\n=y.size
 |.ref p=>(∃c,SqL K H p c/\n=c.length)\/∃c,SqT K H p c/\n=c.length
 |_=>False
def BL:DR X (.builtin "len") (λc H Q=>∃x n,c=[x]/\c9 X.K x H n/\Q (.int n) H):=by
 intro v s Z H c w Q I r h;let#[x,n,rfl,e,q]:=h;let#[u,rfl,g]:=vals1 r;have z:=IX;have A:sizeLine=16777216:=jj;cases x with
 |str y=>
  let#[t,rfl]:=g;obtain⟨m,f⟩:y.length<=sizeLine/\n=y.length:=e;subst f;exact len_str (by lk) #[.int _,H,I.tok _,#[_,rfl],q]
 |byt y=>
  let#[t,rfl]:=g;obtain⟨m,f⟩:y.size<=sizeLine/\n=y.size:=e;subst f;exact PySem.W.len_bytes (by lk) #[.int _,H,I.tok _,#[_,rfl],q]
 | ref p=>
  cases g;have f:(∃c,SqL X.K H p c/\n=c.length)\/∃c,SqT X.K H p c/\n=c.length:=e
  rcases f with⟨c,i,f⟩|⟨c,i,f⟩
  .subst f
   let#[j,k,l,o]:=I.list i;have d:=k.length;exact Calls.call_len_list l.isList (by simp only[f8];lk) #[.int c.length,H,I.tok _,#[_,by simp only[f8];rw[d]],q]
  .subst f
   let#[j,k,l,o]:=I.tuple i;have d:=k.length;exact len_tuple l (by simp only[f8];lk) #[.int c.length,H,I.tok _,#[_,by simp only[f8];rw[d]],q]
 |_=>exact(show False from e).elim
end
structure ObjM (h:jI) (x dx C:Db) (mA:Str->Option Ev):Prop where
 obj:h.get? x=P3 (PySem.W.instObj C dx)
 ns:h.Ns1 dx mA
 ne:dx≠x
def NK{h:jI}{d:Db}{f:Str->w_ Ev}(n:h.Ns1 d f):∃g,h.get? d=P3 g/\∀b,PySem.W.lookIn b g=P3^f b:=by
 let#[o,i,q,j,k,l,_,m]:=n;refine#[o,j,λb=>?_];have e:=m b;unfold nsFind findBy at e;unfold PySem.W.lookIn;rw[k]
 dsimp only
 split
 .simp_all
 .have a:i.toList.any (·.refKey)=u_:=by
   rw[List.any_eq_false];intro y p;let#[z,t,c]:=l y^Array.mem_toList_iff.mp p;simp[DictEntry.refKey,c]
  grind
def ObjM.look{h:jI}{x c C:Db}{d:Str->w_ Ev}(I:ObjM h x c C d):∃b,PySem.W.InstAt h x (PySem.W.instObj C c) C^P3 b/\∀a,PySem.W.lookIn a b=P3^d a:=
 let #[b,e,f]:=NK I.ns
 #[b,#[I.obj,rfl,rfl,e],f]
def E8(f:Str)(v:V):v_ (Str×V)->v_ (Str×V)
 |[]=>[(f,v)]
 |(g,x)::r=>if g=f then(g,v)::r else(g,x)::E8 f v r
theorem JS(f g:Str)(v:V):∀c:v_ (Str×V),(E8 f v c).lookup g=if g=f then P3 v else c.lookup g
 |[]=>by
  show lq g [(f,v)]=_
  by_cases h:g=f
  .simp_all
  simp_all
 | (k,x)::r=>by
  have d:=JS f g v r;rw[show E8 f v ((k,x)::r)=(if k=f then(k,v)::r else(k,x)::E8 f v r)from rfl]
  by_cases a:k=f
  .rw[if_pos a]
   by_cases h:g=k
   .simp_all
   .have b:(g==k)=u_:=beq_eq_false_iff_ne.mpr h
    simp only[lq,b,if_neg λe:g=f=>h^e.trans a.symm]
  .rw[if_neg a]
   by_cases h:g=k
   .simp_all
   .have b:(g==k)=u_:=beq_eq_false_iff_ne.mpr h
    simp only[lq,b];exact d
theorem Ig(f:Str)(v:V):∀a:v_ (Str×V),f∈(E8 f v a).map (·.1)/\∀g,g∈a.map (·.1)->g∈(E8 f v a).map (·.1)
 |[]=>#[by simp[E8],λg h=>by simp at h]
 |(k,x)::r=>by
  let#[b,c]:=Ig f v r;rw[show E8 f v _=(if k=f then(k,v)::r else(k,x)::E8 f v r)from rfl]
  grind
theorem JT(f:Str)(v:V):∀a:v_ (Str×V),(E8 f v a).length<=a.length+1
 |[]=>by simp[E8]
 |(k,x)::r=>by
  have b:=JT f v r;rw[show E8 f v _=(if k=f then(k,v)::r else(k,x)::E8 f v r)from rfl]
  grind
def RelO.some_of{v:V}{o:w_ Ev}(r:RelO (P3 v) o):∃u,o=P3 u/\RelV v u:=by
 cases o with
 |none=>exact(r).elim
 |some u=>exact#[u,rfl,r]
def VS{v:V}{u:Ev}(r:RelV v u):PySem.W.handedIn u=t_:=by
 cases v with
 |non=>cases(r);rfl
 |bl b=>cases(r);rfl
 |int i=>let#[t,e]:=(r);cases e;rfl
 |str x=>let#[t,e]:=(r);cases e;rfl
 |byt b=>let#[t,e]:=(r);cases e;rfl
 |flt b=>let#[t,e]:=(r);cases e;rfl
 |ref a=>cases(r);rfl
 |ty n=>cases(r);rfl
section
variable {P:Program}{w:World}{H:Hp}{h:Heap}{a C dx:Addr}{fs:v_ (Str×V)}
def ZV(c:HOk P w H h)(e:H a=P3^.ins C dx fs):∃b,ObjM h a dx C b/\(∀f,RelO (fs.lookup f)^b f)/\PySem.Within b (fs.map (·.1))/\fs.length<=1000/\H dx=P3^.own a:=by
 let#[d,z,g,i,b,n,r,q]:=(c a _ e);exact#[b,#[i,n,g],r,q,z,d]
end
structure Cls (K:Frag) (C:Db):Prop where
 pg:PySem.W.plainGet K C Str.empty=t_
 hd:PySem.W.hasDictIn K C=t_
 po:PySem.W.plainOver K C=t_
 sa:PySem.W.findIn K (.ref C) "__setattr__"=P3^P3^.builtin "object.__setattr__"
def Cls.get{K:Frag}{C:Db}(c:Cls K C)(f:Str):PySem.W.plainGet K C f=t_:=c.pg
def G3(K:Frag)(C:Db)(f:Str):Prop:=PySem.W.findIn K (.ref C) f=P3 s_
structure jB (K:Frag) (C:Db) (f:Str) (v:V) (u:Ev):Prop where
 at_:PySem.W.findIn K (.ref C) f=P3 (P3 u)
 rel:RelV v u
 get:PySem.W.specialIn K u "__get__"=P3 s_
 cp:PySem.W.copiedNames.contains f=u_
structure i8 (K:Frag) (C:Db) (m:Str) (f:Db):Prop where
 at_:PySem.W.findIn K (.ref C) m=P3 (P3^.ref f)
 fn:PySem.W.isFn K^.ref f=t_
 kp:keepIn K^.ref f=t_
section
variable {s:Shared}{f:Str}{A:Around}{E:Value->Shared->Prop}
def Zr{a:jM}{w:jT}{b:Env}{e:jX}{f:Str}{pos:Pos}{s:Go}{Q:Ev->Go->Prop}(d:attributeBase e f b^eval e b=eval e b)
  (h:wpAny (model a w) A (eval e b) (λo c=>wpAny (model a w) A (getAttr o f t_) Q E c) E s):wpAny (model a w) A (eval (.Attribute e f pos) b) Q E s:=
 Attribute_any_ h (by rw[arm_eval_Attribute,d])
end
section
variable {X:Cx}{zG:v_ (Addr×Obj)}{Z:St}{H:Hp}{s:Shared}{A:Around}{E:Value->Shared->Prop}{Q:Value->Shared->Prop}{c:Value}{b:Bool}
inductive G2 (K:Frag) (H:Hp):V->Ev->Prop where
 |non:G2 K H .non^.type "NoneType"
 |bl (x:Bool):G2 K H (.bl x)^.type "bool"
 |int (i:Int):G2 K H (.int i)^.type "int"
 |str (x:Str):G2 K H (.str x)^.type "str"
 |flt (x:UInt64):G2 K H (.flt x)^.type "float"
 |lst {a:Db}{xs:List V} (e:H a=P3^.lst xs):G2 K H (.ref a)^.type "list"
 |frz {a:Db}{o:Obj}{xs:List V} (e:H a=P3^.frz o^.lst xs):G2 K H (.ref a)^.type "list"
 |tup {a:Db}{xs:List V} (e:H a=P3^.tup xs):G2 K H (.ref a)^.type "tuple"
 |dF {a:Db}{o:Obj}{kvs:List (Key×V)} (e:H a=P3^.frz o^.dK kvs):G2 K H (.ref a)^.type "dict"
 |dK {a:Db}{kvs:List (Key×V)} (e:H a=P3^.dK kvs):G2 K H (.ref a)^.type "dict"
 |dT {a:Db}{kvs:List (List Key×V)} (e:H a=P3^.dT kvs):G2 K H (.ref a)^.type "dict"
 | ins {a C dx:Db}{fs:List (Str×V)} (e:H a=P3^.ins C dx fs) (cl:Cls K C) (ha:PySem.W.findIn K (.ref C) "__class__"=P3^P3^.builtin "object.__class__")
   (hn:PySem.W.specialIn K (.builtin "object.__class__") "__get__"=P3^P3^.builtin "getset_descriptor.__get__") (htk:PySem.W.takesIn K^.builtin "object.__class__"=P3 t_)
   (hm:PySem.W.mroIn K C^.type "object"=P3 t_):G2 K H (.ref a)^.ref C
def VO{x:V}{u t:Ev}(I:Inv X zG Z H s)(f:RelV x u)(ty:G2 X.K H x t)(e:PySem.W.kitOne X.K t c=P3 b)(h:∀F,Q (.bool b) {s with toks:=F}):
  wpAny (model X.prog X.w) A (call (.builtin "isinstance") [u,c]) Q E s:=by
 cases ty with
 |non=>cases(show u=jd from f);exact PySem.W.kia_one PySem.W.kitx_none I.kIn lT e (λz=>nomatch z) h
 |bl y=>cases(show u=pN y from f);exact PySem.W.kia_one PySem.W.kitx_bool I.kIn lT e (λz=>nomatch z) h
 |int i=>let#[t,q]:=(show ∃t,u=Value.int i t from f);cases q;exact PySem.W.kia_one PySem.W.kitx_int I.kIn lT e (λz=>nomatch z) h
 |str y=>let#[t,q]:=(show ∃t,u=Value.str y t from f);cases q;exact PySem.W.kia_one PySem.W.kitx_str I.kIn lT e (λz=>nomatch z) h
 |flt y=>let#[t,q]:=(show ∃t,u=Value.float y t from f);cases q;exact PySem.W.kia_one PySem.W.kitx_float I.kIn lT e (λz=>nomatch z) h
 |@lst a l d=>
  cases(show u=jE a from f);let#[_,_,n,_,g]:=(show ObjOk X.prog X.w H s.heap a^.lst l from I.hok a _ d);exact PySem.W.kia_one PySem.W.kitx_list I.kIn #[_,g,rfl] e (λz=>nomatch z) h
 |@frz a m l d=>
  cases(show u=jE a from f);let#[_,_,_,n,_,g]:=(show ObjOk X.prog X.w H s.heap a^.frz m^.lst l from I.hok a _ d);exact PySem.W.kia_one PySem.W.kitx_list I.kIn #[_,g,rfl] e (λz=>nomatch z) h
 |@tup a l d=>
  cases(show u=jE a from f);let#[_,_,_,p]:=(show ObjOk X.prog X.w H s.heap a^.tup l from I.hok a _ d);let#[o,g,k,_]:=p;exact PySem.W.kia_one PySem.W.kitx_tuple I.kIn #[o,g,k] e (λz=>nomatch z) h
 |@dF a m j d=>
  cases(show u=jE a from f);let#[_,_,_,G,_,p]:=(show ObjOk X.prog X.w H s.heap a^.frz m^.dK j from I.hok a _ d);let#[o,v,B,g,k,_]:=p;exact PySem.W.kia_one PySem.W.kitx_dict I.kIn #[o,g,k.1] e (λz=>nomatch z) h
 |@dK a j d=>
  cases(show u=jE a from f);let#[_,_,G,_,p]:=(show ObjOk X.prog X.w H s.heap a^.dK j from I.hok a _ d);let#[o,v,B,g,k,_]:=p;exact PySem.W.kia_one PySem.W.kitx_dict I.kIn #[o,g,k.1] e (λz=>nomatch z) h
 |@dT a j d=>
  cases(show u=jE a from f);let#[_,_,l,_,o,v,B,g,k,_]:=(show ObjOk X.prog X.w H s.heap a^.dT j from I.hok a _ d);exact PySem.W.kia_one PySem.W.kitx_dict I.kIn #[o,g,k.1] e (λz=>nomatch z) h
 |@ins a C P R d D L M r N=>
  cases(show u=jE a from f);let#[S,O,_]:=ZV I.hok d;let#[T,J,_]:=O.look;exact PySem.W.kia_one (PySem.W.kitx_own (D.get _) D.hd L M r N) I.kIn J e (λz=>nomatch z) h
end
structure Room (k:Nat) (A:jY):Prop where
 hd:A.handled=s_
 dp:A.depth+3*k+5<recursionLimit
 un:A.units+16*k+200<cLine
 gd:A.guards=P3 []
def Room.mono{j k:Nat}{A:jY}(r:Room k A)(h:j<=k):Room j A:=#[r.hd,by have:=r.dp;lk,by have:=r.un;lk,by first|exact r.gd|grind|grind]
def Room.deeper{k:Nat}{A:jY}(r:Room (k+1) A)(a:Env):Room k^A.deeper a:=
 #[r.hd,by have:=r.dp;show A.depth+1+3*k+5<_;lk,by have:=r.un;show A.units+3+16*k+200<_;lk,by first|exact r.gd|omega|grind]
def Room.in1{k:Nat}{A:jY}(r:Room (k+1) A):Room k A.in1:=
 #[r.hd,by have:=r.dp;grind,by have:=r.un;grind,by first|exact r.gd|omega|grind]
def SA{A:jY}{C:Db}{a:v_ Ev}{b:v_ (Str×Ev)}:(A.under^.builtin "type.__call__" #[.ref C::a,b]).depth=A.depth+1:=by
 first|rfl|omega
def R_{A:jY}{C:Db}{a:v_ Ev}{b:v_ (Str×Ev)}:(A.under^.builtin "type.__call__" #[.ref C::a,b]).units=A.units+1:=by
 first|rfl|omega
def Room.make{k:Nat}{A:jY}(r:Room (k+1) A)(C:Db)(a:v_ Ev)(b:v_ (Str×Ev)):Room k^A.under^.builtin "type.__call__" #[.ref C::a,b]:=
 #[r.hd,by have:=r.dp;rw[SA];lk,by have:=r.un;rw[R_];lk,by first|exact r.gd|omega|grind]
def Room.depth{k:Nat}{A:jY}(r:Room k A):A.depth<recursionLimit:=by have:=r.dp;lk
def Room.units{k:Nat}{A:jY}(r:Room k A):A.units+64<cLine:=by have:=r.un;lk
def Room.units0{k:Nat}{A:jY}(r:Room k A):A.units<cLine:=by have:=r.un;lk
def Yr:TA:=λ_ H Q=>Q [] H
def S_(a:TE)(b:TA):TA:=λZ H Q=>a Z H λx c=>b Z c λd H2=>Q (x::d) H2
section
variable {X:Cx}{e:Expr}{es:v_ Expr}{te:TE}{t:TA}{pos:Pos}
def CJ:PA X [] Yr:=λ_ _ _ _ H Q I h=>k8 #[[],H,I,.nil,h]
def BZ(a:PE X e te)(b:PA X es t)(c:starEach (e::es) X.env=(u_,eval e X.env)::starEach es X.env:=by rfl):PA X (e::es)^S_ te t:=by
 intro d o s Z H Q I h;rw[c];exact kU^thn (a _ s Z H _ I h) λu f #[x,g,i,j,k]=>thn (b _ _ f Z g _ i k) λp q #[r,H2,l,m,n]=>#[_,H2,l,.cons j m,n]
def gY(t:TA):TE:=λZ H Q=>t Z H λa b=>a.length<=sizeLine/\∀p,b p=s_->Q (.ref p)^A4 b p^.tup a
def gi(t:TA):TE:=λZ H Q=>t Z H λa b=>a.length<=sizeLine/\∀p,b p=s_->Q (.ref p)^A4 b p^.lst a
def bX{x1}(h:PA X es t):PE X (.Tuple es x1 pos)^gY t:=by
 intro f s Z H Q I g;refine wpAny_Tuple_spliced^thn (h pos f s Z H _ I g) λi a #[j,c,d,r,z,q]=>#[by rw[←r.length];exact z,?_];have k:c a.heap.objs.size=s_:=d.hok.fresh^Op _;refine#[.ref a.heap.objs.size,A4 c a.heap.objs.size^.tup j,d.laid (t':=a.toks) (λb u e=>FM _ e) (Op _) ?_,rfl,q _ k];exact#[z,i,r,IsTupN.new _ _]
def Rv(h:PA X es t):PE X (.List es pos)^gi t:=by
 intro f s Z H Q I g;refine wpAny_List_spliced^thn (h pos f s Z H _ I g) λi a #[j,c,d,r,z,q]=>#[by rw[←r.length];exact z,?_];have k:c a.heap.objs.size=s_:=d.hok.fresh^Op _;refine#[.ref a.heap.objs.size,A4 c a.heap.objs.size^.lst j,d.laid (t':=a.toks) (λb u e=>FM _ e) (Op _) ?_,rfl,q _ k];exact#[z,i,0,r,XV _ rfl]
end
abbrev Sp:=v_ V->Hp->VK->XK->Prop
abbrev Vy:=v_ Env->Hp->Go->XK->Ev->Go->Prop
structure Env0 (P:jM) (w:jT) (K:Frag) (mg:Str->Option Ev) (base:jI) (A:jY) (outer:List Env) (s:Go) (H:Hp):Prop where
 frames:A.frames=P3 outer
 mod:Mod K mg base
 bs:∀b o,base.get? b=P3 o->s.heap.get? b=P3 o/\H b=s_
 bsz:base.objs.size<=s.heap.objs.size
 funs:s.heap.FunFrames base outer
 frf:∀b∈NS outer,H b=s_
 hok:HOk P w H s.heap
 bare:m7 s.gens
def CE(a:v_ Env)(P:jM)(w:jT)(H:Hp)(s:Go)(Q:VK)(u:Ev)(b:Go):Prop:=
 ∃v c,b.os=s.os/\m7 b.gens/\Un (NS a) [] H c s.heap b.heap/\HOk P w c b.heap/\RelV v u/\Q v c
def CR(c:Vy)(a:v_ Env)(P:jM)(w:jT)(H:Hp)(s:Go)(Q:VK)(E:XK)(r:Result)(b:Go):Prop:=
 match r with
 |.ok (.ret u)=>CE a P w H s Q u b
 |.ok _=>False
 |.error e=>c a H s E e b
structure CU (P:jM) (w:jT) (K:Frag) (mg:Str->Option Ev) (base:jI) (CX:Vy) (k:Nat) (f:Db) (fd:jp) (ps:List Str) (sp:Sp):Prop where
 len:∀vs H Q E,sp vs H Q E->vs.length=ps.length
 run:∀(A:jY) (outer:List Env) (s:Go) (H:Hp) (args:Args) (us:List Ev) (vs:List V) (Q:VK) (E:XK),Room k A->Env0 P w K mg base A outer s H->oj s fd args^ps.zip us->Vals vs us->sp vs H Q E->
  codeAny (model P w) A (.call (.ref f) args) (CR CX outer P w H s Q E) s
def Env0.make{P:jM}{w:jT}{K:Frag}{c:Str->w_ Ev}{b:jI}{A:jY}{a:v_ Env}{s:Go}{H:Hp}(e:Env0 P w K c b A a s H)(C:Db)(d:v_ Ev)(f:v_ (Str×Ev)):
  Env0 P w K c b (A.under^.builtin "type.__call__" #[.ref C::d,f]) a s H:=#[by first|exact e.frames|grind,e.mod,e.bs,e.bsz,e.funs,e.frf,e.hok,e.bare]
def Env0.in1{P:jM}{w:jT}{K:Frag}{c:Str->w_ Ev}{b:jI}{A:jY}{a:v_ Env}{s:Go}{H:Hp}(e:Env0 P w K c b A a s H):
  Env0 P w K c b A.in1 a s H:=#[e.frames,e.mod,e.bs,e.bsz,e.funs,e.frf,e.hok,e.bare]
section
variable {X:Cx}{zG:v_ (Addr×Obj)}{Z:St}{H:Hp}{s s':Shared}
def Inv.env0(I:Inv X zG Z H s):Env0 X.prog X.w X.K X.mg X.base X.A X.stack s H:=
 #[I.ok.frames,I.ok.mod,I.bs,jJ I.ok.bsz I.sz,I.stack,I.stkFree,I.hok,I.bare]
def Inv.after{Q:VK}{u:Ev}(I:Inv X zG Z H s)(h:CE X.stack X.prog X.w H s Q u s'):EP X zG Z Q u s':=by
 let#[v,f,i,a,j,c,r,q]:=h;let#[k,g,d,t,e]:=s';obtain rfl:e=s.os:=i;exact#[v,f,I.call j c a λb z=>absurd z^by simp,r,q]
end
def WN(b:Sp)(a:v_ V)(E:XK)(t:TA):TE:=λZ H Q=>t Z H λc d=>b (c++a) d Q E
def Binds(K:Frag)(fd:jp)(b:v_ Str)(c:v_ Ev):Prop:=
 ∀(s:Go) (a:v_ Ev),K.In s.heap->(a++c).length=b.length->oj s fd #[a,[]]^b.zip (a++c)
def Binds.all{K:Frag}{fd:jp}{b:v_ Str}(h:∀a:v_ Ev,a.length=b.length->bindArgs fd #[a,[]]=pure^b.zip a):Binds K fd b []:=λs a _ c=>by
 rw[jZ]at c ⊢;exact .of_eq^h a c
def JA(b:Vy)(X:Cx)(E:XK):Prop:=∀(c:v_ (Db×Obj)) (Z:St) (H:Hp) (s:Go) (e:Ev) (a:Go),Inv X c Z H s->b X.stack H s E e a->X.xe e a
section
variable {X:Cx}{CX:Vy}{k:Nat}{f C:Addr}{fd:FuncData}{ps:v_ Str}{sp:Sp}{dvs:v_ V}{ds:v_ Value}{E:XK}{x:Str}{p pos:Pos}{e:Expr}{es:v_ Expr}{t:TA}
def bG{d:v_ (Db×Obj)}{Z:St}{H:Hp}{s:Go}{Q:VK}{a:v_ Ev}{c:v_ V}(F:CU X.prog X.w X.K X.mg X.base CX k f fd ps sp)(i:Room k X.A)(j:Binds X.K fd ps ds)(hd:Vals dvs ds)(hx:JA CX X E)
  (I:Inv X d Z H s) (r:Vals c a) (h:sp (c++dvs) H Q E):wpAny (model X.prog X.w) X.A (call (.ref f) a) (EP X d Z Q) X.xe s:=by
 have g:Vals (c++dvs) (a++ds):=r.append hd;have l:(a++ds).length=ps.length:=by rw[←g.length];exact F.len _ _ _ _ h
 refine lU^mQ (F.run X.A X.stack s H #[a,[]] (a++ds) (c++dvs) Q E i I.env0 (j s a I.kIn l) g h) λr m b=>?_;cases r with
 |error e=>exact hx d Z H s e m I b
 |ok n=>
  cases n with
  |ret u=>exact I.after b
  |next=>exact jt b
  |brk=>exact jt b
  |cont=>exact jt b
def Td(F:CU X.prog X.w X.K X.mg X.base CX k f fd ps sp)(d:Room k X.A)(g:Gl X x)(i:X.mg x=P3^.ref f)(j:keepIn X.K^.ref f=t_)(l:Binds X.K fd ps ds)(hd:Vals dvs ds)(hx:JA CX X E)
  (m:PA X (e::es) t) (a:(x==("__debug__":Str))=u_:=by cbv) (n:starEach (e::es) X.env=(u_,eval e X.env)::starEach es X.env:=by rfl) (b:(backTo pos^starEach es X.env).any (·.1)=u_:=by rfl):
  PE X (.Call (.Name x p) (e::es) [] pos) (WN sp dvs E t):=λo s Z H Q I h=>jq^D7 I g i (PySem.W.callWith_K I.ok.mod.kin j (thn (m _ _ s Z H _ I h) λu v #[y,z,c,r,q]=>#[c.kIn,bG F d l hd hx c r q]) n b) a
structure Mk (K:Frag) (C f:Db):Prop where
 makes:PySem.W.makesIn K C=t_
 init:PySem.W.findIn K (.ref C) "__init__"=P3 (P3^.ref f)
 fn:PySem.W.isFn K^.ref f=t_
 kp:keepIn K^.ref C=t_
end
section
variable {fd:FuncData}{ps ks:v_ Str}
structure iG (K:Frag) (fd:jp) (ps ks:List Str) (g:List Ev->List Ev->List Ev) (gV:List V->List V->List V):Prop where
 to:∀(s:Go) (us ws:List Ev),K.In s.heap->(g us ws).length=ps.length->oj s fd #[us,ks.zip ws] (ps.zip^g us ws)
 rel:∀{vs:List V}{us:List Ev}{zs:List V}{ws:List Ev},Vals vs us->Vals zs ws->Vals (gV vs zs)^g us ws
end
structure Ab (N P:List Str) (sc:lR):Prop where
 kind:sc.kind=.function
 co:sc.isCoroutine=u_
 gen:sc.isGenerator=u_
 nd:N.Nodup
 pre:N.take P.length=P
 par:∀x∈P,sc.names.lookup x=P3 .local\/sc.names.lookup x=P3 .cell
 nofree:∀y∈sc.names,y.2≠.free
theorem NZ{a:Str->w_ lg}{x:Str}:∀{binds:v_ (Str×Ev)}{m:Str->w_ Ev},(∀v,(x,v)∉binds)->bindL a binds m x=m x
 |[],_,_=>rfl
 |(n,v)::r,m,h=>by
  unfold bindL;rw[NZ λw b=>h w^Sc _ b]
  split
  .grind
  .rfl
theorem Nb{a:Str->w_ lg}{x:Str}:∀{binds:v_ (Str×Ev)}{m:Str->w_ Ev},(∀v,(x,v)∉binds)->bindC a binds m x=m x
 |[],_,_=>rfl
 |(n,v)::r,m,h=>by
  unfold bindC;rw[Nb λw b=>h w^Sc _ b]
  split
  .rfl
  grind
theorem Na{a:Str->w_ lg}{x:Str}{v:Ev}:∀{P:v_ Str}{b:v_ Ev}{i:Nat}{m:Str->w_ Ev},P.Nodup->P[i]?=P3 x->b[i]?=P3 v->a x=P3 .local->
  bindL a (P.zip b) m x=P3 v
 |[],_,_,_,_,h,_,_=>by simp at h
 |_::_,[],_,_,_,_,h,_=>by simp at h
 |p::P,w::b,0,m,c,d,e,f=>by
  simp at d e;subst d;subst e
  show bindL a ((p,w)::P.zip b) m p=_;unfold bindL;rw[NZ λv g=>(ja.mp c).1 (nO g).1,if_pos f];simp
 |p::P,w::b,i+1,m,c,d,e,f=>by
  unfold bindL;exact Na (i:=i) (ja.mp c).2 (by simp_all) (by simp_all) f
theorem Nc{a:Str->w_ lg}{x:Str}{v:Ev}:∀{P:v_ Str}{b:v_ Ev}{i:Nat}{m:Str->w_ Ev},P.Nodup->P[i]?=P3 x->b[i]?=P3 v->a x≠P3 .local->
  bindC a (P.zip b) m x=P3 v
 |[],_,_,_,_,h,_,_=>by simp at h
 |_::_,[],_,_,_,_,h,_=>by simp at h
 |p::P,w::b,0,m,c,d,e,f=>by
  simp at d e;subst d;subst e
  show bindC a ((p,w)::P.zip b) m p=_;unfold bindC;rw[Nb λv g=>(ja.mp c).1 (nO g).1,if_neg f];simp
 |p::P,w::b,i+1,m,c,d,e,f=>by
  unfold bindC;exact Nc (i:=i) (ja.mp c).2 (by simp_all) (by simp_all) f
def start(N:v_ Str)(a:v_ V):St:=a.map P3++T0 (N.length - a.length) s_
def EG(i:Vy)(P:jM)(w:jT)(K:Frag)(mg:Str->w_ Ev)(base:jI)(N:v_ Str)(c:Str)(a:lR)(f:Db)(h:Ev)(A:jY)(outer:v_ Env)(s:Go)(H:Hp)(E:XK):Cx where
 prog:=P
 w:=w
 K:=K
 mg:=mg
 base:=base
 A:=A.deeper (envOfC c a s.heap.objs.size f h)
 N:=N
 s₀:=s
 H₀:=H
 env:=envOfC c a s.heap.objs.size f h
 outer:=outer
 stack:=envOfC c a s.heap.objs.size f h::outer
 ex:=[]
 calm:=t_
 fn:=λ_=>t_
 pn:=[]
 xe:=λe k=>wpAny (model P w) (A.deeper^envOfC c a s.heap.objs.size f h) (leaving (envOfC c a s.heap.objs.size f h) e) (λ_ g=>i outer H s E e g) (λl g=>i outer H s E l g) k
def Qk{a:lR}{n:Nat}{x:Str}(h:a.names.lookup x=P3 .cell):∃c,(cellsFrom n a.names []).lookup x=P3 c:=by
 have q:=PySem.W.cellsFrom_some a.names n []^.inl h;exact Option.isSome_iff_exists.mp q
def NR{Q:Vy}{P:jM}{w:jT}{K:Frag}{M:Str->w_ Ev}{m:jI}{N t:v_ Str}{j:Str}{d:lR}{f:Db}{I:Ev}{A:jY}{g:v_ Env}{s R:Go}{H:Hp}{E:XK}{O:v_ Ev}{B:v_ V}
  (S:Ab N t d) (hd:A.handled=s_) (o:Env0 P w K M m A g s H) (Z:B.length=t.length) (r:Vals B O)
  (x:InCallC s s.heap.objs.size (bindL (envOfC j d s.heap.objs.size f I).kindOf (t.zip O) λ_=>s_) (cellsFrom (s.heap.objs.size+1) d.names []) (bindC (envOfC j d s.heap.objs.size f I).kindOf (t.zip O) λ_=>s_) R):
  Inv (EG Q P w K M m N j d f I A g s H E) [] (start N B) H R:=by
 have W:t.length<=N.length:=by have:=congrArg n8 S.pre;rw[mR]at this;lk
 let#[J,tk,rfl,T]:=x.done;have C:∀b:Db,b∉(EG Q P w K M m N j d f I A g s H E).ex:=λb z=>absurd (show b∈([]:v_ Db)from z)^by simp
 exists#[o.mod,S.kind,rfl,rfl,Op _,λy z c J l=>?_,λy D=>?_,λy c _ h=>?_,λ_=>hd,qD o.frames,.inr #[rfl,rfl],λb z=>absurd z^C b,o.bs,o.bsz,λb _ _=>C b,λb z=>absurd z^C b,o.funs,o.frf],
  rfl,o.bare,Un.kept T,#[_,x.toInCall.ns,λi y v J l h3=>?_],λy c h=>#[_,x.cell y c h],o.hok.fresh^Op _,λy c h=>?_,λp F=>absurd (show p∈([]:v_ (Db×Obj))from F)^by simp,o.hok.kept T
 .exact name_of_addr x.apart (PySem.mem_of_lookup J)^PySem.mem_of_lookup l
 .have D:d.names.lookup y=P3 .cell\/d.names.lookup y=P3 .free:=D
  rcases D with D|D
  .exact Qk D
  .exact absurd rfl (S.nofree _^PySem.mem_of_lookup D)
 .exact pQ^x.above y c^PySem.mem_of_lookup h
 .have L:i<B.length:=by
   unfold start at l
   by_cases L:i<B.length
   .exact L
   .rw[kH^by simpa using L]at l
    rw[nh]at l
    split at l <;>cases l
  have X:B[i]?=P3 v:=by
   unfold start at l;rw[mH (by simpa using L),jG]at l;cases e:B[i]? with
   |none=>rw[e]at l;cases l
   |some a=>rw[e]at l;cases l;rfl
  let#[u,U,Y]:=r.get X
  have F:t[i]?=P3 y:=by
   rw[←S.pre,List.getElem?_take_of_lt^by lk];exact J
  have G:t.Nodup:=by rw[←S.pre];exact S.nd.sublist^pD _ _
  exists u,Y
  rcases S.par y^jo F with k|k
  .exact .inl #[k,Na G F U k]
  .let#[c,e]:=Qk (n:=s.heap.objs.size+1) k
   refine .inr #[.inl k,c,e,?_];have q:=x.cell y c e;rw[Nc G F U^by show d.names.lookup y≠_;rw[k];decide]at q;exact q
 .exact o.hok.fresh^pQ^x.above y c^PySem.mem_of_lookup h
 .unfold start
  show _=N.length;rw[jD,No,p7];lk
def aI{L:Vy}{P:jM}{w:jT}{K:Frag}{M:Str->w_ Ev}{h:jI}{k:Nat}{f:Db}{name d:Str}{i:Arguments}{j:v_ jP}{a:lR}{dV kV C pm g ct oc:Ev}{an od:w_ Db}
  {T:Array^w_ Ev}{N O:v_ Str}{U:Sp} (lk:K.lookup f=P3 #[oc,od,.func^fnOf name d i j a dV kV C pm an g ct,T]) (X:codeIn K g d=t_) (S:Ab N O a)
  (len:∀l H Q E,U l H Q E->l.length=O.length)
  (p:∀(A:jY) (c:v_ Env) (s:Go) (H:Hp) (l:v_ V) (Q:VK) (E:XK),Room k^A.deeper^envOfC d a s.heap.objs.size f g->U l H Q E->
   ∃t,PSs (EG L P w K M h N d a f g A c s H E) j t/\t {nx:=λ_ m=>Q .non m,rt:=Q} (start N l) H):
  CU P w K M h L (k+1) f (fnOf name d i j a dV kV C pm an g ct) O U:=by
 refine#[len,λA c s H a0 us l Q E Y D hb r F=>?_];have hl:=len _ _ _ _ F;have KX:K.In s.heap:=D.mod.kin.keeps λb o e=>(D.bs b o e).1;have Z:s.heap.NoLimit:=D.mod.nolimit.keeps λb o e=>(D.bs b o e).1
 have z:∀y∈O.zip us,a.names.lookup y.1=P3 .local\/(a.names.lookup y.1=P3 .cell/\((cellsFrom (s.heap.objs.size+1) a.names []).lookup y.1).isSome=t_):=fun#[n,v] hy=>by
  rcases S.par n (nO hy).1 with q|q
  .exact .inl q
  .exact .inr #[q,PySem.W.cellsFrom_some _ _ _^.inl q]
 refine codeAny_call_function Y.depth (KX _ _ lk) rfl S.co S.gen rfl (PySem.W.codeRec_of KX X) (hb _ _ _ _ ?_);refine o8 S.kind z λa1 he s1 x=>?_;subst he;refine#[Z.keeps x.toInCall.keep,codeAny_func ?_];let#[t,ht,hq]:=p A c s H l Q E (Y.deeper _) F;have I:Inv (EG L P w K M h N d a f g A c s H E) [] (start N l) H s1:=NR S Y.hd D hl r x;refine jh (ht [] s1 (start N l) H _ I hq) (λfl s' B=>?_) λe s' B=>B
 have G:∀{R:St}{m:Hp}{v:V}{u:Ev},Inv (EG L P w K M h N d a f g A c s H E) [] R m s'->RelV v u->Q v m->CE c P w H s Q u s':=
  λ{R m v u} J rv q=>#[v,m,J.os,J.bare,J.base,J.hok,rv,q]
 cases fl with
 |ret u=>
  let#[v,R,m,J,rv,q]:=B;exact G J rv q
 |next=>
  let#[R,m,J,q]:=B;exact G (v:=V.non) (u:=jd) J rfl q
 |brk=>
  let#[_,_,_,q]:=B;exact jt q
 |cont=>
  let#[_,_,_,q]:=B;exact jt q
section
variable {X:Cx}{x:Str}{p pos:Pos}{e:Expr}{es:v_ Expr}{t:TA}{id T:String}{r:v_ V->Hp->VK->Prop}
def gF(r:v_ V->Hp->VK->Prop)(t:TA):TE:=λZ H Q=>t Z H λa b=>r a b Q
def EN(c:DR X (.builtin id) r)(d:Gl X x)(f:X.mg x=s_)(g:bootBuiltins x=P3^.builtin id)(i:PA X (e::es) t)(j:x ≠ "__name__":=by cbv)(a:(x==("__debug__":Str))=u_:=by cbv)
  (k:starEach (e::es) X.env=(u_,eval e X.env)::starEach es X.env:=by rfl) (b:(backTo pos^starEach es X.env).any (·.1)=u_:=by rfl):PE X (.Call (.Name x p) (e::es) [] pos)^gF r t:=λw s Z H Q I h=>jq^DF I d f g (PyProof.Rows.callWith_builtin1 (thn (i _ _ s Z H _ I h) λl m #[n,o,q,u,v]=>c _ m Z o n l Q q u v) k b) j a
def NE(c:DR X (.type T) r)(d:Gl X x)(f:X.mg x=s_)(g:bootBuiltins x=P3^.type T)(i:PA X (e::es) t)(j:x ≠ "__name__":=by cbv)(a:(x==("__debug__":Str))=u_:=by cbv)
  (k:starEach (e::es) X.env=(u_,eval e X.env)::starEach es X.env:=by rfl) (b:(backTo pos^starEach es X.env).any (·.1)=u_:=by rfl):PE X (.Call (.Name x p) (e::es) [] pos)^gF r t:=λw s Z H Q I h=>jq^DF I d f g (jw (thn (i _ _ s Z H _ I h) λl m #[n,o,q,u,v]=>c _ m Z o n l Q q u v) k b) j a
end
end L2
namespace HT
section
variable {prog:Program}{w:World}{A:Around}{E:Value->Shared->Prop}{s:Shared}
def cat_tup{t b:Db}{d c:v_ Ev}{Q:Ev->Go->Prop}(u:nc s.heap t d.toArray)(v:nc s.heap b c.toArray)(z:d≠[])
  (x:c=[]->Q (.ref t) s) (B:c≠[]->Q (.ref s.heap.objs.size) {s with heap:=s.heap.push {cls:=.type "tuple",data:=.seq (d++c).toArray}})
  (y:d.length+c.length<=sizeLine):wpAny (model prog w) A (binaryOp .Add (.ref t)^.ref b) Q E s:=by
 let#[#[cls,k,data,l],i,m,n,o]:=id u;let#[#[p,e,j,f],a,g,q,h]:=id v;simp only at m o g h;subst m o g h
 by_cases r:c=[]
 .exact concat_meets #[_,i,rfl] #[_,a,rfl] pS seq_tuple_add PySem.F.slot_tuple_add PySem.F.entry_tuple_add (PySem.F.args_tuple_add_2 _ _)
   (tuple_addW1 t b d.toArray c.toArray n q k e l f (by simp_all)^by simp[r]) #[i,a,x r]
 .refine concat_meets #[_,i,rfl] #[_,a,rfl] pS seq_tuple_add PySem.F.slot_tuple_add PySem.F.entry_tuple_add (PySem.F.args_tuple_add_2 _ _)
   (tuple_addW2 t b d.toArray c.toArray n q k e l f (by grind) (by grind)^by lk) #[i,a,?_]
  simp_all
def sIx(n d:Nat):w_ Int->Nat
 |none=>d
 |some v=>if v<0 then(v+(n:Int)).toNat else min v.toNat n
def sIx_none(n d:Nat):sIx n d s_=d:=rfl
def sIx_nat(n d k:Nat):sIx n d^P3 (k:Int)=min k n:=by
 show(if k<0 then((k:Int)+n).toNat else min _ n)=min k n;rw[if_neg^by lk,mx]
def bF(n d:Nat)(hd:d<=n)(o:w_ Int):sIx n d o<=n:=by
 cases o with
 |none=>exact hd
 |some v=>
  show(if v<0 then(v+n).toNat else min _ n)<=n
  grind
def UG(v:Int)(n d:Nat):(if v<0 then max (v+(n:Int)) 0 else min v (n:Int))=((sIx n d^P3 v:Nat):Int):=by
 show(if v<0 then max _ 0 else min v _)=(if v<0 then(v+n).toNat else min _ n)
 grind
def Si(a b:w_ Int)(n:Nat):mI a b 1 (n:Int)=(((sIx n 0 a:Nat):Int),((sIx n n b:Nat):Int)):=by
 refine Prod.ext ?_ ?_
 .cases a with
  |none=>rfl
  |some v=>exact UG v n 0
 .cases b with
  |none=>rfl
  |some v=>exact UG v n n
def Rp(i j:Nat):lA (i:Int) (j:Int) 1=j - i:=by
 unfold lA
 grind
def slicePart_{v:Ev}{o:w_ Int}{Q:w_ Int->Go->Prop}(p:oO v o)(h:Q o s):wpAny (model prog w) A (Builtin.Slice.slicePartIndex v) Q E s:=by
 cases p with
 |none=>exact slicePart_none h
 |int i t=>exact slicePart_int h
def sliceApplied_gen{g:Db}{e f:Ev}{a d:w_ Int}{n:Nat}{Q:Int×Int×Nat->Go->Prop}(i:s.heap.IsSliceOf g e f .none)(j:oO e a)(k:oO f d)
  (h:Q (((sIx n 0 a:Nat):Int),1,sIx n n d - sIx n 0 a) s):wpAny (model prog w) A (o9 (.ref g)^pure (n:Int)) Q E s:=by
 let#[m,b,l,c]:=id i;refine Ch^Ch (jf b c (x:=e) rfl (Ch (jf b c (x:=f) rfl (Ch (jf b c (x:=.none) rfl (Re ?_))))));refine Ch^slicePart_none ?_;refine Ch^slicePart_ j^Ch^slicePart_ k^Ch^Re ?_;show wpAny _ _ (match mI a d 1 (n:Int)with|(a,d)=>pure (a,(1:Int),lA a d 1)) _ _ s;rw[Si a d n];show wpAny _ _ (pure _) _ _ s;rw[Rp];exact Re h
def W1(a:Array Ev)(i k:Nat):((je k).filterMap fun(m:Nat)=>a[((i:Int)+(m:Int)*1).toNat]?).toArray=((a.toList.drop i).take k).toArray:=by
 have e:(fun(m:Nat)=>a[((i:Int)+(m:Int)*1).toNat]?)=λm=>a[i+m]?:=by
  grind
 rw[e]
 have:=pick_run a i k
 rw[o0]at this;have b:((λx=>a[x]?)∘λx=>i+x)=λm=>a[i+m]?:=rfl
 grind
def getItem_tuple_cut{t g:Db}{a:Array Ev}{n o:Ev}{c d:w_ Int}{Q:Ev->Go->Prop}(f:nc s.heap t a)(p:s.heap.IsSliceOf g n o .none)(q:oO n c)(r:oO o d)
  (y:¬(sIx a.size 0 c=0/\sIx a.size a.size d=a.size))
  (h:Q (.ref s.heap.objs.size) {s with heap:=s.heap.push {cls:=.type "tuple",data:=.seq ((a.toList.drop^sIx a.size 0 c).take (sIx a.size a.size d - sIx a.size 0 c)).toArray}})
  (u:a.size<=sizeLine):wpAny (model prog w) A (getItem (.ref t)^.ref g) Q E s:=by
 have e:sizeOk^.seq ((a.toList.drop^sIx a.size 0 c).take (sIx a.size a.size d - sIx a.size 0 c)).toArray:=by
  show((a.toList.drop^sIx a.size 0 c).take (sIx a.size a.size d - sIx a.size 0 c)).toArray.size<=sizeLine;rw[f8,mR,pU,kO];lk
 have z:sIx a.size a.size d<=a.size:=bF _ _ (Op _) d;let#[v,i,j,x]:=id p;have k:s.TypeIs (.ref g) "slice":=#[v,i,j];unfold getItem
 try with_reducible refine jn ?_
 first|refine Ch^Re ?_|skip
 refine Ch^pE f.typeIs (by cbv) ?_
 refine Ch (kI (name:=lE "__getitem__") f.typeIs jg
  (kY jg f.typeIs oa ?_^o4 _ _))
 show wpAny _ _ (nH^.ref t >>=_) _ _ s;refine Ch^tupleItemsOf_ f ?_;refine Ch^l7 k ?_;rw[if_pos^by cbv];refine Ch^sliceApplied_gen p q r ?_
 have l:¬((((sIx a.size 0 c:Nat):Int)==0&&(1:Int)==1&&(sIx a.size a.size d - sIx a.size 0 c)==a.size)=t_):=by
  grind
 show wpAny _ _ (if(((sIx a.size 0 c:Nat):Int)==0&&(1:Int)==1&&(sIx a.size a.size d - sIx a.size 0 c)==a.size)=t_ then _ else _) _ _ s;rw[if_neg l,W1]
 first
  |exact Ch (m:=lF _)^j1 (Re #[_,rfl,Re h]) e
  |grind
  |grind
  |grind
end
end HT
namespace L2
abbrev TO:=St->Hp->(w_ Int->Hp->Prop)->Prop
def PO(X:Cx)(e:w_ jX)(t:TO):Prop:=
 ∀(a:v_ (Db×Obj)) (s:Go) (Z:St) (H:Hp) (Q:w_ Int->Hp->Prop),Inv X a Z H s->t Z H Q->
  wpAny (model X.prog X.w) X.A (evalPart e X.env) (λu c=>∃o b,Inv X a Z b c/\oO u o/\Q o b) X.xe s
def Yq:TO:=λ_ H Q=>Q s_ H
def dh(t:TE):TO:=λZ H Q=>t Z H λx a=>∃i,x=.int i/\Q (P3 i) a
section
variable {X:Cx}{e:Expr}{te:TE}{lo hi:w_ Expr}{tl th:TO}{pos p2:Pos}
def Ta:PO X s_ Yq:=λa s Z H Q I h=>Re #[_,H,I,.none,h]
def TZ(h:PE X e te):PO X (P3 e)^dh te:=by
 intro g s Z H Q I a;refine thn (h _ s Z H _ I a) λu j #[x,b,c,d,f]=>?_;let#[i,rfl,q]:=f;let#[t,rfl]:=d;exact#[_,b,c,.int i t,q]
def SlR(X:Cx)(r:V->w_ Int->w_ Int->Hp->VK->Prop):Prop:=
 ∀(a:v_ (Db×Obj)) (s:Go) (Z:St) (H:Hp) (x:V) (v b c:Ev) (lo hi:w_ Int) (d:Db) (Q:VK),Inv X a Z H s->RelV x v->s.heap.IsSliceOf d b c .none->oO b lo->oO c hi->r x lo hi H Q->
  ∃T e,typeLookup (.type T) "__getitem__"=pure^P3^.builtin e/\s.TypeIs v T/\wpAny (model X.prog X.w) X.A (getItem v^.ref d) (EP X a Z Q) X.xe s
def SlR.or{r a:V->w_ Int->w_ Int->Hp->VK->Prop}(h:SlR X r)(j:SlR X a):SlR X (λx lo hi H Q=>r x lo hi H Q\/a x lo hi H Q):=by
 intro k s Z H x v b c lo hi d Q I e f g i q
 rcases q with q|q
 .exact h _ s Z H x v b c lo hi d Q I e f g i q
 .exact j _ s Z H x v b c lo hi d Q I e f g i q
def ij(r:V->w_ Int->w_ Int->Hp->VK->Prop)(te:TE)(tl th:TO):TE:=λZ H Q=>te Z H λx a=>tl Z a λl H2=>th Z H2 λu b=>r x l u b Q
def P5{r:V->w_ Int->w_ Int->Hp->VK->Prop}(i:SlR X r)(j:PE X e te)(k:PO X lo tl)(m:PO X hi th):PE X (.Subscript e (.Slice lo hi s_ p2) pos)^ij r te tl th:=by
 intro c s Z H Q I h;refine Subscript_^thn (j c s Z H _ I h) λv n #[x,o,p,t,y]=>?_;refine wpAny_Slice^thn (k c n Z o _ p y) λd z #[l,H2,B,C,D]=>thn (m c z Z H2 _ B D) λf a #[u,g,E,F,G]=>?_;rw[evalPart_none];refine Re ?_;have J:Inv X c Z g {a with heap:=a.heap.push {cls:=.type "slice",data:=.fields #[ d,f,.none]}}:=E.kept (t':=a.toks) λb N q=>FM _ q;let#[T,O,K,L,M]:=i c {a with heap:=a.heap.push {cls:=.type "slice",data:=.fields #[ d,f,.none]}} Z g x v d f l u a.heap.objs.size Q J t (qO ..) C F G;show wpAny (model X.prog X.w) X.A (subscriptTail e (.Slice lo hi s_ p2) v^.ref a.heap.objs.size) (EP X c Z Q) X.xe {a with heap:=a.heap.push {cls:=.type "slice",data:=.fields #[ d,f,.none]}};exact tail_any (ops:=[.ref a.heap.objs.size,v]) L K M^by with_unfolding_all rfl
def Qf(a:v_ V)(lo hi:w_ Int):v_ V:=(a.drop^HT.sIx a.length 0 lo).take (HT.sIx a.length a.length hi - HT.sIx a.length 0 lo)
def Jd(a:v_ V)(lo hi:w_ Int):(Qf a lo hi).length<=a.length:=by
 unfold Qf
 grind
def eI(K:Frag):V->w_ Int->w_ Int->Hp->VK->Prop:=λx lo hi H Q=>∃a b,x=.ref a/\SqT K H a b /\
 ¬(HT.sIx b.length 0 lo=0/\HT.sIx b.length b.length hi=b.length)/\∀p,H p=s_->Q (.ref p)^A4 H p^.tup^Qf b lo hi
def sl_tup:SlR X^eI X.K:=by
 intro n s Z H x v o p lo hi t Q I g i j k h;let#[a,e,rfl,l,u,q]:=h;cases g;let#[d,r,f,m]:=I.tuple l;have c:d.toArray.size=e.length:=by exact r.length.symm
 exists _,_,jg.lookup,f.typeIs;refine HT.getItem_tuple_cut f i j k (by grind) ?_ (by simp_all);rw[c];refine#[.ref _,_,I.laid (λb w q=>FM _ q) (Op _) ?_,rfl,q _^I.hok.fresh^Op _];exact#[jJ (Jd e lo hi) m,_,(r.drop _).take _,IsTupN.new _ _]
def Wp(K:Frag):R2:=λx y H Q=>∃a b d c,x=.ref a/\y=.ref b/\SqT K H a d/\SqT K H b c/\d≠[]/\d.length+c.length<=sizeLine /\
 (c=[]->Q (.ref a) H)/\(c≠[]->∀p,H p=s_->Q (.ref p)^A4 H p^.tup (d++c))
def Vals.nil_iff{a:v_ V}{b:v_ Ev}(r:Vals a b):b=[]↔a=[]:=by
 cases r with
 |nil=>simp
 |cons _ _=>simp
def op_catT:OpR X (binaryOp .Add)^Wp X.K:=by
 intro r s Z H x y v u Q I f g h;let#[a,b,t,A,rfl,rfl,i,j,k,l,m,n]:=h;cases f;cases g;let#[o,d,p,_]:=I.tuple i;let#[e,c,p2,_]:=I.tuple j;refine HT.cat_tup p p2 (λz=>k^d.nil_iff.mp z) (λz=>#[.ref a,H,I,rfl,m^c.nil_iff.mp z]) (λz=>?_) (by rw[←d.length,←c.length];exact l);refine#[.ref _,_,I.laid (λb B q=>FM _ q) (Op _) ?_,rfl,n (λw=>z^c.nil_iff.mpr w) _^I.hok.fresh^Op _];exact#[by simp_all,_,d.append c,IsTupN.new _ _]
end
def Xf(n:Nat)(i:Int):w_ Nat:=if 0<=i then(if i<n then P3 i.toNat else s_)else if -(n:Int)<=i then P3 (i+n).toNat else s_
def atI{a:Type}(b:v_ a)(i:Int):w_ a:=(Xf b.length i).bind λj=>b[j]?
def OT{n:Nat}{i:Int}{j:Nat}(h:Xf n i=P3 j):seqIndex? i n=P3 j/\j<n/\-(n:Int)<=i/\i<n:=by
 unfold Xf at h
 by_cases b:0<=i
 .rw[if_pos b]at h
  by_cases a:i<n
  .rw[if_pos a]at h
   have e:i.toNat=j:=jH h;exact#[by rw[seqIndex_of b a,e],by lk,by lk,a]
  grind
 .rw[if_neg b]at h
  by_cases a:-(n:Int)<=i
  .rw[if_pos a]at h
   have e:(i+n).toNat=j:=jH h;exact#[by rw[seqIndex_neg (by lk) a,e],by lk,a,by lk]
  grind
def Ot{b:Type}{a:v_ b}{i:Int}{v:b}(h:atI a i=P3 v):∃j,seqIndex? i a.length=P3 j/\a[j]?=P3 v/\j<a.length/\-(a.length:Int)<=i/\i<a.length:=by
 unfold atI at h;cases e:Xf a.length i with
 |none=>simp_all
 |some j=>
  let#[c,d,f,g]:=OT e
  simp_all
def AJ{b:Type}{a:v_ b}{j:Nat}{v:b}(h:a[j]?=P3 v):atI a (j:Int)=P3 v:=by
 have c:=(ZB.mp h).1
 have e:Xf a.length j=P3 j:=by
  unfold Xf
  simp_all
 unfold atI;grind
def Qt{b:Type}(a:v_ b)(v:b):atI (a++[v]) (-1)=P3 v:=by
 have e:Xf (a++[v]).length (-1)=P3 a.length:=by
  unfold Xf
  grind
 unfold atI
 grind
def UT(b:jX):Prop:=∀o i,subscripted b u_ o i=operate [o,i]^getItem o i
def IxR(X:Cx)(r:R2):Prop:=
 ∀(value a:jX) (b:v_ (Db×Obj)) (s:Go) (Z:St) (H:Hp) (x y:V) (v u:Ev) (Q:VK),Inv X b Z H s->RelV x v->RelV y u->r x y H Q->
  subscripted a u_ v u=operate [v,u]^getItem v u->wpAny (model X.prog X.w) X.A (subscriptTail value a v u) (EP X b Z Q) X.xe s
def dM(X:Cx)(d:String)(r:V->v_ V->Hp->VK->Prop):Prop:=
 ∀(a:v_ (Db×Obj)) (s:Go) (Z:St) (H:Hp) (x:V) (b:v_ V) (v:Ev) (c:v_ Ev) (Q:VK),Inv X a Z H s->RelV x v->Vals b c->r x b H Q->
  wpAny (model X.prog X.w) X.A (call (.builtin d) (v::c)) (EP X a Z Q) X.xe s
section
variable {X:Cx}{a b:Expr}{ta tb:TE}{pos:Pos}
def IxR.or{r d:R2}(h:IxR X r)(i:IxR X d):IxR X (λx y H Q=>r x y H Q\/d x y H Q):=by
 intro value c j s Z H x y v u Q I e f q g
 rcases q with q|q
 .exact h _ _ _ s Z H x y v u Q I e f q g
 .exact i _ _ _ s Z H x y v u Q I e f q g
def Es{r:R2}(c:IxR X r)(d:PE X a ta)(e:PE X b tb)(f:UT b):PE X (.Subscript a b pos)^EK r ta tb:=λl s Z H Q I h=>Subscript_^ce d e I h λv u g x y H2 i j k q=>c a b _ g Z H2 x y v u Q i j k q^f _ _
def bM(K:Frag):R2:=λx y H Q=>∃p c i v,x=.ref p/\y=.int i/\SqL K H p c/\atI c i=P3 v/\Q v H
def eR(K:Frag):R2:=λx y H Q=>∃p c i v,x=.ref p/\y=.int i/\SqT K H p c/\atI c i=P3 v/\Q v H
def eS:R2:=λx y H Q=>∃z i c,x=.str z/\y=.int i/\z.length<=sizeLine/\atI z.cps.toList i=P3 c/\Q (.str #[#[ c]]) H
def ix_list:IxR X^bM X.K:=by
 intro value d k s Z H x y v u Q I A B h l;let#[p,M,i,z,rfl,rfl,C,D,q]:=h;cases A;let#[t,rfl]:=B;let#[e,r,f,N]:=I.list C;let#[j,m,E,O,F,G]:=Ot D;let#[w,J,g]:=r.get E;have P:=r.length;have R:=IX;have c:EP X k Z Q w s:=#[z,H,I,g,q]
 by_cases n:0<=i
 .have o:i.toNat=j:=by
   rw[seqIndex_of n G]at m
   grind
  exact item_listR f.isList n (by lk) (by rw[o];simpa using J) c l
 .have o:(i+(e.toArray.size:Int)).toNat=j:=by
   rw[seqIndex_neg (by lk) F]at m
   grind
  exact subscriptTail_builtinR (x:=w) f.isList.typeIs pF.lookup
   (wpAny_getItem_list_neg (Q:=λr L=>r=w/\EP X k Z Q r L) f.isList (by lk) (by grind) (by lk) (by grind) #[rfl,c]) l
def ix_tup:IxR X^eR X.K:=by
 intro value c A s Z H x y v u Q I f g h k;let#[p,B,i,z,rfl,rfl,l,m,q]:=h;cases f;let#[t,rfl]:=g;let#[n,r,e,C]:=I.tuple l;let#[j,D,o,E,F,G]:=Ot m;let#[w,J,d]:=r.get o;have L:=r.length;have M:=IX
 exact subscriptTail_builtinR e.typeIs jg.lookup
  (getItem_tuple (j:=j) e (by lk) (by lk) (by grind) (by grind) #[rfl,#[z,H,I,d,q]]) k
def cC:IxR X eS:=by
 intro value d l s Z H x y v u Q I e f h g;let#[z,i,c,rfl,rfl,m,k,q]:=h;let#[t,rfl]:=e;let#[n,rfl]:=f;let#[j,o,p,r,w,A]:=Ot k;have B:z.cps.toList.length=z.length:=by simp[Str.length]
 have C:=IX
 exact tail_any (typeIs_str s z t) slot_str_getitem.lookup (getItem_str (by
  grind) (by grind) #[.str _,H,I.tok _,#[_,rfl],q]) g
def iL(K:Frag):R2:=λx y H Q=>bM K x y H Q\/eR K x y H Q\/eS x y H Q
def AN:IxR X^iL X.K:=ix_list.or^ix_tup.or cC
def R9(c:v_ Ev)(n j:Nat)(u:Ev):j9 (·.setIfInBounds j u) {cls:=.type "list",data:=.seq c.toArray n}={cls:=.type "list",data:=.seq (c.set j u).toArray n}:=by
 simp[j9]
def Inv.lst{f:v_ (Db×Obj)}{Z:St}{H:Hp}{s:Go}{p:Db}{d:v_ V}(I:Inv X f Z H s)(h:H p=P3^.lst d):
  ∃(c:v_ Ev) (n:Nat),Vals d c/\s.heap.get? p=P3 {cls:=.type "list",data:=.seq c.toArray n}/\d.length<=sizeLine:=by
 let#[z,c,n,r,e]:=I.hok p _ h;exact#[_,n,r,e,z]
def Inv.lstUpd{j:v_ (Db×Obj)}{Z:St}{H:Hp}{s:Go}{p:Db}{l g:v_ V}{d c:v_ Ev}{n i:Nat}{f:Obj->Obj}(I:Inv X j Z H s)(h:H p=P3^.lst l)
  (m:s.heap.get? p=P3 {cls:=.type "list",data:=.seq d.toArray n}) (k:f {cls:=.type "list",data:=.seq d.toArray n}={cls:=.type "list",data:=.seq c.toArray i}) (r:Vals g c) (o:g.length<=sizeLine) (t:Nat):
  Inv X j Z (A4 H p^.lst g) {s with heap:=s.heap.update p f,toks:=t}:=by
 have e:(s.heap.update p f).get? p=P3 {cls:=.type "list",data:=.seq c.toArray i}:=by
  rw[jr f m (by rw[k] <;>rfl),k]
 exact I.write (by rw[h];trivial) (.inl rfl) (λb u v q=>(jF _ _^jv v).trans q) #[_,e] #[o,_,i,r,e]
def Z8:V->V->V->Hp->(Hp->Prop)->Prop:=λo i v H Q=>∃p c k j,o=.ref p/\i=.int k/\H p=P3^.lst c/\Xf c.length k=P3 j/\Q^A4 H p^.lst^c.set j v
def set_list:fu X Z8:=by
 intro w s Z H o i v E F u Q I x y z h;let#[p,A,k,j,rfl,rfl,f,B,q]:=h;cases x;let#[t,rfl]:=y;let#[c,n,r,d,G]:=I.lst f;let#[g,J,C,D]:=OT B;have K:=r.length;have L:=IX
 have l:Inv X w Z (A4 H p^.lst^A.set j v) {s with heap:=s.heap.update p (j9 (·.setIfInBounds j u))}:=
  I.lstUpd f d (R9 c n j u) (r.set z j) (by simp_all) s.toks
 by_cases m:0<=k
 .have e:k.toNat=j:=by
   rw[seqIndex_of m D]at g
   grind
  exact PySem.W.ki_setAt d m (by lk) (by grind)^by rw[e];exact#[_,l,q]
 .have e:(k+(c.toArray.size:Int)).toNat=j:=by
   rw[seqIndex_neg (by lk) C]at g
   grind
  exact PySem.W.ki_setBack d (by lk) (by grind) (by lk)^by rw[e];exact#[_,l,q]
def Nw(c d:w_ Int)(n:Nat):(sliceBounds c d s_ n).1=((HT.sIx n 0 c:Nat):Int)/\(sliceBounds c d s_ n).2.1=((HT.sIx n n d:Nat):Int)/\(sliceBounds c d s_ n).2.2=1:=by
 refine#[?_,?_,rfl]
 .cases c with
  |none=>simp[sliceBounds,HT.sIx]
  |some i=>
   simp only[sliceBounds,HT.sIx,Option.getD_none,show(1:Int) > 0 by cbv,if_true]
   by_cases h:i<0
   .grind
   .simp only[h,if_false] <;>lk
 .cases d with
  |none=>simp[sliceBounds,HT.sIx]
  |some i=>
   simp only[sliceBounds,HT.sIx,Option.getD_none,show(1:Int) > 0 by cbv,if_true]
   by_cases h:i<0
   .grind
   .simp only[h,if_false] <;>lk
def MC(c:v_ Ev)(d e:w_ Int):slicePick c.toArray d e s_=((c.drop^HT.sIx c.length 0 d).take (HT.sIx c.length c.length e - HT.sIx c.length 0 d)).toArray:=by
 let#[f,g,h]:=Nw d e _;unfold slicePick;rw[f,g,h];simp only[sliceRange_one,pick_run] <;>rfl
def eJ(K:Frag):V->w_ Int->w_ Int->Hp->VK->Prop:=λx d e H Q=>∃a c,x=.ref a/\SqL K H a c/\∀p,H p=s_->Q (.ref p)^A4 H p^.lst^Qf c d e
def sl_list:SlR X^eJ X.K:=by
 intro p s Z H x v t u e f w Q I g i j k h;let#[a,l,rfl,m,q]:=h;cases g;let#[n,r,d,o]:=I.list m;have c:=r.length;exists _,_,pF.lookup,d.isList.typeIs;refine wpAny_getItem_list_slice d.isList i j k .none (by simp) ?_ (by grind);rw[MC,←c];refine#[.ref _,_,I.laid (λb y q=>FM _ q) (Op _) ?_,rfl,q _^I.hok.fresh^Op _];exact#[jJ (Jd l e f) o,_,0,(r.drop _).take _,XV _ rfl]
def aK:V->Bool
 |.non=>t_
 |.bl _=>t_
 |.int _=>t_
 |.str _=>t_
 |_=>u_
def fX:V->V->Bool
 |.non,.non=>t_
 |.bl a,.bl b=>a==b
 |.bl a,.int b=>(if a then 1 else 0)==b
 |.int a,.bl b=>a==(if b then 1 else 0)
 |.int a,.int b=>a==b
 |.str a,.str b=>a==b
 |_,_=>u_
def OY{A:jY}{s:Go}{y x:V}{u v:Ev}(e:RelV y u)(c:RelV x v)(g:aK y=t_)(f:aK x=t_):SeqAt.EqAt A s u v^fX y x:=by
 cases y with
 |non=>
  cases e;cases x with
  |non=>cases c;exact SeqAt.EqAt.same _
  |bl b=>cases c;exact SeqAt.EqAt.none_bool b
  |int b=>let#[t,rfl]:=c;exact SeqAt.EqAt.none_int b t
  |str b=>let#[t,rfl]:=c;exact SeqAt.EqAt.none_str b t
  |_=>exact absurd (show u_=t_ from f) jR
 |bl a=>
  cases e;cases x with
  |non=>cases c;exact SeqAt.EqAt.bool_none a
  |bl b=>cases c;exact SeqAt.EqAt.bool_bool a b
  |int b=>let#[t,rfl]:=c;exact SeqAt.EqAt.bool_int a b t
  |str b=>let#[t,rfl]:=c;exact SeqAt.EqAt.bool_str a b t
  |_=>exact absurd (show u_=t_ from f) jR
 |int a=>
  let#[d,rfl]:=e;cases x with
  |non=>cases c;exact SeqAt.EqAt.int_none a d
  |bl b=>cases c;exact SeqAt.EqAt.int_bool a d b
  |int b=>let#[t,rfl]:=c;exact SeqAt.EqAt.int_int a d b t
  |str b=>let#[t,rfl]:=c;exact qM a d b t
  |_=>exact absurd (show u_=t_ from f) jR
 |str a=>
  let#[d,rfl]:=e;cases x with
  |non=>cases c;exact SeqAt.EqAt.str_none a d
  |bl b=>cases c;exact SeqAt.EqAt.str_bool a d b
  |int b=>let#[t,rfl]:=c;exact qN a d b t
  |str b=>let#[t,rfl]:=c;exact SeqAt.EqAt.str_str a d b t
  |_=>exact absurd (show u_=t_ from f) jR
 |_=>exact absurd (show u_=t_ from g) jR
def Eo:DR X (.type "list") (λB H Q=>∃p f,B=[.ref p]/\(SqL X.K H p f\/SqT X.K H p f)/\∀l,H l=s_->Q (.ref l)^A4 H l^.lst f):=by
 intro D s Z H B F Q I r h;let#[p,f,rfl,j,q]:=h;let#[u,rfl,E]:=vals1 r;cases E
 have k:∀(c:v_ Ev),Vals f c->f.length<=sizeLine->∀(d:jI) (i:Nat),(∀b C,s.heap.get? b=P3 C->d.get? b=P3 C)->
   d.get? s.heap.objs.size=P3 _->EP X D Z Q (.ref s.heap.objs.size) {s with heap:=d}:=λc g m d i t e=>
  #[.ref s.heap.objs.size,_,I.laid (t':=s.toks) t (Op _) (show ObjOk X.prog X.w _ d _^.lst f from#[m,c,i,g,e]),rfl,q _^I.hok.fresh^Op _]
 rcases j with j|j
 .let#[c,g,x,m]:=I.list j
  have v:=g.length;let#[o,y,z,n,A]:=x.isList;exact call_list_seq p (.inl rfl) y z A (λd i t e=>k c g m d i t e)^by grind
 .let#[c,g,x,m]:=I.tuple j
  have v:=g.length;let#[o,y,z,n,A]:=x;exact call_list_seq p (.inr rfl) y z A (λd i t e=>k c g m d i t e)^by grind
def Au:DR X (.type "tuple") (λj H Q=>∃p c,j=[.ref p]/\((SqL X.K H p c/\∀l,H l=s_->Q (.ref l)^A4 H l^.tup c)\/(SqT X.K H p c/\Q (.ref p) H))):=by
 intro w s Z H j x Q I r h;let#[p,c,rfl,h]:=h;let#[u,rfl,t]:=vals1 r;cases t
 rcases h with⟨d,q⟩|⟨d,q⟩
 .let#[f,g,i,k]:=I.list d
  have m:=g.length;refine call_tuple_list i.isList (λy v=>?_) (by grind);have n:=I.kept (t':=s.toks) v;exact#[.ref _,_,n.laid (t':=s.toks) (λb o e=>FM _ e) (Op _) (show ObjOk _ _ _ _ _^.tup c from#[k,_,g,IsTupN.new _ _]),rfl,q _^n.hok.fresh^Op _]
 .let#[f,g,i,k]:=I.tuple d
  exact call_tuple_same i #[.ref p,H,I,rfl,q]
def gU(K:Frag)(T:String)(x:V)(H:Hp):Prop:=match x with
 |.str _=>T="str"
 |.int _=>T="int"
 | .ref p=>(T="list"/\∃d,SqL K H p d)\/(T="tuple"/\∃o,K.lookup p=P3 o/\o.cls=.type "tuple"/\o.dict=s_) \/
   (T="dict"/\((∃c,H p=P3^.dK c)\/∃c,H p=P3^.dT c))\/(T="set"/\∃S n,H p=P3^.set S n)
 |_=>False
def am{l:v_ (Db×Obj)}{Z:St}{H:Hp}{s:Go}{T:String}{x:V}{v:Ev}(I:Inv X l Z H s)(r:RelV x v)(ty:gU X.K T x H):
  s.TypeIs v T/\∀a,v=.ref a->∃j,s.heap.get? a=P3 j/\j.dict=s_:=by
 cases x with
 |str z=>
  let#[t,rfl]:=r;cases(show T="str" from ty);exact#[typeIs_str s z t,λ_ e=>nomatch e]
 |int i=>
  let#[t,rfl]:=r;cases(show T="int" from ty);exact#[typeIs_int s i t,λ_ e=>nomatch e]
 | ref p=>
  cases r
  rcases ty with⟨rfl,w,m⟩|⟨rfl,o,d,q,f⟩|⟨rfl,d⟩|⟨rfl,S,n,d⟩
  .let#[u,_,k,_]:=I.list m
   refine#[k.isList.typeIs,λa e=>?_];cases e;let#[o,n,e,c,f,_]:=k;exact#[o,e,f]
  .refine#[#[o,I.kIn p o d,q],λa e=>?_]
   cases e;exact#[o,I.kIn _ o d,f]
  .have z:∃o,s.heap.get? p=P3 o/\o.ExactDict:=by
    rcases d with⟨g,d⟩|⟨g,d⟩
    .let#[_,_,_,_,o,_,_,e,ex,_]:=I.hok p _ d
     exact#[o,e,ex]
    .let#[_,_,_,_,o,_,_,e,ex,_]:=I.hok p _ d
     exact#[o,e,ex]
   let#[o,e,ex]:=z;refine#[#[o,e,ex.1],λa h=>?_];cases h;exact#[o,e,ex.2.1]
  .let#[o,_,_,_,e,ex,_]:=I.hok p _ d
   refine#[#[o,e,ex.1],λa h=>?_];cases h;exact#[o,e,ex.2.1]
 |_=>exact jt ty
def io(K:Frag)(T:String)(r:V->v_ V->Hp->VK->Prop)(d:TE)(t:TA):TE:=λZ H Q=>d Z H λx c=>gU K T x c/\t Z c λe H2=>r x e H2 Q
variable {o e:Expr}{es:v_ Expr}{to:TE}{t:TA}{name:Str}{apos cpos:Pos}{T id:String}{r:V->v_ V->Hp->VK->Prop}
def Te(n:PlainAttrs T)(f:Slot T name id)(j:typeOf^.builtin id=pure^.type "method_descriptor")(p:dM X id r)(q:PE X o to)(u:PA X (e::es) t)
  (c:attributeBase o name X.env^eval o X.env=eval o X.env:=by rfl)
  (g:((backTo cpos^starEach (e::es) X.env).all (λx=>!x.1)&&(backToKw cpos^keywordEach [] X.env).all (λx=>x.1.isSome)
   && decide ((e::es).length+([]:v_ lh).length+(if([]:v_ lh).isEmpty then 0 else 1)<30))=t_:=by rfl)
  (d:(apos.endLine==cpos.line)=t_:=by rfl) (w:starEach (e::es) X.env=(u_,eval e X.env)::starEach es X.env:=by rfl) (i:(backTo cpos^starEach es X.env).any (·.1)=u_:=by rfl):
  PE X (.Call (.Attribute o name apos) (e::es) [] cpos) (io X.K T r to t):=by
 intro M s Z H Q I h;refine wpAny_Call_method_late c g d rfl (thn (q _ s Z H _ I h) λv y #[x,z,k,l,ty,A]=>?_);let#[B,C]:=am k l ty;exists T,id,n,f,j,B,C;have m:=u cpos _ y Z z _ k A;rw[w]at m ⊢;refine lr (by simp_all)^nB ?_;exact thn m λD E #[F,H2,G,J,L]=>p _ E Z H2 x F v D Q G l J L
end
def iF(X:Cx)(d:String)(r:V->v_ V->Hp->VK->Prop):Prop:=
 ∀(a:v_ (Db×Obj)) (s:Go) (Z:St) (H:Hp) (x:V) (b:v_ V) (v:Ev) (c:v_ Ev) (Q:VK),Inv X a Z H s->RelV x v->Vals b c->r x b H Q->
  wpAny (model X.prog X.w) X.A (call (.builtin d) (v::c)) (EP X a Z Q) X.xe s
theorem Vals.one:∀{x:V}{a:v_ Ev},Vals [x] a->∃u,a=[u]/\RelV x u
 |_,_,.cons r .nil=>#[_,rfl,r]
theorem Vals.eraseIdx:∀{a:v_ V}{b:v_ Ev} (i:Nat),Vals a b->Vals (a.eraseIdx i)^b.eraseIdx i
 |_,_,_,.nil=>.nil
 |_,_,0,.cons _ t=>t
 |_,_,i+1,.cons r t=>.cons r^Vals.eraseIdx i t
def Vals.reverse{a:v_ V}{b:v_ Ev}(h:Vals a b):Vals a.reverse b.reverse:=by
 induction h with
 |nil=>exact .nil
 |cons r t c=>rw[my,my];exact Vals.append c^.cons r .nil
theorem IY{a:Type}:∀(l:v_ a) (i:Nat),(l.eraseIdx i).length<=l.length
 |[],_=>Op _
 |_::_,0=>jk _
 |_::r,i+1=>pV^IY r i
section
variable {X:Cx}{zG:v_ (Addr×Obj)}{Z:St}{H:Hp}{s:Shared}{l:Addr}{xs ys:v_ V}
def Inv.lset{a its':v_ Ev}{n:Nat}{f:Array Ev->Array Ev}{t':Nat}(I:Inv X zG Z H s)(b:H l=P3^.lst xs)
  (e:s.heap.get? l=P3 {cls:=.type "list",data:=.seq a.toArray n}) (c:f a.toArray=its'.toArray) (d:Vals ys its') (g:ys.length<=sizeLine):
  Inv X zG Z (A4 H l^.lst ys) {s with heap:=s.heap.update l^j9 f,toks:=t'}:=by
 have q:=PySem.IsL.update e f;rw[c]at q;exact I.write (by rw[b];exact trivial) (.inl rfl) (λk u h i=>(jF _ _^jv h).trans i) #[_,q] #[g,_,_,d,q]
def Inv.lnew{a:v_ Ev}{b:Nat}(I:Inv X zG Z H s)(c:Vals ys a)(d:ys.length<=sizeLine):
  Inv X zG Z (A4 H s.heap.objs.size^.lst ys) {s with heap:=s.heap.push {cls:=.type "list",data:=.seq a.toArray},toks:=b}:=
 I.laid (λ_ _ q=>FM _ q) (Op _) #[d,_,0,c,XV _ rfl]
def Inv.fresh(I:Inv X zG Z H s):H s.heap.objs.size=s_:=I.hok.fresh^Op _
def Inv.lstM(I:Inv X zG Z H s)(b:H l=P3^.lst xs):xs.length<=sizeLine/\∃(a:v_ Ev) (n:Nat),Vals xs a/\xs.length=a.length/\s.heap.get? l=P3 {cls:=.type "list",data:=.seq a.toArray n}:=by
 let#[z,a,n,r,e]:=I.hok l _ b;exact#[z,_,n,r,r.length,e]
def XM{n:Nat}(h:n<=sizeLine):mS n=u_:=by
 unfold mS
 grind
end
section
variable {X:Cx}
def TQ:V->v_ V->Hp->VK->Prop:=λx b H Q=>∃l a y,x=.ref l/\b=[y]/\H l=P3^.lst a/\a.length<sizeLine/\Q .non^A4 H l^.lst (a++[y])
def BA:iF X "list.append" TQ:=by
 intro g s Z H x i v j Q I b c h;let#[l,k,y,rfl,rfl,a,m,q]:=h;cases b;let#[u,rfl,d]:=c.one;let#[z,f,n,r,o,e]:=I.lstM a;refine call_meets F.slot_list_append #[_,e,rfl] F.entry_list_append (F.args_list_append_2 _ _) (PySem.list_append l _ n u^by grind) #[e,?_];refine#[.non,_,I.lset a e (by simp) (r.append^.cons d .nil) ?_,rfl,q]
 grind
def TN:V->v_ V->Hp->VK->Prop:=λx d H Q=>∃l b a c,x=.ref l/\d=[.ref b]/\H l=P3^.lst a/\H b=P3^.lst c/\a.length+c.length<=sizeLine/\Q .non^A4 H l^.lst (a++c)
def NJ:iF X "list.extend" TN:=by
 intro y s Z H x A v B Q I i j h;let#[l,b,C,D,rfl,rfl,g,k,E,q]:=h;cases i;let#[u,rfl,m]:=j.one;cases m;let#[z,a,n,r,G,e]:=I.lstM g;let#[J,c,o,p,t,w]:=I.lstM k;have f:a.toArray.size+c.toArray.size<=sizeLine:=by grind
 have d:¬(!a.toArray.isEmpty&&mS (a.toArray.size+c.toArray.size))=t_:=by
  rw[XM f]
  grind
 refine call_meets F.slot_list_extend #[_,e,rfl] F.entry_list_extend (F.args_list_extend_2 _ _)
  (AutoSeq1.list_extend_list_list_0 l a.toArray n b _ o d (by grind)^by lk) #[e,w,?_]
 refine#[.non,_,I.lset g e (by simp) (r.append p) ?_,rfl,q]
 grind
def bK:V->v_ V->Hp->VK->Prop:=λx b H Q=>∃l a i k y,x=.ref l/\b=[.int i]/\H l=P3^.lst a/\-(2 ^ 63)<=i/\i<2 ^ 63/\seqIndex? i a.length=P3 k/\a[k]?=P3 y/\Q y^A4 H l^.lst^a.eraseIdx k
def QF:iF X "list.pop" bK:=by
 intro A s Z H x B v C Q I d f h;let#[l,g,i,k,y,rfl,rfl,c,j,m,D,o,q]:=h;cases d;let#[u,rfl,p]:=f.one;let#[t,rfl]:=p;let#[z,a,n,r,E,e]:=I.lstM c;let#[w,G,b]:=r.get o
 refine call_meets F.slot_list_pop #[_,e,rfl] F.entry_list_pop (F.args_list_pop_2 _ _)
  (MeetsSeq.list_pop_at l a.toArray n i t k w (fitsIndex_both j m) (by simp_all) (by simp_all)^by grind) #[e,?_]
 refine#[y,_,I.lset (its':=a.eraseIdx k) c e ?_ (r.eraseIdx k) ?_,b,q]
 .simp_all
 .have:=IY g k
  omega
end
end L2
namespace Att
open PySem.W PySem.Calls
def Jv{P:Params}{h:jI}:∀(c:v_ Int) (d:v_ Ev),WellAll P h d^c.map WData.int->IntsAre d c:=by
 intro c
 induction c with
 |nil=>
  intro d w;cases w;exact .nil
 | cons n c e=>
  intro d w;cases w with
  |cons a b=>
   cases a;exact .cons _ _^e _ b
def Ug{l:OpenLaw}{n:Nat}(w:l.most=P3 n){P:Params}{h:jI}{args:v_ WData}{b:v_ Ev}
  (c:l.row.toRowW.claim.pre args=t_) (i:WellAll P h b args):
  ∃a k e,b=[jE a]/\args=[WData.list^e.map WData.int]/\h.get? a=P3 {cls:=.type "list",data:=.seq k.toArray}/\IntsAre k e/\e.length<=n:=by
 have j:WShape.hasAll [] args [.list .int]=t_:=(pre_splitW c).1;have m:l.pre.holds [] {args:=args}=t_:=(pre_splitW c).2;let#[d,r,rfl,p,q]:=hasAllW_cons j;obtain rfl:=hasAllW_nil q;let#[x,rfl,s]:=hasW_list p;let#[e,rfl]:=items_int s
 have f:e.length<=n:=by
  unfold OpenLaw.pre at m
  have o:(WTm.not^.lt (.lit^.int (n:Int))^.len^.arg 0).holds [] {args:=[.list^e.map .int]}=t_:=by
   have o:=(holds_andW m).1
   grind
  have y:=condW_of o^w_not^w_lt w_lit^w_len_list (w_arg rfl)
  grind
 cases i with
 |cons t u=>
  cases u;cases t with
  |list v g=>exact#[_,_,e,rfl,rfl,v,Jv e _ g,f]
def Uv(l:OpenLaw)(a:v_ WData):l.row.toRowW.claim.post a (.bool t_) a=t_:=
 postW_of
  (show WShape.has [] _ _=t_ by first|rfl|decide|omega)
  (w_eq_bool (w_res rfl) w_lit) rfl
def attach_call{l:OpenLaw}{n:Nat}{q:jM}{c:v_ Str}{D:(Str->w_ Ev)->jI->Prop}{E:jT->jI->Prop}{d:DefRec}
  (K:l.most=P3 n) (x:d.params.defaults=[])
  (call:∀(w:jT) (e b:Go) (s y:Str->w_ Ev) (j:Db) (o:Obj) (z t g:Ev) (a:Db) (i:v_ Ev) (u:v_ Int),
   Ground q c [] D w e s y b.heap->E w b.heap->
   b.heap.get? j=P3 o->o.data=.func^docDef d.name d.params d.body d.scope z t g->b.heap.CodeRec t d.name->s d.name=P3^.ref j->
   b.heap.get? a=P3 {cls:=.type "list",data:=.seq i.toArray}->IntsAre i u->u.length<=n->b.gens=#[]->
   codeAny (model l.prog w) callerA (.call (.ref j) #[[.ref a],[]]) (λr v=>r=.ok^.ret^.bool t_/\OldK b.heap v.heap/\v.os=b.os/\m7 v.gens) b):
  WalkO q c D E l.row.toRowW d [] (λf i=>PySem.call f i):=by
 intro w e b s y G Y j o z t g L M N O A F B P H I X k J Q C R;obtain rfl:L=.none:=Dflts.none F x;obtain rfl:M=.none:=Dflts.noKw F;let#[a,i,u,rfl,rfl,m,h,p]:=Ug K k C;refine enter_call^mQ (call w e b s y j o z t g a i u G Y N (fd_plain O) A B m h p P) λr v S=>?_;let#[rfl,T,U,V]:=S;exact#[.inl #[.bool t_,.bool t_,[],rfl,λ_=>rfl,.bool t_,Uv l _,λ_=>#[List.Pairwise.nil,λ_ W=>(nomatch W)]],T,U,V]
end Att
namespace L2
theorem Mr:∀{a:v_ Ev}{b:v_ Int},IntsAre a b->Vals (b.map V.int) a
 |_,_,.nil=>.nil
 |_,_,.cons n t h=>.cons #[t,rfl]^Mr h
def c7(H:Hp):Prop:=∀b,H b=s_\/∃o a,H b=P3^.frz o^.lst a
def Xd{P:jM}{w:jT}{K:Frag}{A R:Str->w_ Ev}{CX:Vy}{k:Nat}{S a:Db}{fd:jp}{x:Str}{sp:Sp}{c:Go}{t:v_ Ev}{B:v_ Int}
  (KX:K.In c.heap) (C:c.heap.Ns mainGlobals A) (g:c.heap.Ns builtinsNs R) (T:∀x:Str,x ≠ "__name__"->R x=bootBuiltins x) (D:c.heap.NoLimit) (hg:c.gens=#[])
  (Q:c.heap.get? a=P3 {cls:=.type "list",data:=.seq t.toArray}) (hi:IntsAre t B) (hl:B.length<=sizeLine) (hr:Room k callerA)
  (F:∀i:jI,K.In i->i.Ns mainGlobals A->CU P w K A i CX k S fd [x] sp) (y:∀(s:Go) (u:Ev),oj s fd #[[u],[]] [(x,u)])
  (U:∀H:Hp,c7 H->SqL K H a^B.map V.int->sp [.ref a] H (λv _=>v=.bl t_) λ_ _ _=>False)
  (W:∀H e j,CX [] H c (λ_ _ _=>False) e j->False):
  codeAny (model P w) callerA (.call (.ref S) #[[.ref a],[]]) (λr j=>r=.ok^.ret^.bool t_/\OldK c.heap j.heap/\j.os=c.os/\m7 j.gens) c:=by
 have rv:=Mr hi;have E:=hi.length
 have p:∀H:Hp,c7 H->SqL K H a^B.map V.int->HOk P w H c.heap->(∀b,H b≠s_->b=a)->(H a≠s_->K.lookup a=s_)->
   codeAny (model P w) callerA (.call (.ref S) #[[.ref a],[]]) (λr j=>r=.ok^.ret^.bool t_/\OldK c.heap j.heap/\j.os=c.os/\m7 j.gens) c:=by
  intro H hO hS G hA hK;have f:∀{b:Db}{o:Obj},c.heap.get? b=P3 o->H b=s_->(OV c.heap H).get? b=P3 o:=λe n=>Xo e n
  have X:∀{b:Db}{o:Obj}{I:Array DictEntry}{J:Nat},c.heap.get? b=P3 o->o.data=.dict I J->H b=s_:=λ{b o I J} e d=>by
   cases q:H b with
   |none=>rfl
   |some u=>
    have Y:b=a:=hA b (by rw[q];simp);subst Y;rw[Q]at e;cases e
    have d':Data.seq t.toArray _=Data.dict I J:=d;cases d'
  have l:∀{b:Db}{m:Str->w_ Ev},c.heap.Ns b m->(OV c.heap H).Ns b m:=λ{b m} #[o,I,J,e,d,r]=>#[o,I,J,f e^X e d,d,r]
  have L:K.In^OV c.heap H:=λb o e=>f (KX b o e) (by
   cases q:H b with
   |none=>rfl
   |some u=>
    have Y:b=a:=hA b (by rw[q];simp);subst Y;rw[hK^by rw[q];simp]at e;cases e)
  have hM:Mod K A^OV c.heap H:=#[L,l C,#[R,l g,T],let #[mc,h1,h2]:=D;#[mc,l h1,h2]];have e0:Env0 P w K A (OV c.heap H) callerA [] c H:=#[rfl,hM,λb o e=>ZI e,pW^VQ _ _,trivial,λb g=>absurd (show b∈([]:v_ Db)from g)^by simp,G,.of_eq hg];refine mQ ((F _ L^l C).run callerA [] c H #[[.ref a],[]] [.ref a] [.ref a] _ _ hr e0 (y c^.ref a) (.cons rfl .nil)^U H hO hS) λr j h=>?_;cases r with
  |error e=>exact(W H e j h).elim
  | ok fl=>
   cases fl with
   |next=>exact jt h
   |brk=>exact jt h
   |cont=>exact jt h
   | ret u=>
    let#[v,H',os,M,un,N,r',q]:=h;have q':v=.bl t_:=q;subst q';obtain rfl:u=pN t_:=r';refine#[rfl,OldK.of_keep λb o e=>?_,os,M];cases q:H b with
    |none=>exact un.keep b o e q (by intro z;exact absurd (show b∈([]:v_ Db)from z)^by simp)^by simp
    | some u=>
     rcases hO b with z|⟨ob,xs,z⟩
     .rw[q]at z;cases z
     .have z2:=un.frzs b ob _ z
      let#[e1,_]:=G b _ z;let#[e2,_]:=N b _ z2;rw[e]at e1;cases e1
      exact e2
 cases Z:K.lookup a with
 |some o=>
  have e:=KX a o Z;rw[Q]at e;cases e;refine p (λ_=>s_) (λ_=>.inl rfl) (.inr #[_,t.toArray,_,Z,rfl,rfl,rfl,by rw[f8,E];exact hl,by simpa using rv]) (λb u z=>by have O:(s_:w_ HO)=P3 u:=z;cases O) (λb z=>absurd rfl z) λz=>absurd rfl z
 | none=>
  refine p (λb=>if b=a then P3^.frz {cls:=.type "list",data:=.seq t.toArray}^.lst^B.map V.int else s_) (λb=>?_) (.inl^.inr #[{cls:=.type "list",data:=.seq t.toArray},if_pos rfl]) (λb u z=>?_) (λb z=>?_) λ_=>Z
  .by_cases g:b=a
   .exact .inr #[_,_,if_pos g]
   .exact .inl^if_neg g
  .by_cases g:b=a
   .have O:=(if_pos g).symm.trans z
    cases O;subst g;exact#[Q,by rw[No];exact hl,t,_,rv,Q]
   .have O:=(if_neg g).symm.trans z
    cases O
  .by_cases g:b=a
   .exact g
   .exact absurd (if_neg g) z
def S2{l:PySem.W.OpenLaw}{n k:Nat}{q:jM}{j:v_ Str}{O:(Str->w_ Ev)->jI->Prop}{I:jT->jI->Prop}{d:DefRec}{K:Params->Frag}{CX:jT->Vy}{sp:jT->Sp}{x:Str}
  (P:l.most=P3 n) (z:n<=sizeLine) (A:d.params.defaults=[]) (Q:Room k callerA)
  (R:∀(w:jT) (h:jI),I w h->(K w.params).In h)
  (F:∀(w:jT) (p:Str->w_ Ev) (t:Db) (h:jI),(K w.params).In h->h.Ns mainGlobals p->p d.name=P3^.ref t->
   ∃fd:jp,(∀(s:Go) (u:Ev),oj s fd #[[u],[]] [(x,u)]) /\
    ∀c:jI,(K w.params).In c->c.Ns mainGlobals p->CU l.prog w (K w.params) p c (CX w) k t fd [x]^sp w)
  (B:∀(w:jT) (H:Hp) (a:Db) (y:v_ Int),y.length<=n->c7 H->SqL (K w.params) H a^y.map V.int->sp w [.ref a] H (λv _=>v=.bl t_) λ_ _ _=>False)
  (C:∀(w:jT) (H:Hp) (s:Go) (e:Ev) (D:Go),CX w [] H s (λ_ _ _=>False) e D->False):
  PySem.W.WalkO q j O I l.row.toRowW d [] (λf J=>PySem.call f J):=by
 refine Att.attach_call P A λw L M p mb t o pm cd S a J y G Y ho hd U E r m i X=>?_;have N:=R w _ Y;let#[fd,Z,hF]:=F w p t _ N G.T.g E;exact Xd N G.T.g G.T.b G.T.builtins G.T.nolimit X r m (jJ i z) Q hF Z (λH hO hS=>B w H a y i hO hS) λH e D=>C w H _ e D
end L2
/- THE LAST THEOREM (shape;LID,My.* are yours):
   My.Adr:a structure of the addresses that your layer names (classes,functions);My.Txt K t:a structure (Prop) of the equations over K;
   My.txt_mk:{K}{implicit addresses ..} (e1:nsIn K mainGlobals "law"=P3^P3^.ref f) (e2:K.lookup f=P3 #[oc,od,.func^fnOf "law" "law" params body scope dV kV doc pm an cdv ct,sl]) (e3:codeIn K cdv "law"=t_) ..:∃ t,My.Txt K t
set_option maxRecDepth 100000 in
set_option maxHeartbeats 0 in
def PySem.Challenge.cw_LID_holds:PySem.Challenge.rw_LID.Holds:=by
 w_on;o_law;k_head;(case hw=>w_witness2)
 k_fill
 refine L2.S2 (l:=PySem.Challenge.rw_LID) (n:=63) (k:=40) (x:="script") (CX:=λw=>..) (sp:=λ_=>My.sp_law) rfl (by cbv) rfl #[rfl,by cbv,by cbv] (λw h Y=>PySem.W.kIn_of Y) ?F ?S ?C
 case F=>
  intro w mg fa h KX G hmg
  have T:∃t,My.Txt (L2.KOf KX) t:=by
   dsimp only[L2.KOf] -- K must stand as «<heap const> w.params» for k_is
   refine' My.txt_mk ?e1 ?e2 ?e3 ..
   (case e1=>PySem.W.k_is) -- in the order:a name->its address->its object->its parts
   (case e2=>PySem.W.k_is)
   ..
  let#[t,T]:=T;have e0:=hmg.symm.trans^mg_of KX G T.law;cases e0 -- fa is the law's own address;exact#[_,λs u=>.of_eq rfl,λbase kb nb=>My.law_fn T kb nb] -- if «.of_eq rfl» comes too early:refine' #[_,?b,λbase kb nb=>My.law_fn T kb nb];exact λs u=>.of_eq rfl
 case S=>exact λw H a ns hl hO hS=>..
 case C=>exact ..
(the tactic k_is has no namespace:write k_is) -/
namespace L2
def CS(s:jP):Arguments:=match s with
 |.FunctionDef _ a _ _ _ _ _ _ _ _=>a
 |_=>{posonlyargs:=[],args:=[],vararg:=s_,kwonlyargs:=[],kw_defaults:=[],kwarg:=s_,defaults:=[]}
def Bc(s:jP):v_ jP:=match s with
 |.FunctionDef _ _ b _ _ _ _ _ _ _=>b
 |_=>[]
def AK(s:jP):lR:=match s with
 |.FunctionDef _ _ _ _ _ _ a _ _ _=>a
 |_=>{kind:=.function,names:=[],isGenerator:=u_,isCoroutine:=u_}
abbrev Fy:Vy:=λ_ _ _ _ _ _=>False
abbrev E0:XK:=λ_ _ _=>False
def aE{X:Cx}:JA Fy X E0:=λ_ _ _ _ _ _ _ h=>h.elim
structure Fun (K:Frag) (x qual:Str) (st:jP) (f:Db) (fd:jp):Prop where
 ex:∃(oc:Ev) (od:Option Db) (kV doc pm:Ev) (an:Option Db) (cdv ct:Ev) (osl:Array^Option Ev),
  fd=fnOf x qual (CS st) (Bc st) (AK st) .none kV doc pm an cdv ct/\K.lookup f=P3 #[oc,od,.func fd,osl]/\codeIn K cdv qual=t_
 kp:keepIn K^.ref f=t_
section
variable {P:Program}{w:World}{K:Frag}{mg:Str->w_ Value}{base:Heap}
def Fun.ok{x a:Str}{st:jP}{f:Db}{fd:jp}{N g:v_ Str}{k:Nat}{i:Sp}(F:Fun K x a st f fd)(S:Ab N g^AK st)(len:∀c H Q E,i c H Q E->c.length=g.length)
  (d:∀(e:Ev) (A:jY) (b:v_ Env) (s:Go) (H:Hp) (c:v_ V) (Q:VK) (E:XK),Room k^A.deeper^envOfC a (AK st) s.heap.objs.size f e->i c H Q E->
   ∃t,PSs (EG Fy P w K mg base N a (AK st) f e A b s H E).nox (Bc st) t/\t {nx:=λ_ m=>Q .non m,rt:=Q} (start N c) H):CU P w K mg base Fy (k+1) f fd g i:=by
 let#[u,v,y,n,z,B,e,C,o,rfl,p,j]:=F.ex;refine aI p j S len λA b s H c Q E r l=>?_;let#[t,h,q]:=d _ A _ s H c Q E r l;exact#[t,h.nox,q]
def Fun.binds{x a:Str}{st:jP}{f:Db}{fd:jp}{ps:v_ Str}(F:Fun K x a st f fd)
  (h:∀(d b e:Ev) (g:w_ Db) (c i:Ev) (j:v_ Ev),j.length=ps.length->bindArgs (fnOf x a (CS st) (Bc st) (AK st) .none d b e g c i) #[j,[]]=pure^ps.zip j):Binds K fd ps []:=by
 let#[m,n,d,b,e,g,c,i,k,rfl,o,l]:=F.ex;exact .all^h d _ e g _ i
def SN{x a:Str}{st:jP}{f:Db}{j:Ev}{m e:w_ Db}{g:Array^w_ Ev}{kV d h b i:Ev}(l:K.lookup f=P3 #[j,m,.func^fnOf x a (CS st) (Bc st) (AK st) .none kV d h e b i,g])
  (c:codeIn K b a=t_) (k:keepIn K^.ref f=t_):Fun K x a st f^fnOf x a (CS st) (Bc st) (AK st) .none kV d h e b i:=#[#[j,m,kV,_,h,e,_,i,_,rfl,l,c],k]
end
def La{A:jY}{k:Nat}(a:Room k A):A.units+1<cLine:=mh (Nat.add_le_add_left (by cbv) _) a.units
section
variable {X:Cx}
def pv(i:Nat){x:Str}{pos:Pos}(b:X.N[i]?=P3 x:=by rfl)(c:Vw X.env.scope x:=by first|exact TW rfl|exact jy (TW rfl)|exact jy (jy rfl))(hd:(x==("__debug__":Str))=u_:=by cbv)
  (a:(x==("__classdict__":Str))=u_:=by cbv):PE X (.Name x pos)^CA i:=FJ b c hd a
end
def Bl{A B:Prop}(h:B):if u_=t_ then A else B:=by
 grind
def Bv{A B:Prop}(h:A):if t_=t_ then A else B:=by
 grind
def DJ{c A B:Prop}[Decidable c](a:c->A)(b:¬c->B):if c then A else B:=by
 grind
section
variable {κ:Type}[DecidableEq κ]
def E5(a:v_ (κ×V))(k:κ):w_ V:=(a.find? λb=>decide (b.1=k)).map (·.2)
def putK(a:v_ (κ×V))(k:κ)(v:V):v_ (κ×V):=
 if(a.any λb=>decide (b.1=k))=t_ then a.map (λb=>if b.1=k then(b.1,v)else b)else a++[(k,v)]
def E9{p:κ×V}{r:v_ (κ×V)}{k:κ}(e:p.1=k):E5 (p::r) k=P3 p.2:=by simp[E5,e]
def E_{p:κ×V}{r:v_ (κ×V)}{k:κ}(e:¬p.1=k):E5 (p::r) k=E5 r k:=by simp[E5,e]
theorem PZ(k:κ):∀a:v_ (κ×V),(a.any λb=>decide (b.1=k))=(E5 a k).isSome
 |[]=>rfl
 |p::r=>by
  rw[List.any_cons]
  by_cases e:p.1=k
  .simp[E9 e,decide_eq_true e,Bool.true_or]
  .rw[E_ e,decide_eq_false e];exact PZ k r
def FU(a:v_ (κ×V))(k:κ)(v:V):(putK a k v).length<=a.length+1:=by
 unfold putK
 grind
def RelO.isSome_eq{o:w_ V}{u:w_ Ev}(r:RelO o u):o.isSome=u.isSome:=by
 cases o with
 |none=>cases u with
  |none=>rfl
  |some _=>exact(r).elim
 |some _=>cases u with
  |none=>exact(r).elim
  |some _=>rfl
def RelO.getD{o:w_ V}{u:w_ Ev}{d:V}{a:Ev}(r:RelO o u)(b:RelV d a):RelV (o.getD d)^u.getD a:=by
 cases o with
 |none=>cases u with
  |none=>exact b
  |some _=>exact(r).elim
 |some _=>cases u with
  |none=>exact(r).elim
  |some _=>exact r
def KV.val{a:v_ (κ×V)}{f:v_ (κ×Ev)}(r:KV a f)(k:κ):RelO (E5 a k)^valueAt f k:=by
 induction r with
 |nil=>exact lT
 | @cons p q l c h t i=>
  let#[g,j]:=h
  by_cases e:p.1=k
  .have d:=g.symm.trans e
   have b:valueAt (q::c) k=P3 q.2:=by simp[valueAt,d]
   rw[E9 e,b];exact j
  .have d:¬q.1=k:=λz=>e^g.trans z
   have b:valueAt (q::c) k=valueAt c k:=by simp[valueAt,d]
   rw[E_ e,b];exact i
def KV.any{a:v_ (κ×V)}{c:v_ (κ×Ev)}(r:KV a c)(k:κ):(a.any λb=>decide (b.1=k))=c.any λb=>decide (b.1=k):=by
 induction r with
 |nil=>rfl
 |cons h t d=>simp_all
def KV.repl{b:v_ (κ×V)}{c:v_ (κ×Ev)}(r:KV b c)(k:κ){y:V}{u:Ev}(f:RelV y u):
  KV (b.map λa=>if a.1=k then(a.1,y)else a) (c.map λa=>if a.1=k then(a.1,u)else a):=by
 induction r with
 |nil=>exact .nil
 |@cons p q g i h t d=>
  refine .cons ?_ d
  by_cases e:p.1=k
  .simp_all
  simp_all
def KV.put{kvs:v_ (κ×V)}{a:v_ (κ×Ev)}(r:KV kvs a)(k:κ){y:V}{u:Ev}(b:RelV y u):KV (putK kvs k y)^stored a k u:=by
 unfold putK stored;rw[r.any k]
 by_cases e:(a.any λc=>decide (c.1=k))=t_
 .rw[if_pos e,if_pos e];exact r.repl k b
 .rw[if_neg e,if_neg e];exact Paired.snoc r #[rfl,b]
def KV.length{a:v_ (κ×V)}{b:v_ (κ×Ev)}(r:KV a b):a.length=b.length:=Paired.length r
end
def JV{P:jM}{w:jT}{k:Key}{u:Ev}(r:RelV (kV k) u):(BH P w).is k u=t_:=by
 cases k with
 |inl i=>let#[t,e]:=(r);subst e;exact QH P w i t
 |inr x=>let#[t,e]:=(r);subst e;exact QG P w x t
theorem NQ{P:jM}{w:jT}:∀{a:v_ Key}{b:v_ Ev},Vals (a.map kV) b->ItemsAre (BH P w) a b
 |[],_,r=>by cases r;exact .nil
 |k::a,_,r=>by
  cases r with
  |cons h t=>exact .cons (JV h)^NQ t
abbrev KT(H:Hp):v_ (v_ Key×V)->v_ (v_ Key×Db×Ev)->Prop:=Paired λp q=>p.1=q.1/\H q.2.1=P3^.tup^p.1.map kV/\RelV p.2 q.2.2
def KT.val{H:Hp}{a:v_ (v_ Key×V)}{f:v_ (v_ Key×Db×Ev)}(r:KT H a f)(k:v_ Key):RelO (E5 a k) ((atKey f k).map (·.2)):=by
 induction r with
 |nil=>exact lT
 | @cons p q l c h t i=>
  let#[g,_,j]:=h
  by_cases e:p.1=k
  .have d:=g.symm.trans e
   have b:atKey (q::c) k=P3 q.2:=by simp[atKey,d]
   rw[E9 e,b];exact j
  .have d:¬q.1=k:=λz=>e^g.trans z
   have b:atKey (q::c) k=atKey c k:=by simp[atKey,d]
   rw[E_ e,b];exact i
def KT.repl{H:Hp}{a:v_ (v_ Key×V)}{c:v_ (v_ Key×Db×Ev)}(r:KT H a c)(k:v_ Key){y:V}{u:Ev}(f:RelV y u):
  KT H (a.map λb=>if b.1=k then(b.1,y)else b) (c.map^putAt k u):=by
 induction r with
 |nil=>exact .nil
 |@cons p q g i h t d=>
  refine .cons ?_ d;unfold putAt
  by_cases e:p.1=k
  .simp_all
  simp_all
def KT.put{H:Hp}{kvs:v_ (v_ Key×V)}{a:v_ (v_ Key×Db×Ev)}(r:KT H kvs a)(k:v_ Key){b:Db}{y:V}{u:Ev}(d:H b=P3^.tup^k.map kV)(c:RelV y u):
  KT H (putK kvs k y) (storedH a k b u):=by
 have e:(kvs.any λf=>decide (f.1=k))=(atKey a k).isSome:=by
  rw[PZ,(r.val k).isSome_eq,pG]
 unfold putK storedH;rw[e]
 by_cases q:(atKey a k).isSome=t_
 .rw[if_pos q,if_pos q];exact r.repl k c
 .rw[if_neg q,if_neg q];exact Paired.snoc r #[rfl,d,c]
def KT.keeps{H c:Hp}{a:v_ (v_ Key×V)}{d:v_ (v_ Key×Db×Ev)}(r:KT H a d)(f:∀b e,H b=P3^.tup e->c b=P3^.tup e):KT c a d:=
 Paired.mapP r λ_ _ z=>#[z.1,f _ _ z.2.1,z.2.2]
section
variable {P:Program}{w:World}{H:Hp}{h:Heap}{a:Addr}
def Z4{u:HO}(ok:HOk P w H h)(e:Rd H a u):ObjOk P w H h a u:=e.ok ok
def GX{b:v_ (Key×V)}(ok:HOk P w H h)(e:Rd H a^.dK b):b.length<=sizeLine/\(a==sysModules)=u_/\∃c,KV b c/\h.DictOf (BH P w) a c:=
 Z4 ok e
def aO{b:v_ (Key×V)}(ok:HOk P w H h)(e:H a=P3^.dK b):b.length<=sizeLine/\(a==sysModules)=u_/\∃c,KV b c/\h.DictOf (BH P w) a c:=GX ok^.inl e
def Gu{b:v_ Key}(ok:HOk P w H h)(e:H a=P3^.tup^b.map kV):(tupleKind^BH P w).is h b a:=by
 let#[_,c,r,o,d,f,n,g,_]:=(ok a _ e);exact#[o,_,n,d,f,g,by simpa using NQ r]
def Ja{b:v_ (v_ Key×V)}(ok:HOk P w H h)(e:Rd H a^.dT b):b.length<=sizeLine/\(a==sysModules)=u_ /\
  ∃d,KT H b d/\h.DictOfH (tupleKind^BH P w) a d:=by
 let#[z,y,d,r,o,f,g,i,j,k,n,s]:=(Z4 ok e);refine#[z,y,d,r,o,f,g,i,j,k,n,λx c=>?_,s]
 have all:∀{l:v_ _}{m:v_ _},KT H l m->∀x∈m,(tupleKind^BH P w).is h x.1 x.2.1:=by
  intro l m q
  induction q with
  |nil=>grind
  |@cons p q v A B t u=>
   intro x c
   rcases UF.mp c with e|c
   .exact Gu ok^by grind
   .exact u x c
 exact all r x c
def fb{b:v_ (v_ Key×V)}(ok:HOk P w H h)(e:H a=P3^.dT b):b.length<=sizeLine/\(a==sysModules)=u_ /\
  ∃c,KT H b c/\h.DictOfH (tupleKind^BH P w) a c:=Ja ok^.inl e
end
def DGet(H:Hp)(a:Db)(y:V)(r:w_ V):Prop:=
 (∃c k,Rd H a^.dK c/\y=kV k/\r=E5 c k)\/∃c k b,Rd H a^.dT c/\y=.ref b/\H b=P3^.tup^k.map kV/\r=E5 c k
def DPut(H:Hp)(a:Db)(y v:V)(d:Hp):Prop:=
 (∃c k,H a=P3^.dK c/\y=kV k/\c.length<sizeLine/\d=A4 H a^.dK^putK c k v) \/
 ∃c k b,H a=P3^.dT c/\y=.ref b/\H b=P3^.tup^k.map kV/\c.length<sizeLine/\d=A4 H a^.dT^putK c k v
theorem DGet.k{H:Hp}{a:Db}{b:v_ (Key×V)}{k:Key}(e:H a=P3^.dK b):DGet H a (kV k)^E5 b k:=.inl #[_,k,.inl e,rfl,rfl]
theorem DPut.k{H:Hp}{a:Db}{b:v_ (Key×V)}{k:Key}{v:V}(e:H a=P3^.dK b)(c:b.length<sizeLine):DPut H a (kV k) v^A4 H a^.dK^putK b k v:=.inl #[_,k,e,rfl,c,rfl]
section
variable {X:Cx}{zG:v_ (Addr×Obj)}{Z:St}{H:Hp}{s:Shared}{a:Addr}{y v:V}{u r:Value}{o:w_ V}{A:Around}{E:Value->Shared->Prop}
def Inv.big(I:Inv X zG Z H s):sysModules<s.heap.objs.size:=Nat.lt_trans (by cbv) (I.mod.glob.keeps I.bk).lt
def Vc{Q:Ev->Go->Prop}(B:A.units+1<cLine)(I:Inv X zG Z H s)(g:DGet H a y^P3 v)(t:RelV y u)(h:∀f x,Inv X zG Z H x->RelV v f->Q f x):
  wpAny (model X.prog X.w) A (getItem (.ref a) u) Q E s:=by
 rcases g with⟨i,k,e,j,l⟩|⟨i,k,b,e,j,C,l⟩
 .subst j
  let#[z,D,F,c,m]:=GX I.hok e;let#[f,n,d]:=RelO.some_of (v:=v) (o:=valueAt F k) (by rw[l];exact c.val k);exact wpAny_getItem_of (JV t) m.mapOf n^h f _ (I.tok _) d
 .subst j
  cases(show u=jE b from t);let#[z,D,G,c,m]:=Ja I.hok e;let#[f,n,d]:=RelO.some_of (v:=v) (o:=(atKey G k).map (·.2)) (by rw[l];exact c.val k);let#[p,J,q]:=jx.mp n;refine wpAny_getItem_heap (l8 B) (Gu I.hok C) m J ?_;rw[q];exact h f _ (I.tok _) d
def h9{Q:Ev->Go->Prop}(p:A.units+1<cLine)(I:Inv X zG Z H s)(g:DGet H a y o)(m:RelV y u)(h:∀n,Inv X zG Z H n->Q (.bool o.isSome) n):
  wpAny (model X.prog X.w) A (compareOp .In u^.ref a) Q E s:=by
 rcases g with⟨d,k,e,f,l⟩|⟨d,k,b,e,f,t,l⟩
 .subst f
  let#[z,i,x,c,j]:=GX I.hok e;refine wpAny_in_of (JV m) i j.mapOf ?_;rw[←(c.val k).isSome_eq,←l];exact h _^I.tok _
 .subst f
  cases(show u=jE b from m);let#[z,i,B,c,j]:=Ja I.hok e;refine wpAny_in_heap (l8 p) (Gu I.hok t) i j ?_;have q:=(c.val k).isSome_eq;rw[pG]at q;rw[←q,←l];exact h _^I.tok _
def Zq{Q:Ev->Go->Prop}(p:A.units+1<cLine)(I:Inv X zG Z H s)(g:DGet H a y o)(m:RelV y u)(h:∀n,Inv X zG Z H n->Q (.bool (!o.isSome)) n):
  wpAny (model X.prog X.w) A (compareOp .NotIn u^.ref a) Q E s:=by
 rcases g with⟨d,k,e,f,l⟩|⟨d,k,b,e,f,t,l⟩
 .subst f
  let#[z,i,x,c,j]:=GX I.hok e;refine wpAny_notIn_of (JV m) i j.mapOf ?_;rw[←(c.val k).isSome_eq,←l];exact h _^I.tok _
 .subst f
  cases(show u=jE b from m);let#[z,i,B,c,j]:=Ja I.hok e;refine wpAny_notIn_heap (l8 p) (Gu I.hok t) i j ?_;have q:=(c.val k).isSome_eq;rw[pG]at q;rw[←q,←l];exact h _^I.tok _
def Of{c:jI}{e:Nat}{d:HO}(I:Inv X zG Z H s)(f:f7^H a)(g:lz a s.heap c)(h:∃q,c.get? a=P3 q)(new:ObjOk X.prog X.w (A4 H a d) c a d):
  Inv X zG Z (A4 H a d) {s with heap:=c,toks:=e}:=
 I.write f (.inl rfl) (λb q i z=>(g.2 b i).trans z) h new
def X3{P:jM}{w:jT}{f:Hp}{e:jI}{b:v_ (Key×V)}{c:v_ (Key×Ev)}(z:b.length<=sizeLine)(hd:(a==sysModules)=u_)(d:KV b c)(g:e.DictOf (BH P w) a c):
  ObjOk P w f e a (.dK b):=#[z,hd,c,d,g]
def Vb{D:Hp}{Q:Unit->Go->Prop}(M:A.units+1<cLine)(I:Inv X zG Z H s)(g:DPut H a y v D)(F:RelV y u)(rv:RelV v r)(h:∀G,Inv X zG Z D G->Q () G):
  wpAny (model X.prog X.w) A (setItem (.ref a) u r) Q E s:=by
 rcases g with⟨d,k,e,m,l,n⟩|⟨d,k,b,e,m,J,l,n⟩
 .subst m n
  let#[z,p,N,f,t]:=aO I.hok e;have x:N.length<=sizeLine:=by rw[←f.length];exact z
  have B:(putK d k v).length<=sizeLine:=by have:=FU d k v;lk
  refine wpAny_setItem_pairs (hsz:=x) (JV F) t λK i C=>h _ ?_;have O:∃q,K.get? a=P3 q:=let #[q,_,_,j,_]:=i;#[q,j]
  exact Of I (by rw[e];exact lT) C O^X3 B p (f.put k rv) i
 .subst m n
  cases(show u=jE b from F);let#[z,p,P,f,t]:=fb I.hok e;have x:P.length<=sizeLine:=by rw[←Paired.length f];exact z
  have B:(putK d k v).length<=sizeLine:=by have:=FU d k v;lk
  refine wpAny_setItem_heap (hsz:=x) (l8 M) (Gu I.hok J) t λK i C=>h _ ?_;let#[q,R,S,j,T,U,V,_,W]:=i;refine Of I (by rw[e];exact lT) C #[q,j] #[B,p,_,(f.put k J rv).keeps λc Y L=>?_,q,R,S,j,T,U,V,W];rw[AW^fE L e λz=>nomatch z];exact L
end
def c8(i:jX):Prop:=∀a b,subscripted i u_ a b=operate [a,b]^getItem a b
def Ys{b:jM}{w:jT}{A:jY}{E:Ev->Go->Prop}{s:Go}{f:Env}{value a:jX}{pos:Pos}{T l:String}{Q:Ev->Go->Prop}
  (m:typeLookup (.type T) "__getitem__"=pure^P3^.builtin l) (n:c8 a)
  (h:wpAny (model b w) A (eval value f) (λo e=>wpAny (model b w) A (eval a f) (λi c=>c.TypeIs o T/\wpAny (model b w) A (getItem o i) Q E c) E e) E s):
  wpAny (model b w) A (eval (.Subscript value a pos) f) Q E s:=by
 refine Subscript_^jh h (λo e g=>jh g (λi c d=>?_) λ_ _ x=>x) λ_ _ x=>x;let#[p,d]:=d;refine Ch ?_;refine Ch^lV p m ?_
 first
  |exact Re (Ch (by
  rw[n o i];exact wpAny_operating^jh d (λr k j=>Ch^wpAny_letTemporaryGo^Re j) λ_ _ x=>x))
  |grind
  |grind
def Qa{X:Cx}{f:v_ (Db×Obj)}{Z:St}{H:Hp}{s:Go}{a:Db}{y:V}{o:w_ V}(I:Inv X f Z H s)(g:DGet H a y o):s.TypeIs (.ref a) "dict":=by
 rcases g with⟨c,k,e,_,_⟩|⟨c,k,b,e,_,_,_⟩
 .let#[_,_,h,_,d]:=GX I.hok e
  exact d.typeIs
 .let#[_,_,i,_,d]:=Ja I.hok e
  exact d.typeIs
def d9(b ty:TE):TE:=λZ H Q=>b Z H λx c=>ty Z c λy H2=>∃a v,x=.ref a/\DGet H2 a y^P3 v/\Q v H2
def eE(c ty d:TE):TS:=λD Z H=>d Z H λv e=>c Z e λx H2=>ty Z H2 λy f=>∃a b,x=.ref a/\DPut f a y v b/\D.nx Z b
section
variable {X:Cx}{o i value:Expr}{pos pos':Pos}{td ty tv:TE}
def OC(d:X.A.units+1<cLine)(e:PE X o td)(f:PE X i ty)(j:c8 i):PE X (.Subscript o i pos)^d9 td ty:=by
 intro w s Z H Q I h;refine Ys PySem.F.slot_dict_getitem.lookup j^thn (e _ s Z H _ I h) λu k #[x,l,m,n,p]=>thn (f _ k Z l _ m p) λz B #[y,H2,c,q,a,v,ex,g,r]=>?_;subst ex;obtain rfl:u=jE a:=n;exact#[Qa c g,Vc d c g q λC D t b=>#[v,H2,t,b,r]]
def J0(b:X.A.units+1<cLine)(c:PE X o td)(d:PE X i ty)(e:PE X value tv)(f:swapsWith value (P3^.Subscript o i pos') pos.line X.env=pure u_):
  PS X (.Assign [.Subscript o i pos'] value pos) (eE td ty tv):=by
 intro G s Z H D I h;refine wpAny_Assign_Subscript (thn (e _ s Z H _ I h) λr j #[v,k,l,m,n]=>thn (c _ j Z k _ l n) λu p #[x,H2,q,t,w]=>thn (d _ p Z H2 _ q w) λJ K #[y,L,z,B,a,C,ex,g,E]=>?_) f;subst ex;obtain rfl:u=jE a:=t;exact Vb b z g B m λM F=>#[Z,C,F,E]
end
def QZ{P:jM}{w:jT}{H:Hp}(h:jI)(a:sysModules<h.objs.size):ObjOk P w H (h.push {cls:=.type "dict",data:=.dict #[]}) h.objs.size^.dK []:=
 #[eq _,beq_eq_false_iff_ne.mpr^jv^jL a,[],.nil,Heap.DictOf.new h]
def ay:TE:=λ_ H Q=>∀p,H p=s_->Q (.ref p)^A4 H p^.dK []
section
variable {X:Cx}{pos:Pos}
def P7:PE X (.Dict [] [] pos) ay:=λa s Z H Q I h=>
 wpAny_Dict_empty #[.ref _,_,I.laid (λ_ _ q=>FM _ q) (Op _)^QZ _ I.big,rfl,h _^I.hok.fresh^Op _]
end
def RP:v_ (TE×TE)->St->Hp->(v_ (V×V)->Hp->Prop)->Prop
 |[],_,H,Q=>Q [] H
 |(a,b)::r,Z,H,Q=>a Z H λx c=>b Z c λy H2=>RP r Z H2 λd e=>Q ((x,y)::d) e
abbrev VV:v_ (V×V)->v_ (Ev×Ev)->Prop:=Paired λp q=>RelV p.1 q.1/\RelV p.2 q.2
def gO(X:Cx)(pos:Pos)(b:v_^w_ jX)(a:v_ jX)(c:v_ (TE×TE)):Prop:=
 ∀(d:v_ (Db×Obj)) (s:Go) (Z:St) (H:Hp) (Q:v_ (V×V)->Hp->Prop),Inv X d Z H s->RP c Z H Q->
  wpAny (model X.prog X.w) X.A (evalPairs^pairTrees b a X.env pos) (λg h=>∃e f,Inv X d Z f h/\VV e g/\Q e f) X.xe s
def Y4{X:Cx}{pos:Pos}:gO X pos [] [] []:=λa s Z H Q I h=>pairTrees_nil_walk #[[],H,I,.nil,h]
def W0{X:Cx}{pos:Pos}{k v:jX}{c:v_^w_ jX}{d:v_ jX}{e f:TE}{a:v_ (TE×TE)}(g:PE X k e)(i:PE X v f)(j:gO X pos c d a):
  gO X pos (P3 k::c) (v::d) ((e,f)::a):=λC s Z H Q I h=>
 pairTrees_cons_walk (thn (g _ s Z H _ I h) λu l #[x,m,n,o,p]=>thn (i _ l Z m _ n p) λD q #[y,H2,r,t,w]=>
  thn (j _ q Z H2 _ r w) λE F #[G,z,A,b,B]=>#[_,z,A,.cons #[o,t] b,B])
def LU(a more:v_ (Key×V)):v_ (Key×V):=more.foldl (λb c=>putK b c.1 c.2) a
def KV.merge:∀{a:v_ (Key×V)}{d:v_ (Key×Ev)}{b:v_ (Key×V)}{c:v_ (Key×Ev)},KV a d->KV b c->KV (LU b a)^merged c d:=by
 intro a d b c r
 induction r generalizing b c with
 |nil=>intro q;exact q
 | @cons p q g i h t e=>
  intro f
  exact e (by
   have:=f.put p.1 h.2
   simp_all)
theorem GV:∀(more a:v_ (Key×V)),(LU a more).length<=a.length+more.length
 |[],a=>by show a.length<=a.length+0;lk
 |p::r,a=>by
  have b:=GV r^putK a p.1 p.2;have c:=FU a p.1 p.2;show(LU _ r).length<=_
  grind
theorem Ln{P:jM}{w:jT}:∀{d:v_ (Key×V)}{f:v_ (Ev×Ev)},VV (d.map λg=>(kV g.1,g.2)) f->∃e,Carries (BH P w) f e/\KV d e
 |[],_,r=>by cases r;exact#[[],lT,.nil]
 | p::d,_,r=>by
  cases r with
  |@cons a b j k h t=>
   let#[e,c,q]:=Ln t;let#[l,i]:=b;exact#[(p.1,i)::e,#[JV h.1,rfl,c],.cons #[rfl,h.2] q]
def d8(b:v_ (TE×TE)):TE:=λZ H Q=>∀p,H p=s_->RP b Z (A4 H p^.dK []) λd H2=>H2 p=P3^.dK []/\∃a:v_ (Key×V),d=a.map (λc=>(kV c.1,c.2))/\a.length<=15/\Q (.ref p)^A4 H2 p^.dK^LU [] a
def Y_{X:Cx}{pos:Pos}{b:v_^w_ jX}{d:v_ jX}{f:v_ (TE×TE)}(h:gO X pos b d f)(g:b.all (·.isSome)=t_)(n:b.length=d.length)(p:b≠[])
  (k:b.length<=15):PE X (.Dict b d pos)^d8 f:=by
 intro r s Z H Q I q;have t:=I.hok.fresh^Op s.heap.objs.size;have u:=I.laid (a:=s.heap.objs.size) (o:=.dK []) (h':=s.heap.push {cls:=.type "dict",data:=.dict #[]}) (t':=s.toks) (λ_ _ q=>FM _ q) (Op _)^QZ s.heap I.big;refine wpAny_Dict_walk (knd:=BH X.prog X.w) g n p k^thn (h r _ Z _ _ u^q _ t) λM N #[O,H2,m,l,e,i,v,R,x]=>?_;subst v;let#[y,c,A]:=Ln (P:=X.prog) (w:=X.w) l;let#[z,B,C,D,E]:=aO m.hok e;cases D;refine#[y,c,E,λh' j F=>#[.ref s.heap.objs.size,_,?_,rfl,x]]
 have G:(LU [] i).length<=sizeLine:=by
  have J:=GV i [];rw[kW]at J;rw[jj];lk
 have K:∃q,h'.get? s.heap.objs.size=P3 q:=let #[q,_,_,L,_]:=j;#[q,L]
 exact Of m (by rw[e];exact lT) F K^X3 G B (A.merge .nil) j
structure M1 (X:Cx) (o:jX) (m:Str) (apos:Pos) (e:jX) (cpos:Pos):Prop where
 base:attributeBase o m X.env^eval o X.env=eval o X.env
 few:((backTo cpos^starEach [e] X.env).all (λx=>!x.1)&&(backToKw cpos^keywordEach [] X.env).all (λx=>x.1.isSome)
  && decide (([e]:List jX).length+([]:List lh).length+(if([]:List lh).isEmpty then 0 else 1)<30))=t_
 line:(apos.endLine==cpos.line)=t_
 trees:backTo cpos^starEach [e] X.env=[(u_,eval e X.env)]
structure M2 (X:Cx) (o:jX) (m:Str) (apos:Pos) (e f:jX) (cpos:Pos):Prop where
 base:attributeBase o m X.env^eval o X.env=eval o X.env
 few:((backTo cpos^starEach [e,f] X.env).all (λx=>!x.1)&&(backToKw cpos^keywordEach [] X.env).all (λx=>x.1.isSome)
  && decide (([e,f]:List jX).length+([]:List lh).length+(if([]:List lh).isEmpty then 0 else 1)<30))=t_
 line:(apos.endLine==cpos.line)=t_
 trees:backTo cpos^starEach [e,f] X.env=[(u_,eval e X.env),(u_,eval f X.env)]
def gQ(H:Hp)(a:Db):Prop:=(∃b,Rd H a^.dK b)\/∃b,Rd H a^.dT b
def SK{X:Cx}{k:v_ (Db×Obj)}{Z:St}{H:Hp}{s:Go}{a:Db}(I:Inv X k Z H s)(d:gQ H a):
  s.TypeIs (.ref a) "dict"/\(∀b,jE a=.ref b->∃c,s.heap.get? b=P3 c/\c.dict=s_)/\(a==sysModules)=u_:=by
 rcases d with⟨g,e⟩|⟨g,e⟩
 .let#[_,h,l,_,f]:=GX I.hok e
  refine#[f.typeIs,λb q=>?_,h];cases q;let#[c,_,_,i,j,_]:=f;exact#[c,i,j.2.1]
 .let#[_,h,m,_,f]:=Ja I.hok e
  refine#[f.typeIs,λb q=>?_,h];cases q;let#[c,_,_,i,j,_]:=f;exact#[c,i,j.2.1]
section
variable {X:Cx}{zG:v_ (Addr×Obj)}{Z:St}{H:Hp}{s:Shared}{a:Addr}{y d:V}{u r:Value}{o:w_ V}{A:Around}{E:Value->Shared->Prop}
def cU{Q:Ev->Go->Prop}(t:A.units+1<cLine)(I:Inv X zG Z H s)(g:DGet H a y o)(n:RelV y u)(h:∀p q,Inv X zG Z H q->RelV (o.getD .non) p->Q p q):
  wpAny (model X.prog X.w) A (call (.builtin "dict.get") [.ref a,u]) Q E s:=by
 rcases g with⟨i,k,e,j,l⟩|⟨i,k,b,e,j,v,l⟩
 .subst j
  let#[z,m,B,c,f]:=GX I.hok e;refine oP PySem.F.slot_dict_get f.typeIs PySem.F.entry_dict_get (PySem.F.args_dict_get_2 _ _) (meets_dict_get (BH X.prog X.w) a (JV n) m) #[_,f.mapOf,h _ _ (I.tok _) ?_];rw[l];exact(c.val k).getD rfl
 .subst j
  cases(n);let#[z,m,x,c,f]:=Ja I.hok e;refine oP PySem.F.slot_dict_get f.typeIs PySem.F.entry_dict_get (PySem.F.args_dict_get_2 _ _) (meetsH_dict_get _ a b m) #[l8 t,k,x,Gu I.hok v,f,h _ _ (I.tok _) ?_];rw[l];exact(c.val k).getD rfl
def cT{Q:Ev->Go->Prop}(v:A.units+1<cLine)(I:Inv X zG Z H s)(g:DGet H a y o)(n:RelV y u)(p:RelV d r)(h:∀q t,Inv X zG Z H t->RelV (o.getD d) q->Q q t):
  wpAny (model X.prog X.w) A (call (.builtin "dict.get") [.ref a,u,r]) Q E s:=by
 rcases g with⟨i,k,e,j,l⟩|⟨i,k,b,e,j,x,l⟩
 .subst j
  let#[z,m,C,c,f]:=GX I.hok e;refine oP PySem.F.slot_dict_get f.typeIs PySem.F.entry_dict_get (PySem.F.args_dict_get_3 _ _ _) (meets_dict_get_default (BH X.prog X.w) a (JV n) m r) #[_,f.mapOf,h _ _ (I.tok _) ?_];rw[l];exact(c.val k).getD p
 .subst j
  cases(n);let#[z,m,B,c,f]:=Ja I.hok e;refine oP PySem.F.slot_dict_get f.typeIs PySem.F.entry_dict_get (PySem.F.args_dict_get_3 _ _ _) (meetsH_dict_get_default _ a b m r) #[l8 v,k,B,Gu I.hok x,f,h _ _ (I.tok _) ?_];rw[l];exact(c.val k).getD p
end
def a9(c ty:TE):TE:=λZ H Q=>c Z H λx b=>∃a,x=.ref a/\gQ b a/\ty Z b λy H2=>∃o,DGet H2 a y o/\Q (o.getD .non) H2
def az(d ty e:TE):TE:=λZ H Q=>d Z H λx b=>∃a,x=.ref a/\gQ b a/\ty Z b λy H2=>e Z H2 λz c=>∃o,DGet c a y o/\Q (o.getD z) c
section
variable {X:Cx}{o e f:Expr}{apos cpos:Pos}{td ty tx:TE}
def W_(i:X.A.units+1<cLine)(j:PE X o td)(k:PE X e ty)(m:M1 X o "get" apos e cpos):PE X (.Call (.Attribute o "get" apos) [e] [] cpos)^a9 td ty:=by
 intro C s Z H Q I h;refine wpAny_Call_method m.base m.few m.line PySem.F.plainAttrs_dict PySem.F.slot_dict_get PySem.F.type_dict_get^thn (j _ s Z H _ I h) λu l #[x,n,c,p,a,ex,d,q]=>?_;subst ex;obtain rfl:u=jE a:=p;let#[r,t,_]:=SK c d;exists r,t;rw[m.trees];exact lr rfl (nB^kU^thn (k _ l Z n _ c q) λD E #[y,H2,v,w,G,g,z]=>k8^cU i v g w λJ K B b=>#[_,H2,B,b,z])
def W9(i:X.A.units+1<cLine)(j:PE X o td)(k:PE X e ty)(l:PE X f tx)(m:M2 X o "get" apos e f cpos):PE X (.Call (.Attribute o "get" apos) [e,f] [] cpos)^az td ty tx:=by
 intro M s Z H Q I h;refine wpAny_Call_method m.base m.few m.line PySem.F.plainAttrs_dict PySem.F.slot_dict_get PySem.F.type_dict_get^thn (j _ s Z H _ I h) λu n #[x,p,c,q,a,ex,d,r]=>?_;subst ex;obtain rfl:u=jE a:=q;let#[t,v,_]:=SK c d;exists t,v;rw[m.trees]
 exact lr rfl (nB (kU (thn (k _ n Z p _ c r) λN w #[y,H2,B,C,D]=>
  kU (thn (l _ w Z H2 _ B D) λO P #[z,E,G,J,R,g,K]=>k8^cT i G g C J λS T L b=>#[_,E,L,b,K]))))
end
end L2
set_option maxHeartbeats 4000000
namespace L2
section
def Sa{g:Env}:∀(f:v_ (Str×lg)) (h:v_ (Str×Db)),(∀x,(x,j_)∈f->∃c,g.cells.lookup x=P3 c)->(∀x c,h.lookup x=P3 c->g.cells.lookup x=P3 c)->
  ∃i,(forIn f h fun(x:Str×lg) (r:v_ (Str×Db))=>(if(x.2==j_)=t_ then do let a ←cellOf g x.1;pure^lW ((x.1,a)::r) else pure^lW r:Sem^ForInStep^v_ (Str×Db)))=(pure i:Sem _) /\
   (∀x c,i.lookup x=P3 c->g.cells.lookup x=P3 c)/\(∀x,((x,j_)∈f\/∃c,h.lookup x=P3 c)->∃c,i.lookup x=P3 c):=by
 intro f
 induction f with
 |nil=>
  intro h _ m;exact#[h,rfl,m,λx d=>d.elim (λz=>absurd z^by simp) λz=>z]
 | cons p r w=>
  intro h q m;let#[n,k]:=p
  by_cases s:k=j_
  .subst s
   let#[c,y]:=q n Rs;have j:cellOf g n=pure c:=by simp only[cellOf,y]
   let#[i,e,a,b]:=w ((n,c)::h) (λx d=>q x^Sc _ d) (λx o d=>by
    rw[lj]at d;cases t:x==n with
    |true=>
     rw[t]at d;have u:P3 c=P3 o:=d;cases u
     have:x=n:=by simpa using t
     rw[this];exact y
    |false=>rw[t]at d;exact m x o d)
   refine#[i,?_,a,λx d=>b x ?_]
   .rw[nP]
    simp only[beq_self_eq_true,if_true,j,pure_bind];exact e
   .by_cases l:x=n
    .subst l
     exact .inr #[c,by simp[lj]]
    .rcases d with d|⟨o,d⟩
     .rcases UF.mp d with d|d
      .cases d;exact absurd rfl l
      .exact .inl d
     .refine .inr #[o,?_]
      have:(x==n)=u_:=by simpa using l
      rw[lj,this];exact d
  .have v:(k==j_)=u_:=by simpa using s
   let#[i,e,a,b]:=w h (λx d=>q x^Sc _ d) m;refine#[i,?_,a,λx d=>b x ?_]
   .rw[nP]
    simp only[v,kC,if_false,pure_bind];exact e
   .rcases d with d|d
    .rcases UF.mp d with d|d
     .cases d;exact absurd rfl s
     .exact .inl d
    .exact .inr d
def Lm{scope:lR}{env:Env}(h:∀x,(x,j_)∈scope.names->∃c,env.cells.lookup x=P3 c):
  ∃d,closureFor scope env=pure d/\(∀x c,d.lookup x=P3 c->env.cells.lookup x=P3 c)/\(∀x,(x,j_)∈scope.names->∃c,d.lookup x=P3 c):=by
 let#[d,e,a,b]:=Sa _ [] h (λx c f=>by simp at f);refine#[d,?_,a,λx f=>b x^.inl f];simp[closureFor]
 simp_all
variable {prog:Program}{w:World}{A:Around}{R:Result->Shared->Prop}{s:Shared}
def Og{t a u:jX}{y:v_ jX}{p:lR}{pos:Pos}{it z:Ev}{b:Env}(I:Nat->Go->Prop)
  (B:∀n s,I n s->wpAny (model prog w) A (pyNext it) (λr d=>match r with
   |none=>R (.ok .next) d
   | some v=>wpAny (model prog w) A (letOwnedTupleGo a it v) (λ_ e=>wpAny (model prog w) A (assign a b v) (λ_ i=>
     wpAny (model prog w) A (forIn y t_ λc r=>if r=t_ then do let ok ←isTrue c b^eval c b;pure^lW ok else pure^lW r) (λok f=>
      if ok=t_ then wpAny (model prog w) A (eval t b) (λx j=>
       wpAny (model prog w) A (call (.builtin "list.append") [z,x]) (λ_ k=>∃m,m<n/\I m k) (λ_ _=>False) j) (λ_ _=>False) f
      else ∃m,m<n/\I m f) (λ_ _=>False) i) (λ_ _=>False) e) (λ_ _=>False) d) (λ_ _=>False) s)
  (n:Nat) (h:I n s):
  codeAny (model prog w) A (.compLoop (.ListComp t [#[a,u,y,0]] p pos) 0 it z b) R s:=by
 refine codeAny_loop rfl I (λn s F=>?_) n h;refine wpAny_noted ?_;refine Ch^n_^Ch^jh (B n s F) (λr d l=>?_) λ_ _ g=>g.elim;cases r with
 |none=>exact Re l
 | some v=>
  refine Ch^jh l (λ_ e q=>?_) λ_ _ g=>g.elim;refine Ch^jh q (λ_ i C=>Ch^jh C (λok f o=>?_) λ_ _ g=>g.elim) λ_ _ g=>g.elim;cases ok with
  |false=>exact Re #[rfl,o]
  |true=>
   exact Ch^Ch^jh o (λx j D=>Ch^jh D (λ_ k E=>Re^Re #[rfl,E]) λ_ _ g=>g.elim) λ_ _ g=>g.elim
end
def BF(X:Cx)(a:lR)(b:v_ Str)(c:v_ (Str×Db))(C:Db)(s:Go)(H:Hp)(ex:v_ Db):Cx where
 prog:=X.prog
 w:=X.w
 K:=X.K
 mg:=X.mg
 base:=X.base
 A:=X.A
 N:=b
 s₀:=s
 H₀:=H
 env:=compEnvC a c C X.env
 outer:=X.stack
 stack:=X.stack
 ex:=ex
 fn:=λ_=>u_
 calm:=t_
 pn:=[]
 xe:=λ_ _=>False
def Cw(a:v_^w_ Nat)(Z:St):St:=a.map λo=>match o with
 |some i=>(Z[i]?).getD s_
 |none=>s_
def ZT(o:w_ lg):Bool:=match o with
 |some .cell=>t_
 |some .free=>t_
 |_=>u_
def Tw{o:w_ lg}(h:ZT o=t_):o=P3 .cell\/o=P3 .free:=by
 unfold ZT at h
 split at h
 .grind
 .grind
 .cases h
def isFree(o:w_ lg):Bool:=match o with
 |some .free=>t_
 |_=>u_
def VP{o:w_ lg}(h:isFree o=t_):o=P3 .free:=by
 unfold isFree at h
 split at h
 .rfl
 .cases h
def Xi(o:w_ lg):Bool:=match o with
 |some .local=>t_
 |_=>u_
def Xh{o:w_ lg}(h:Xi o=t_):o=P3 .local:=by
 unfold Xi at h
 split at h
 .rfl
 .cases h
def Xk(k:ScopeKind):Bool:=match k with
 |.function=>t_
 |_=>u_
def Xj{k:ScopeKind}(h:Xk k=t_):k=.function:=by
 unfold Xk at h
 split at h
 .rfl
 .cases h
def gs(b a:lR)(p:Str×lg):Bool:=match p.2 with
 |.cell=>u_
 |.free=>ZT^a.names.lookup p.1
 |.local=>Xi^b.names.lookup p.1
 |_=>t_
def h8(x:w_ Str)(y:Str):Bool:=match x with
 |some z=>z==y
 |none=>u_
def cJ{x:w_ Str}{y:Str}(h:h8 x y=t_):x=P3 y:=by
 unfold h8 at h
 split at h
 .grind
 .cases h
def Lo(b a:lR)(N:v_ Str):v_ Str->v_^w_ Nat->Bool
 |[],[]=>t_
 |x::c,P3 j::d=>isFree^b.names.lookup x&&h8 (N[j]?) x&&ZT^a.names.lookup x&&Lo b a N c d
 |_::c,s_::d=>Lo b a N c d
 |_,_=>u_
def Jf(b a:lR)(N c:v_ Str)(d:v_^w_ Nat):Bool:=Xk b.kind&&b.names.all^gs b a&&Lo b a N c d
theorem Fb{d b:lR}{N:v_ Str}:∀{c:v_ Str}{a:v_^w_ Nat},Lo d b N c a=t_->a.length=c.length
 |[],[],_=>rfl
 |x::e,P3 j::a,h=>by
  unfold Lo at h;rw[jN]at h;rw[jC,jC,Fb h.2]
 |x::e,s_::a,h=>by
  unfold Lo at h;rw[jC,jC,Fb h]
 |[],P3 _::_,h=>by cases h
 |[],s_::_,h=>by cases h
 |_::_,[],h=>by cases h
theorem Oi{e a:lR}{N:v_ Str}:∀{f:v_ Str}{d:v_^w_ Nat},Lo e a N f d=t_->∀{k:Nat}{x:Str}{j:Nat},f[k]?=P3 x->d[k]?=P3^P3 j->
  e.names.lookup x=P3 .free/\N[j]?=P3 x/\(a.names.lookup x=P3 .cell\/a.names.lookup x=P3 .free)
 |[],_,_,k,x,j,b,_=>by simp at b
 |_::_,[],h,_,_,_,_,_=>by unfold Lo at h;cases h
 | y::g,P3 i::d,h,k,x,j,b,c=>by
  unfold Lo at h;rw[jN,jN,jN]at h;cases k with
  |zero=>
   simp at b c;subst b c;exact#[VP h.1.1.1,cJ h.1.1.2,Tw h.1.2]
  |succ k=>exact Oi h.2 (k:=k) (by simpa using b)^by simpa using c
 |y::g,s_::d,h,k,x,j,b,c=>by
  unfold Lo at h;cases k with
  |zero=>simp at c
  |succ k=>exact Oi h (k:=k) (by simpa using b)^by simpa using c
def VJ{a:v_^w_ Nat}{Z:St}{k:Nat}{v:V}(h:(Cw a Z)[k]?=P3^P3 v):∃j,a[k]?=P3^P3 j/\Z[j]?=P3^P3 v:=by
 unfold Cw at h;rw[jG]at h;cases e:a[k]? with
 |none=>simp_all
 | some o=>
  rw[e]at h;cases o with
  |none=>cases h
  |some j=>
   cases q:Z[j]? with
   |none=>simp_all
   |some w=>simp_all
theorem DP{a:Env}:∀{b:v_ (Str×lg)}{x:Str},b.lookup x=P3 .free->
  (b.map fun(n,k)=>if(k==j_&&a.scope.kind==.function&&a.kindOf n==P3 .cell)then(n,oA)else(n,k)).lookup x=P3 .cell \/
  (b.map fun(n,k)=>if(k==j_&&a.scope.kind==.function&&a.kindOf n==P3 .cell)then(n,oA)else(n,k)).lookup x=P3 .free
 |[],_,h=>by simp at h
 | (n,k)::r,x,h=>by
  have d:=@DP a r x;show lq x ((if(k==j_&&a.scope.kind==.function&&a.kindOf n==P3 .cell)=t_ then(n,oA)else(n,k))::_)=_\/lq x ((if(k==j_&&a.scope.kind==.function&&a.kindOf n==P3 .cell)=t_ then(n,oA)else(n,k))::_)=_
  by_cases e:(k==j_&&a.scope.kind==.function&&a.kindOf n==P3 .cell)=t_
  .rw[if_pos e]
   cases c:x==n with
   |true=>exact .inl^by simp only[lj,c]
   |false=>
    simp only[lj,c]at h ⊢;exact d h
  .rw[if_neg e]
   cases c:x==n with
   |true=>
    simp_all
   |false=>
    simp only[lj,c]at h ⊢;exact d h
def Ra{env:Env}{a:lR}(c:∀y∈a.names,y.2≠.cell){x:Str}(h:(relabel a env).names.lookup x=P3 .cell\/(relabel a env).names.lookup x=P3 .free):(x,j_)∈a.names:=by
 have e:(x,oA)∈(relabel a _).names\/(x,j_)∈(relabel a _).names:=h.elim (λz=>.inl^PySem.mem_of_lookup z) λz=>.inr^PySem.mem_of_lookup z
 have d:∀k,(k=.cell\/k=.free)->(x,k)∈(relabel a env).names->(x,j_)∈a.names:=by
  intro k f b;unfold relabel at b
  grind
 exact e.elim (d _ (.inl rfl))^d _ (.inr rfl)
section
variable {X:Cx}{zG:v_ (Addr×Obj)}{Z:St}{H:Hp}{s:Shared}
structure CompOk (X:Cx) (sc:lR) (N':List Str) (js:List^Option Nat):Prop where
 kind:sc.kind=.function
 cell:∀y∈sc.names,y.2≠.cell
 free:∀x,(x,j_)∈sc.names->X.env.scope.names.lookup x=P3 .cell\/X.env.scope.names.lookup x=P3 .free
 names:∀y∈sc.names,y.2=.local->sc.names.lookup y.1=P3 .local
 cap:Lo sc X.env.scope X.N N' js=t_
def CompOk.of{c:lR}{d:v_ Str}{f:v_^w_ Nat}(h:Jf c X.env.scope X.N d f=t_):CompOk X c d f:=by
 unfold Jf at h;rw[jN,jN,kr]at h;let#[#[g,a],i]:=h;refine#[Xj g,λy b e=>?_,λx j=>?_,λy b e=>?_,i]
 .have q:=a y b
  unfold gs at q
  simp_all
 .have q:=a _ j
  exact Tw q
 .have q:=a y b
  unfold gs at q;rw[e]at q;exact Xh q
def QQ{D:lR}{E:v_ Str}{K:v_^w_ Nat}{B:v_ (Str×Db)}{F:v_ Db}{f:jI}{V:Nat}(I:Inv X zG Z H s)(W:X.calm=t_)(O:CompOk X D E K)
  (d:∀x c,B.lookup x=P3 c->X.env.cells.lookup x=P3 c) (k:∀x,(x,j_)∈D.names->∃c,B.lookup x=P3 c)
  (G:∀b∈F,Fx X zG H b) (Y:∀b∈F,∃o,s.heap.get? b=P3 o)
  (L:f.Ns (s.heap.objs.size+1) λ_=>s_) (J:∀b o,s.heap.get? b=P3 o->f.get? b=P3 o) (hD:∃n,f.get? s.heap.objs.size=P3 {cls:=.type "list",data:=.seq #[] n}):
  Inv (BF X D E B (s.heap.objs.size+1) s H F) [] (Cw K Z) (A4 H s.heap.objs.size^.lst []) {s with heap:=f,toks:=V}:=by
 have fr:∀a,s.heap.objs.size<=a->H a=s_:=λa ha=>I.hok.fresh ha
 have h:∀x c,B.lookup x=P3 c->c<s.heap.objs.size:=λx c e=>by
  let#[v,q]:=I.cell x c^d x c e;exact q.lt
 have ok:(BF X D E B (s.heap.objs.size+1) s H F).Ok:=by
  refine#[I.ok.mod,O.kind,I.ok.glob,I.ok.blt,jk _,λx y c C M=>I.ok.inj x y c (d x c C)^d y c M,λx N=>?_,λx c N=>?_,λ_=>I.ok.hd W,I.ok.frames,.inl rfl,λb t=>#[?_,λx c e=>?_],I.bs,jJ I.ok.bsz I.sz,λb o e t=>?_,λb t P=>?_,I.stack,I.stkFree]
  .exact k x^Ra (env:=X.env) O.cell N
  .exact absurd (show u_=t_ from N) jR
  .let#[o,e]:=Y b t
   exact jL^ke^Uf e
  .exact(G b t).2.2.2.2.1 x c^d x c e
  .rcases(G b t).2.2.2.1 with z|z
   .exact I.ok.noex b o e z
   .have C:b<X.base.objs.size:=Uf e
    exact absurd (jW C^jJ I.ok.bsz z)^j7 _
  .rcases UF.mp^I.stkSub b P with z|z
   .exact(G b t).2.1 z
   .exact(G b t).2.2.1 z
 exists ok,rfl,I.bare,?_,#[_,L,λi x v C M h3=>?_],λx c e=>?_,?_,λx c e=>?_,λp hp=>absurd (show p∈([]:v_ (Db×Obj))from hp)^by simp,?_
 .exact Un.laid J (Op _)^fr _^Op _
 .let#[j,e1,e2]:=VJ M
  let#[T,c2,A]:=Oi O.cap C e1;let#[m,_,hl]:=I.loc;let#[u,r,l]:=hl j x v c2 e2^.inr A;refine#[u,r,.inr #[DP T,?_]]
  rcases l with⟨l1,_⟩|⟨_,c,l2,l3⟩
  .have Q:X.env.scope.names.lookup x=P3 .local:=l1
   rcases A with A|A <;>(rw[Q]at A;cases A)
  .let#[R,U]:=k x^PySem.mem_of_lookup T
   have:R=c:=jH^(d x R U).symm.trans l2
   subst this;let#[S,w,g]:=id l3;exact#[R,U,S,J _ _ w,g]
 .let#[v,S,w,g]:=I.cell x c^d x c e
  exact#[v,S,J _ _ w,g]
 .show A4 H s.heap.objs.size (.lst []) (s.heap.objs.size+1)=s_
  rw[AW^Nat.succ_ne_self _];exact fr _^jk _
 .show A4 H s.heap.objs.size (.lst []) c=s_
  rw[AW^jL^h x c e];exact I.freeC x c^d x c e
 .refine I.hok.laid J (Op _) ?_
  let#[n,e]:=hD;exact#[eq _,[],n,.nil,e]
 .unfold Cw
  show(K.map _).length=E.length;rw[No];exact Fb O.cap
def Un.but{fs ex:v_ Db}{H d:Hp}{h a f:jI}{C:Db}(u:Un fs ex H d h a)(k:h.get? C=s_)(g:∀b,b≠C->f.get? b=a.get? b):Un fs ex H d h f:=by
 have i:∀{b:Db}{o:Obj},h.get? b=P3 o->b≠C:=λ{b o} e z=>by grind
 refine#[λb o e n a c=>(g b^i e).trans^u.keep b o e n a c,λb o e n a c=>?_,u.free,λb o e a=>?_,u.tups,u.frzs,u.tbls]
 .let#[j,q]:=u.slot b o e n a c
  exact#[j,(g b^i e).trans q]
 .let#[l,q]:=u.there b o e a
  simp_all
def LZ{j:lR}{k:v_ Str}{l:v_ (Str×Db)}{C:Db}{g:v_ Db}{c:v_ (Db×Obj)}{m:St}{d:Hp}{f:Go}{h':jI}(I:Inv X zG Z H s)(n:∀b∈g,Fx X zG H b)(p:s.heap.objs.size<=C)
  (J:Inv (BF X j k l C s H g) c m d f) (h:∀b,b≠C->h'.get? b=f.heap.get? b):Inv X zG Z d {f with heap:=h'}:=by
 have r:d C=s_:=J.free
 refine I.call' J.os (Un.but J.base (by
  cases e:s.heap.get? C with
  |none=>rfl
  |some o=>exact absurd (Uf e)^ng.mpr p) h) (λa o e=>(J.hok a o e).stay (λb u i q=>(h b (λz=>by
   grind)).trans q) (λ_ q=>q) λ_ _ q=>q) J.bare λb i=>?_
 .let#[y,t,A,v,w,x]:=n b i
  exact#[v,t,w,x]
end
def fw(X:Cx)(a:v_ jX)(t:TT):Prop:=
 ∀(b:v_ (Db×Obj)) (s:Go) (Z:St) (H:Hp) (Q:Bool->Hp->Prop),Inv X b Z H s->t Z H Q->
  wpAny (model X.prog X.w) X.A (forIn a t_ λc r=>if r=t_ then do let ok ←isTrue c X.env^eval c X.env;pure^lW ok else pure^lW r) (TP X b Z Q) X.xe s
def gX:TT:=λ_ H Q=>Q t_ H
def Y6{X:Cx}:fw X [] gX:=λa s Z H Q I h=>wpAny_tests_nil #[H,I,h]
def Y5{X:Cx}{c:jX}{t:TT}(h:PT X c t):fw X [c] t:=λa s Z H Q I q=>wpAny_tests_one^h _ s Z H Q I q
def WL(X:Cx)(e:lR)(f:v_ Str)(z:v_^w_ Nat)(A h:jX)(j:v_ jX)(B:TI):TE:=λZ H Q=>B Z H λJ q=>∀l,q l=s_->X.K.lookup l=s_->∀k C s n o,∃(g:TG) (r:TT) (t:TE) (W:Nat->Nat->St->Hp->Prop),
 PG (BF X e f k C s n o) A g/\fw (BF X e f k C s n o) j r/\PE (BF X e f k C s n o) h t/\(∃m,W 0 m (Cw z Z)^A4 q l^.lst [])/\∀i m u a,W i m u a->
 (J.stop i a/\Q (.ref l) a)\/(J.go i a/\∀x H2,J.yld i a x H2->g x u H2 λd D=>r d D λb v=>if b=t_ then t d v λy w=>∃p,w l=P3^.lst p/\p.length<sizeLine/\∃c,c<m/\W (i+1) c d^A4 w l^.lst (p++[y]) else ∃c,c<m/\W (i+1) c d v)
section
variable {X:Cx}{tg elt iter:Expr}{ifs:v_ Expr}{sc:Scope}{pos:Pos}{N':v_ Str}{js:v_^w_ Nat}{wi:TI}{g:TG}{tt:TT}{te:TE}
def NX{zG:v_ (Db×Obj)}{Z:St}{H:Hp}{s:Go}{h:v_ (Str×Db)}{C l it:Db}{a:v_ Db}{U:Nat->jI->Prop}{J:It}{s3:Go}{Q:VK}{R:Result->Go->Prop}{W:Nat->Nat->St->Hp->Prop}{m0:Nat}{zI:St}{V:Hp}
  (I:Inv X zG Z H s) (hf:∀b∈a,Fx X zG H b) (a3:∀b∈a,b<s.heap.objs.size) (hC:s.heap.objs.size<=C)
  (T:Turn X.prog X.w X.K tg J a it U)
  (hg:PG (BF X sc N' h C s H a) tg g) (ht:fw (BF X sc N' h C s H a) ifs tt) (he:PE (BF X sc N' h C s H a) elt te)
  (hW:∀i m k c,W i m k c->
   (J.stop i c/\Q (.ref l) c)\/(J.go i c/\∀x H2,J.yld i c x H2->g x k H2 λY H3=>tt Y H3 λb z=>if b=t_ then te Y z λy H5=>∃E,H5 l=P3^.lst E/\E.length<sizeLine/\∃f,f<m/\W (i+1) f Y^A4 H5 l^.lst (E++[y]) else ∃f,f<m/\W (i+1) f Y z))
  (hR:∀k c G,Inv (BF X sc N' h C s H a) [] k c G->Q (.ref l) c->R (.ok .next) G)
  (I3:Inv (BF X sc N' h C s H a) [] zI V s3) (t3:U 0 s3.heap) (f3:∀b∈a,V b=s_) (w0:W 0 m0 zI V):
  codeAny (model X.prog X.w) X.A (.compLoop (.ListComp elt [#[tg,iter,ifs,0]] sc pos) 0 (.ref it) (.ref l)^compEnvC sc h C X.env) R s3:=by
 have j:∀{c:Hp},(∀b∈a,c b=s_)->∀b∈a,Fx (BF X sc N' h C s H a) [] c b:=λhn b t=>by
  have q:=I3.ok.exf b t;refine#[hn b t,q.1,I3.ok.exfs b t,.inl t,q.2,λp hp=>absurd (show p∈([]:v_ (Db×Obj))from hp)^by simp]
 refine Og (λn G=>∃i k c,Inv (BF X sc N' h C s H a) [] k c G/\U i G.heap/\(∀b∈a,c b=s_)/\W i n k c) ?_ m0 #[0,zI,V,I3,t3,f3,w0];rintro n s4 ⟨i,L,z,I4,M,N,w4⟩
 rcases hW i n L z w4 with⟨O,qn⟩|⟨go,step⟩
 .refine thn (T.done (BF X sc N' h C s H a) rfl rfl rfl rfl i [] s4 L z (λ_ _=>False) I4 (j N) M O) λr s5 #[hr,I5]=>?_
  subst hr;exact hR L z s5 I5 qn
 .refine thn (T.item (BF X sc N' h C s H a) rfl rfl rfl rfl i [] s4 L z (λ_ _=>False) I4 (j N) M go) λr s5 #[u,hr,h5]=>?_
  subst hr;refine thn h5 λ_ s6 #[x,H6,I6,r6,y6,B,a0]=>?_;have a1:=I6.pinned (j a0)^T.obj _ _ B;refine thn (hg _ s6 L H6 x u _ a1 r6^step x H6 y6) λ_ s7 #[zL,H7,I7,q7]=>?_
  have again:∀{zJ:St}{D:Hp}{F:Go}{f:Nat},Inv (BF X sc N' h C s H a) ([]++LA a s6.heap) zJ D F->f<n->W (i+1) f zJ D->∃m,m<n/\∃i k c,Inv (BF X sc N' h C s H a) [] k c F/\U i F.heap/\(∀b∈a,c b=s_)/\W i m k c:=λ{zJ D F f} P S w9=>by
   refine#[f,S,i+1,zJ,D,P.unpinned,T.keep _ _ _ B λb t o e=>(P.pin (b,o)^jU _^jU _^Ej t e).1,λb t=>?_,w9];let#[o,e,d]:=T.obj _ _ B b t;exact(P.pin (b,o)^jU _^jU _^Ej t e).2.1
  refine thn (ht _ s7 zL H7 _ I7 q7) λok s8 #[H8,I8,q8]=>?_;cases ok with
  |false=>
   have a2:∃f,f<n/\W (i+1) f zL H8:=q8;let#[f,S,w8]:=a2;show ∃m,m<n/\_;exact again I8 S w8
  |true=>
   refine thn (he _ s8 zL H8 _ I8 q8) λy F #[yv,D,P,ry,q9]=>?_;let#[E,hl,hz,f,S,w9]:=q9;refine thn (BA (X:=BF X sc N' h C s H a) _ F zL D (.ref l) [yv] (.ref l) [y] (λv c=>v=.non/\c=A4 D l^.lst (E++[yv])) P rfl (.cons ry .nil) #[l,E,yv,rfl,rfl,hl,hz,rfl,rfl]) λ_ sa #[v,Ha,Ia,_,_,eH]=>?_;subst eH;exact again Ia S w9
def ZA(Y:X.calm=t_)(N':v_ Str)(js:v_^w_ Nat)(hi:PI X tg iter wi)
  (hB:Jf sc X.env.scope X.N N' js=t_)
  (hs:∀x,foldedSetIterable iter X.env x=pure x:=by intro _;rfl):
  PE X (.ListComp elt [#[tg,iter,ifs,0]] sc pos) (WL X sc N' js tg elt ifs wi):=by
 intro S s Z H Q I h;have O:CompOk X sc N' js:=CompOk.of hB;let#[z,l,M,B]:=Lm (scope:=sc) (env:=X.env) λx hx=>I.ok.has x^O.free x hx;rw[eval_ListComp];refine wpAny_comprehension_free (use:=s_) rfl hs l O.kind O.names (thn (hi S s Z H _ I h) λv s1 h1=>thn h1 λa0 c h2=>?_);let#[U,G,tn,J,H2,e,C,T,p,L,hq]:=h2;subst e
 have r:X.K.lookup c.heap.objs.size=s_:=by
  cases q:X.K.lookup c.heap.objs.size with
  |none=>rfl
  |some o=>exact absurd (Uf^C.kIn _ _ q)^j7 _
 let#[g,tt,te,W,hg,ht,he,#[m0,w0],hW]:=hq c.heap.objs.size (C.hok.fresh^Op _) r z (c.heap.objs.size+1) c H2 G;refine j1^wpAny_newFunctionEnv O.cell (by intro y hy;simp at hy) (λf d a=>?_) O.kind
 dsimp only at d a ⊢
 generalize t:c.heap.push {cls:=.type "list",dict:=s_,data:=.seq ([]:v_ Ev).toArray}=Hh at d a ⊢;have i:Hh.objs.size=c.heap.objs.size+1:=by rw[←t,ku]
 have D:∀b∈G,b<c.heap.objs.size:=λb j=>by
  let#[o,e,_]:=T.obj _ _ p b j;exact Uf e
 have E:∀b o,c.heap.get? b=P3 o->f.get? b=P3 o:=λb o e=>a.extBut b o (by rw[i];exact jL^ke^Uf e)^FM _ (t▸FM _ e);have hD:∃n,f.get? c.heap.objs.size=P3 {cls:=.type "list",data:=.seq #[] n}:=#[_,a.extBut _ _ (by rw[i];exact jL^pX _)^FM _ (t▸XV _ rfl)]
 have I3:∀u,Inv (BF X sc N' z (c.heap.objs.size+1) c H2 G) [] (Cw js Z) (A4 H2 c.heap.objs.size^.lst []) {c with heap:=f,toks:=u}:=λu=>
  QQ C Y O M B L (λb j=>let #[o,e,_]:=T.obj _ _ p b j;#[o,e]) (by rw[←i];exact d) E hD
 have F:tn 0 f:=T.keep _ _ _ p λb j o e=>E b o e
 have P:∀b∈G,A4 H2 c.heap.objs.size (.lst []) b=s_:=λb j=>by
  rw[AW^jL^D b j];exact(L b j).1
 have k:∀u,codeAny (model X.prog X.w) X.A (.compLoop (.ListComp elt [#[tg,iter,ifs,0]] sc pos) 0 (.ref U) (.ref c.heap.objs.size)^compEnvC sc z (c.heap.objs.size+1) X.env)
   (compPost (model X.prog X.w) X.A X.xe s_ (EP X S Z Q) (.ref c.heap.objs.size) (c.heap.objs.size+1)) {c with heap:=f,toks:=u}:=λu=>by
  refine NX (W:=W) (m0:=m0) (Q:=Q) C L D (jk _) T hg ht he hW (λzZ H' s' V q'=>?_) (I3 u) F P w0;let#[m,hn,_]:=V.loc;exact#[m,hn,λh' R=>#[.ref _,H',LZ C L (jk _) V λb j=>R.2 b j,rfl,q']]
 rw[show(newEnv sc Hh.objs.size X.env.globals z X.env.qual s_ .none (P3 X.env) builtinsNs).locals=c.heap.objs.size+1 from i];show codeAny (model X.prog X.w) X.A (.compStart (.ListComp elt [#[tg,iter,ifs,0]] sc pos) 0 (.ref U) (.ref c.heap.objs.size)^compEnvC sc z (c.heap.objs.size+1) X.env) _ _;exact codeAny_compStart_list (k _)^T.self _ 0 _ _ _ F^k _
end
structure Fly (B:jI) (l:List Env) (a C:Db) (dx:Option Db) (h:jI):Prop where
 stays:B.StaysIn h
 new:B.get? a=s_
 frames:h.FunFrames B l
 obj:∃vs sl tb,h.get? a=P3 #[.ref C,dx,.fields vs,sl]/\vs[2]?=P3 .none/\vs[1]?=P3 tb/\(tb=.none\/∃T oT ts,tb=.ref T/\B.get? T=s_/\T≠a/\h.get? T=P3 oT/\oT.data=.fields ts/\3<ts.size)
section
variable {M:Model}{A:Around}{E:Value->Shared->Prop}{s:Shared}{B:Heap}{env:Env}{outer l:v_ Env}{L a C:Addr}{dx:w_ Addr}{Q:Unit->Shared->Prop}
def size_of{b:Array Ev}{i:Nat}{x:Ev}(h:b[i]?=P3 x):i<b.size:=(nI.mp h).1
def NT{d:Array Ev}{r:Array^w_ Ev}{g O:Ev}{P:Bool}(t:A.frames=P3 (env::outer))(R:env.frame=P3 L)(m:s.heap.FunFrames B (env::outer))(S:B.StaysIn s.heap)(y:B.get? a=s_)
  (u:s.heap.get? a=P3 #[.ref C,dx,.fields d,r]) (T:d[1]?=P3 O) (D:d[2]?=P3 .none)
  (h:∀v,Fly B (env::outer) a C dx v->s.heap.UpToSlots v->Q () {s with heap:=v}):
  wpAny M A (do let f ←frameOf env;let n ←entryPlaceOf L P;let b ←qJ g f .none (rawInt L) .none n;setField (.ref a) 1 b) Q E s:=by
 have F:=size_of T;have Y:=size_of D
 have U:a∉(env::outer).filterMap (·.frame):=λq=>by
  let#[_,o,G,c]:=m.mem q;rw[u]at G;cases G;exact c d rfl
 refine Ch^wpAny_frameOf_fun t m R λk p=>?_;refine Ch^wpAny_entryPlaceOf λn w=>?_;unfold qJ newFields;refine Ch^j1 ?_^w.sizeOk5 _ _ _ _ _;have H:k.get? a=P3 #[.ref C,dx,.fields d,r]:=(p.2.1 a U).trans u;have I:B.StaysIn k:=λb o q=>(p.2.1 b λz=>by rw[(m.mem z).1]at q;cases q).trans^S b o q;generalize i:({cls:=.type "traceback",dict:=s_,data:=.fields ([g,.ref L,.none,rawInt L,.none]++(if n.isEmpty then T0 6 jd else n)).toArray}:Obj)=ob;have J:(k.push ob).get? a=P3 #[.ref C,dx,.fields d,r]:=FM _ H;refine ln J rfl F ?_;have K:k.objs.size≠a:=lS^Uf H;have V:=jr (lc (·.setIfInBounds 1^jE k.objs.size)) J rfl
 have W:((k.push ob).update a (lc (·.setIfInBounds 1^jE k.objs.size))).get? k.objs.size=P3 ob:=by
  rw[jF _ _^jv K];exact XV k^by subst i;rfl
 have x:∀b o,b≠a->k.get? b=P3 o->((k.push ob).update a (lc (·.setIfInBounds 1^jE k.objs.size))).get? b=P3 o:=λb o X q=>by
  rw[jF _ _^jv X];exact FM _ q
 have N:∀b o,s.heap.get? b=P3 o->(∀d,o.data≠.fields d)->b≠a:=λb o q c z=>by
  rw[z,u]at q;cases q;exact c d rfl
 refine h _ #[λb o q=>x b o (λz=>by rw[z,y]at q;cases q)^I b o q,y,m.of_keeps λb o q c=>?_,_,_,_,V,?_,?_,.inr #[k.objs.size,ob,_,rfl,I.fresh,K,W,by subst i;rfl,?_]] λb o q c=>?_
 .let#[j,e]:=p.2.2 b o q
  exact#[_,x b _ (N b o q c) e,rfl]
 .rw[Array.getElem?_setIfInBounds_ne^by cbv];exact D
 .simp[F]
 .simp only[f8,jD,jC,kW];lk
 .let#[j,e]:=p.2.2 b o q
  exact#[j,x b _ (N b o q c) e]
def Fly.mark{T:Db}{g:Obj}{h d:Array Ev}{x:Ev}{f:Array^w_ Ev}(F:Fly B l a C dx s.heap)(m:s.heap.get? a=P3 #[.ref C,dx,.fields d,f])(n:d[1]?=P3^.ref T)(p:d[2]?=P3 .none)(r:B.get? T=s_)(i:T≠a)(t:s.heap.get? T=P3 g)
  (hd:g.data=.fields h) (v:3<h.size):Fly B l a C dx (s.heap.update T (lc (·.setIfInBounds 3 x)))/\s.heap.UpToSlots (s.heap.update T (lc (·.setIfInBounds 3 x)))/\(s.heap.update T (lc (·.setIfInBounds 3 x))).get? a=P3 #[.ref C,dx,.fields d,f]:=by
 have e:∀b,b≠T->(s.heap.update T (lc (·.setIfInBounds 3 x))).get? b=s.heap.get? b:=λb u=>jF _ _^jv u
 have j:∀b o,s.heap.get? b=P3 o->(∀d,o.data≠.fields d)->b≠T:=λb o q c z=>by
  simp_all
 have k:=(e a^jv i).trans m;refine#[#[λb o q=>(e b λz=>by grind).trans^F.stays b o q,F.new,F.frames.of_keeps λb o q c=>#[o,(e b^j b o q c).trans q,rfl],d,f,_,k,p,n,.inr #[T,_,_,rfl,r,i,jr _ t^m8^lG hd _,lG hd _,by simp_all]],λb o q c=>#[o.slots,(e b^j b o q c).trans q],k]
def Gx(F:Fly B l a C dx s.heap)(h:∀c,Fly B l a C dx c->s.heap.UpToSlots c->Q () {s with heap:=c}):wpAny M A (setFlight (.ref a) s_) Q E s:=by
 let#[q,r,t,d,j,e,k]:=F.obj;refine Ch (jf d rfl e ?_)
 rcases k with rfl|⟨T,u,v,rfl,m,n,f,g,i⟩
 .exact Re^h _ F^qK _
 .let#[o,p,_]:=F.mark d e j m n f g i
  exact ln f g i^h _ o p
def QT(c:A.frames=P3 (env::outer))(g:env.frame=P3 L)(F:Fly B (env::outer) a C dx s.heap)
  (h:∀d,Fly B (env::outer) a C dx d->s.heap.UpToSlots d->Q () {s with heap:=d}):wpAny M A (noteFrame (.ref a) env) Q E s:=by
 let#[D,G,H,i,j,f,p]:=F.obj;unfold noteFrame;simp only[g];refine Ch (jf i rfl f ?_)
 rcases p with rfl|⟨T,I,q,rfl,r,t,k,m,n⟩
 .rw[if_neg^by cbv]
  exact NT c g F.frames F.stays F.new i f j h
 .rw[if_pos (show(jE T !=jd)=t_ by simp)]
  obtain⟨x,u⟩:∃x,q[3]?=P3 x:=#[_,kZ n];refine Ch^jf k m u ?_
  by_cases e:(x==rawInt L)=t_
  .rw[if_pos e]
   exact Re^h _ F^qK _
  .rw[if_neg e]
   let#[o,v,w]:=F.mark (x:=jd) i f j r t k m n;refine Ch^ln k m n ?_;exact NT c g o.frames o.stays o.new w f j λd y z=>h d y^v.trans z
def VT(d:A.frames=P3 (env::outer))(e:env.frame=P3 L)(F:Fly B (env::outer) a C dx s.heap)
  (h:∀c,Fly B (env::outer) a C dx c->s.heap.UpToSlots c->Q () {s with heap:=c}):wpAny M A (leaving env^.ref a) Q E s:=Ch^QT d e F λc f g=>Gx f λi j k=>h i j^g.trans k
def Fly.tail(F:Fly B (env::outer) a C dx s.heap):Fly B outer a C dx s.heap:=#[F.stays,F.new,F.frames.2.2,F.obj]
end
section
variable {A:Around}{E:Value->Shared->Prop}{R:Result->Shared->Prop}{h:Heap}{g:Array GenState}{d:Drawn}{t:Nat}{os:OsState}
variable {nm q:Str}{C N f:Addr}{bs bm:v_ Value}{hdct:Bool}{sn:v_ Str}{sub:v_ Value}{ab:Bool}{col:w_ Bool}{dd:w_ Addr}{k0 k1 k2 k3 k5:w_ Value}{newId:String}
def B5(C t:Db):Obj:={cls:=.ref C,data:=.fields #[ .ref t,.none,.none,.none,.bool u_,.none]}
def f9(x:Db)(R:Result->Go->Prop)(r:Result)(a:Go):Prop:=match r with
 |.ok (.ret v)=>v=.none/\R (.ok^.ret^.ref x) a
 |.ok _=>False
 |.error e=>R (.error e) a
def Rl{s:Go}{env:Env}{x:Sem Ev}{Q:Flow->Go->Prop}{M:Model}(hbase:bm.contains^.type "BaseException"=t_)(hh:A.handled=s_)
  (hx:wpAny M A x (λv s₁=>∃e dx vs sl,v=.ref e/\s₁.heap.get? C=P3^excClassObj nm q C N bs bm hdct sn sub ab col dd k0 k1 k2 k3 k5 newId /\
   s₁.heap.get? e=P3 #[.ref C,dx,.fields vs,sl]/\vs[1]?=P3 .none/\E (.ref e) s₁) E s):
  wpAny M A (raiseStmt env (P3 x) s_) Q E s:=by
 have hcB:(jE C::bm).contains^.type "BaseException"=t_:=by grind
 unfold raiseStmt;refine Ch^jh hx (λv s₁ h₁=>?_) λ_ _ x=>x;let#[e,dx,vs,sl,rfl,hC,he,h1,hE]:=h₁
 repeat (first|omega|omega|(with_reducible refine kP hC ?_;rw[hcB])|wp_step)
 rw[h1];refine Re ?_;exact Re^wpAny_raiseNew_none hh hE
def VU{M:Model}{e D N':Db}{oe:Obj}{nm' q':Str}{bs' bmD:v_ Ev}{hdct':Bool}{sn':v_ Str}{sub':v_ Ev}{ab':Bool}{col':w_ Bool}{dd':w_ Db}{l0 l1 l2 l3 l5:w_ Ev}{newId':String}{Q:Bool->Go->Prop}
  (hC:h.get? C=P3^excClassObj nm q C N bs bm hdct sn sub ab col dd k0 k1 k2 k3 k5 newId) (hD:h.get? D=P3^excClassObj nm' q' D N' bs' bmD hdct' sn' sub' ab' col' dd' l0 l1 l2 l3 l5 newId') (hbase:bmD.contains^.type "BaseException"=t_)
  (he:h.get? e=P3 oe) (hcls:oe.cls=.ref C) (hq:Q ((jE C::bm).contains^.ref D) #[h,g,d,t,os]):wpAny M A (excMatches (.ref e)^.ref D) Q E #[h,g,d,t,os]:=by
 have hcB:(jE D::bmD).contains^.type "BaseException"=t_:=by grind
 have f:=tc_notTuple;generalize hb:(jE C::bm).contains^.ref D=b at hq;unfold excMatches
 repeat (first|(with_reducible refine kA he ?_;rw[hcls])|omega|(with_reducible refine kP hD ?_;rw[hcB])|wp_step)
 refine kP hC ?_;rw[hb];cases b <;>(wp_walk;exact hq)
end
def C4:v_ Ev:=[.type "ValueError",.type "Exception",.type "BaseException",.type "object"]
structure XC (K:Frag) (nm:Str) (C U:Db):Prop where
 obj:∃q N bs sn sub ab col dd k0 k1 k2 k3 k5,K.lookup C=P3 (excClassObj nm q C N bs (.ref U::C4) t_ sn sub ab col dd k0 k1 k2 k3 k5 "ValueError.__new__")
 up:∃q N bs sn sub ab col dd k0 k1 k2 k3 k5 hd,K.lookup U=P3 (excClassObj "ThinError" q U N bs C4 hd sn sub ab col dd k0 k1 k2 k3 k5 "ValueError.__new__")
 kp:keepIn K^.ref C=t_
 ga:PySem.W.findIn K (.ref C) "__getattribute__"=P3 (P3^.builtin "BaseException.__getattribute__")
 gt:PySem.W.findIn K (.ref C) "__getattr__"=P3 s_
 sa:PySem.W.findIn K (.ref C) "__setattr__"=P3 (P3^.builtin "object.__setattr__")
 at_:nsIn K mainGlobals nm=P3 (P3^.ref C)
 atU:nsIn K mainGlobals "ThinError"=P3 (P3^.ref U)
 ca:PySem.W.findIn K (.ref C) "__class__"=P3 (P3^.builtin "object.__class__")
 nw:PySem.W.findIn K (.ref C) "word"=P3 s_
 nn:PySem.W.findIn K (.ref C) "number"=P3 s_
 nr:PySem.W.findIn K (.ref C) "row"=P3 s_
section
variable {prog:Program}{w:World}{A:Around}{E:Value->Shared->Prop}{s:Shared}{K:Frag}{nm name:Str}{x C U:Addr}{v:Value}{R:Result->Shared->Prop}
def XC.cls(c:XC K nm C U):∃a,PySem.W.clsIn K C=P3 a/\a.mro=.ref C::.ref U::C4/\a.hasDict=t_/\a.name=nm:=by
 let#[q,N,f,g,b,h,d,i,j,k,l,m,n,e]:=c.obj;refine#[_,by unfold PySem.W.clsIn;rw[e],rfl,rfl,rfl]
def Th{n:Obj}{o:w_ Obj}{d:Tok}(X:K.In s.heap)(c:XC K nm C U)(I:PySem.W.InstAt s.heap x n C o)(p:PySem.W.findIn K (.ref C) name=P3 s_)
  (h:∀b,wpAny (model prog w) A.in1 (Builtin.ObjectAttr.storeInOwnDict (.ref x) (.ref C) (.str name d) name v b)
   (λi g=>match i with|.done f=>R (.ok f) g|.again c'=>c'.quiet=t_/\codeAny (model prog w) A c' R g) (λe g=>R (.error e) g) s):
  codeAny (model prog w) A (.call (.builtin "object.__setattr__") #[[.ref x,.str name d,v],[]]) R s:=by
 have a:=PySem.F.store_ValueError;let#[q,l,m,_]:=c.cls;have j:PySem.W.Looks (model prog w) s.heap (isInstance (.ref x)^.type "object") t_:=I.type.andThen (PySem.W.looks_mroIn X^by unfold PySem.W.mroIn;rw[l,Option.bind_some,m];rfl);refine mJ a.slot.plain a.entry^@PySem.W.check_slot (model prog w) _ _ s "object.__setattr__" "object" "__setattr__" (.ref x) [.str name d,v] [] _ a.kind a.split j (a.args (.ref x) (.str name d) v) ?_;have k:PySem.W.Looks (model prog w) s.heap (mroOf^.ref C) q.mro:=(PySem.W.looks_clsIn X l).andThen .now;rw[PySem.W.osa_eq,refuse_eq];refine Ch^Ch^I.type.here^Ch^k.here ?_;rw[m,refuseLoop_ref,refuseLoop_ref,show refuseLoop (.ref x) "__setattr__" C4=pure ()from a.passes _];exact Re^Ch^I.type.here^Ch^(PySem.W.looks_findIn X p).here^Ch^Re^h _
def WV{f:Array Ev}{g:Array^w_ Ev}{Q:Unit->Go->Prop}(X:K.In s.heap)(c:XC K nm C U)(hx:s.heap.get? x=P3 #[.ref C,s_,.fields f,g])(r:PySem.W.findIn K (.ref C) name=P3 s_)
  (h:∀d t,d.get? x=P3 #[.ref C,P3 s.heap.objs.size,.fields f,g]->d.Ns1 s.heap.objs.size (λy=>if y=name then P3 v else s_)->(∀b o,b≠x->s.heap.get? b=P3 o->d.get? b=P3 o)->Q () {s with heap:=d,toks:=t}):
  wpAny (model prog w) A (setAttr (.ref x) name v) Q E s:=by
 let#[M,u,N,z,_]:=c.cls;have J:PySem.W.InstAt s.heap x #[.ref C,s_,.fields f,g] C s_:=#[hx,rfl,rfl,trivial];refine PySem.W.set_plain X J c.sa^Th (s:={s with toks:=s.toks+1}) X c J r λb=>?_;refine Ch^Re^Ch^Ch^wpAny_loadPart hx^Ch^PySem.W.Looks.here (s:={s with toks:=s.toks+1}) (PySem.W.looks_clsIn X u) ?_;rw[z];have i:(s.heap.push {cls:=.type "dict",data:=.dict #[]}).get? x=P3 #[.ref C,s_,.fields f,g]:=FM _ hx;have n:x≠s.heap.objs.size:=jL^Uf hx;show wpAny _ _ (alloc _ >>=_) _ _ _;refine Ch^wpAny_alloc^Ch^wpAny_update i^Re ?_;generalize a:((s.heap.push {cls:=.type "dict",data:=.dict #[]}).update x λo=>{cls:=o.cls,dict:=P3 s.heap.objs.size,data:=o.data,slots:=o.slots})=hh
 have B:hh.get? s.heap.objs.size=P3 {cls:=.type "dict",data:=.dict #[]}:=by
  rw[←a,nN _ _ _ _ n.symm];exact XV _ rfl
 have D:hh.get? x=P3 #[.ref C,P3 s.heap.objs.size,.fields f,g]:=by
  rw[←a];exact jr _ i rfl
 have F:∀b o,b≠x->s.heap.get? b=P3 o->hh.get? b=P3 o:=λb o j e=>by
  rw[←a,nN _ _ _ _ j];exact FM _ e
 have G:hh.Ns s.heap.objs.size (λ_=>s_):=#[_,#[],_,B,rfl,λe H=>absurd H^by simp,λ_=>rfl];show wpAny _ _ (oQ s.heap.objs.size _ name v) _ _ _;unfold oQ Builtin.ObjectAttr.newKeyGuard;refine Ch^Re^Ch^wpAny_nsSet1 (Heap.Ns1.of_empty G) λd p q=>?_;let#[O,I,L,k,l,m]:=p.count^PySem.Within.cons name v PySem.Within.nil;refine Ch^wpAny_lookBehind k (by rw[l];exact pastItsLine_dict^jJ m^by rw[jC,kW,jj];lk) ?_;refine Re^h d _ ((q.2 x n).trans D) p λb o j e=>(q.2 b^jL^Uf e).trans^F b o j e
def WU{k:Array Ev}{l:Array^w_ Ev}{d:Db}{f:Str->w_ Ev}{m:v_ Str}{Q:Unit->Go->Prop}(X:K.In s.heap)(c:XC K nm C U)(hx:s.heap.get? x=P3 #[.ref C,P3 d,.fields k,l])(n:s.heap.Ns1 d f)(q:PySem.Within f m)(r:m.length<=sizeLine)(t:PySem.W.findIn K (.ref C) name=P3 s_)
  (h:∀e u,e.Ns1 d (λy=>if y=name then P3 v else f y)->lz d s.heap e->Q () {s with heap:=e,toks:=u}):
  wpAny (model prog w) A (setAttr (.ref x) name v) Q E s:=by
 let#[I,z,L,B,_]:=c.cls;let#[o,_,_,D,_]:=id n;have J:PySem.W.InstAt s.heap x #[.ref C,P3 d,.fields k,l] C^P3 o:=#[hx,rfl,rfl,D];refine PySem.W.set_plain X J c.sa^Th (s:={s with toks:=s.toks+1}) X c J t λb=>?_;refine Ch^Re^Ch^Ch^wpAny_loadPart hx^Ch^PySem.W.Looks.here (s:={s with toks:=s.toks+1}) (PySem.W.looks_clsIn X z) ?_;rw[B];refine Re (a:=P3 d)^Ch^Re^Ch ?_;refine wpAny_nsSet1 (s:={s with toks:=s.toks+1}) n λe p F=>?_;let#[M,G,H,g,i,j]:=p.count^PySem.Within.cons name v q;refine Ch^wpAny_lookBehind g (by rw[i];exact pastItsLine_dict^jJ j^by rw[jC];lk) ?_;exact Re^h _ _ p F
end
section
variable {M:Model}{prog:Program}{w:World}{A:Around}{E:Value->Shared->Prop}{R:Result->Shared->Prop}{h:Heap}{g:Array GenState}{d:Drawn}{t:Nat}{os:OsState}
variable {K:Frag}{nm q:Str}{C U N f:Addr}{bs:v_ Value}{sn:v_ Str}{sub:v_ Value}{ab:Bool}{col:w_ Bool}{dd:w_ Addr}{k0 k1 k2 k3 k5:w_ Value}{rest:v_ Value}
def UH{Q:Unit->Go->Prop}(hC:h.get? C=P3^excClassObj nm q C N bs (.ref U::C4) t_ sn sub ab col dd k0 k1 k2 k3 k5 "ValueError.__new__")
  (hq:Q () #[h,g,d,t,os]):wpAny M A (checkBuiltinCall "ValueError.__new__" #[.ref C::rest,[]]) Q E #[h,g,d,t,os]:=by
 have F:=PySem.F.excBase_ValueError;have hcont:(jE C::.ref U::C4).contains^.type "ValueError"=t_:=by simp[C4]
 have hstar:=F.noStar;simp only[checkBuiltinCall,F.newKind,F.newSplit,F.newRow]
 repeat (first|refine kA hC ?_|(refine kP hC ?_;rw[hcont])|refine wpAny_staticBase_exc hC ?_|refine pY hC ?_|simp only[bne_self_eq_false,kC,if_false]|wp_step)
 exact hq
def T7(hC:h.get? C=P3^excClassObj nm q C N bs (.ref U::C4) t_ sn sub ab col dd k0 k1 k2 k3 k5 "ValueError.__new__")
  (hq:R (.ok^.ret^.ref (h.objs.size+1)) #[(h.push {cls:=.type "tuple",data:=.seq rest.toArray}).push^B5 C h.objs.size,g,d,t,os]) (hrest:rest.length<=sizeLine):
  codeAny (model prog w) A (.builtin "ValueError.__new__" #[.ref C::rest,[]]) R #[h,g,d,t,os]:=by
 have F:=PySem.F.excBase_ValueError;have hends:=F.ends;have hcB:(jE C::.ref U::C4).contains^.type "ValueError"=t_:=by simp[C4]
 have hcA:(jE C::.ref U::C4).contains^.type "AttributeError"=u_:=by simp[C4]
 have hcN:(jE C::.ref U::C4).contains^.type "NameError"=u_:=by simp[C4]
 refine codeAny_builtinAt F.entry ?_;unfold kz.«BaseException.__new__»;refine PySem.wpAt_bind ?_;show PySem.wpAt _ _ _ (stack >>=_) _ _ _;refine PySem.wpAt_bind^PySem.wpAt_stack λp below=>wpAt_of_wpAny ?_
 wp_walk
 refine wpAt_of_wpAny ?_;rw[F.owner]
 repeat (first|with_reducible refine wpAny_madeHere_exc F.canon hC ?_|with_reducible refine kA hC ?_|(with_reducible refine kP hC ?_;first|rw[hcB]|rw[hcA]|rw[hcN])|wp_step)
 show R _ _;rw[ku];exact hq
def YB{e:Db}{oe:Obj}{Q:Unit->Go->Prop}(hC:h.get? C=P3^excClassObj nm q C N bs (.ref U::C4) t_ sn sub ab col dd k0 k1 k2 k3 k5 "ValueError.__new__")(he:h.get? e=P3 oe)(hcls:oe.cls=.ref C)(hq:Q () #[h,g,d,t,os]):
  wpAny M A (checkBuiltinCall "ValueError.__init__" #[.ref e::rest,[]]) Q E #[h,g,d,t,os]:=by
 have F:=PySem.F.excBase_ValueError;have hcB:(jE C::.ref U::C4).contains^.type "ValueError"=t_:=by simp[C4]
 have hshort:=F.noStar;simp only[checkBuiltinCall,F.initKind,F.initSplit,F.initRow]
 repeat (first|(with_reducible refine kA he ?_;rw[hcls])|with_reducible refine kA hC ?_|(with_reducible refine kP hC ?_;rw[hcB])|wp_step)
 refine oB ?_
 rw[show ∀(a b:String) (n:Nat),Bind.check #[.positional,"*","ValueError",.self,[#["args",.varPos,u_]]] a b n^List.map (λx=>x.fst) ({pos:=jE e::rest}:Args).kw=pure ()from
  λa b n=>check_star_args _ _ _ _ _ _]
 exact Re hq
def Xu(X:K.In h)(c:XC K nm C U)(hi:PySem.W.findIn K (.ref C) "__init__"=P3^P3^.ref f)(hf:PySem.W.typeIn K^.ref f=P3^.type "function")(hrest:rest.length<=sizeLine)
  (hq:codeAny (model prog w) (A.under^.builtin "type.__call__" #[.ref C::rest,[]]) (.call (.ref f) #[.ref (h.objs.size+1)::rest,[]]) (f9 (h.objs.size+1) R) #[(h.push {cls:=.type "tuple",data:=.seq rest.toArray}).push^B5 C h.objs.size,g,d,t,os]):
  codeAny (model prog w) A (.call (.ref C) #[rest,[]]) R #[h,g,d,t,os]:=by
 have F:=PySem.F.excBase_ValueError;let#[q,N,bs,sn,sub,ab,col,dd,k0,k1,k2,k3,k5,eC]:=c.obj;have hC:=X _ _ eC;have f1:=tc_lookup;have f2:=tc_bind^.ref C;have hT:(#[h,g,d,t,os]:Go).TypeIs (.ref C) "type":=#[_,hC,rfl];refine nQ ?_;show wpAny _ _ (callAny (.ref C) _) _ _ _
 repeat (any_goals (first|assumption|with_reducible refine kA hC ?_|wp_step))
 refine#[rfl,?_];refine codeAny_call_builtin_at (mi _^by decide +kernel) entry_typeCall^wpAny_check_type_call_sub hC ?_
 repeat (first|with_reducible refine kA hC ?_|with_reducible refine pY hC ?_|wp_step)
 refine codeAny_call_builtin_code (mi _ F.quiet)^UH hC ?_;refine T7 hC ?_ hrest;show wpAny _ _ _ _ _ _;have kk:∀b o,h.get? b=P3 o->((h.push {cls:=.type "tuple",data:=.seq rest.toArray}).push^B5 C h.objs.size).get? b=P3 o:=λb o e=>FM _^FM _ e;have hC₁:=kk _ _ hC;have hget:((h.push {cls:=.type "tuple",data:=.seq rest.toArray}).push^B5 C h.objs.size).get? (h.objs.size+1)=P3^B5 C h.objs.size:=by unfold B5;heap_get
 have hcC:(jE C::jE U::C4).contains^.ref C=t_:=by simp
 unfold isInstance;unfold B5 at *
 repeat (first|with_reducible refine kA hget ?_|(with_reducible refine kP hC₁ ?_;rw[hcC])|wp_step)
 show wpAny _ _ (isSubtype (.ref C)^.ref C) _ _ _;refine kP hC₁ ?_;rw[hcC,if_neg^by cbv];refine Ch^jn ?_;unfold callSpecial? specialOf
 repeat (first|with_reducible refine kA hget ?_|wp_step)
 show wpAny _ _ (typeLookup (.ref C) _) _ _ _;refine(PySem.W.looks_findIn (X.keeps kk) hi).here ?_;refine jn^Ch^(PySem.W.bind_fn (X.keeps kk) _ hf).here ?_;refine Ch^lU^mQ hq λr s' z=>?_
 rcases r with e|(v|_|_|_) <;>first|exact z|exact z.elim|skip
 let#[rfl,z]:=z;exact Re^Re z
def VW(X:K.In h)(c:XC K nm C U)(hi:PySem.W.findIn K (.ref C) "__init__"=P3^P3^.builtin "ValueError.__init__")(hrest:rest.length<=sizeLine)
  (hq:∀h',(∀b o,h.get? b=P3 o->h'.get? b=P3 o)->h'.get? (h.objs.size+1)=P3^B5 C (h.objs.size+2)->R (.ok^.ret^.ref (h.objs.size+1)) #[h',g,d,t,os]):
  codeAny (model prog w) A (.call (.ref C) #[rest,[]]) R #[h,g,d,t,os]:=by
 have F:=PySem.F.excBase_ValueError;let#[q,N,bs,sn,sub,ab,col,dd,k0,k1,k2,k3,k5,eC]:=c.obj;have hC:=X _ _ eC;have f1:=tc_lookup;have f2:=tc_bind^.ref C;have hT:(#[h,g,d,t,os]:Go).TypeIs (.ref C) "type":=#[_,hC,rfl];refine nQ ?_;show wpAny _ _ (callAny (.ref C) _) _ _ _
 repeat (any_goals (first|assumption|with_reducible refine kA hC ?_|wp_step))
 refine#[rfl,?_];refine codeAny_call_builtin_at (mi _^by decide +kernel) entry_typeCall^wpAny_check_type_call_sub hC ?_
 repeat (first|with_reducible refine kA hC ?_|with_reducible refine pY hC ?_|wp_step)
 refine codeAny_call_builtin_code (mi _ F.quiet)^UH hC ?_;refine T7 hC ?_ hrest;show wpAny _ _ _ _ _ _;have kk:∀b o,h.get? b=P3 o->((h.push {cls:=.type "tuple",data:=.seq rest.toArray}).push^B5 C h.objs.size).get? b=P3 o:=λb o e=>FM _^FM _ e;have hC₁:=kk _ _ hC;have hget:((h.push {cls:=.type "tuple",data:=.seq rest.toArray}).push^B5 C h.objs.size).get? (h.objs.size+1)=P3^B5 C h.objs.size:=by unfold B5;heap_get
 have hcC:(jE C::jE U::C4).contains^.ref C=t_:=by simp
 unfold isInstance;unfold B5 at *
 repeat (first|with_reducible refine kA hget ?_|(with_reducible refine kP hC₁ ?_;rw[hcC])|wp_step)
 show wpAny _ _ (isSubtype (.ref C)^.ref C) _ _ _;refine kP hC₁ ?_;rw[hcC,if_neg^by cbv];refine Ch^jn ?_;unfold callSpecial? specialOf
 repeat (first|with_reducible refine kA hget ?_|wp_step)
 show wpAny _ _ (typeLookup (.ref C) _) _ _ _;refine(PySem.W.looks_findIn (X.keeps kk) hi).here ?_;refine jn^Ch^k6 (F.init.bind _) ?_;refine Ch^lU^mJ F.init.plain F.initEntry (YB hC₁ hget rfl ?_)
 wp_walk
 refine hq _ (λb o e=>?_) ?_
 .rw[jF _ _^lS^ke^Uf e]
  exact FM _^kk b o e
 .refine(jr (lc (·.setIfInBounds 0^jE _)) (FM _ hget) rfl).trans ?_
  simp only[ku];rfl
end
structure CXD (P:jM) (w:jT) (outer:List Env) (H:Hp) (s:Go) (a C:Db) (dx:Option Db) (B:jI) (H':Hp) (s':Go):Prop where
 os:s'.os=s.os
 bare:m7 s'.gens
 un:Un (NS outer) [] H H' s.heap s'.heap
 hok:HOk P w H' B
 all:∀b o o',s.heap.get? b=P3 o->b∉NS outer->s'.heap.get? b=P3 o'->B.get? b=P3 o'
 fly:Fly B outer a C dx s'.heap
 new:s.heap.objs.size<=a
 free:H' a=s_
def Vr(P:jM)(w:jT):Vy:=λb H s E e f=>∃a C c B d,e=.ref a/\CXD P w b H s a C c B d f/\E (.ref C) c d
section
variable {P:Program}{w:World}{outer:v_ Env}{H H':Hp}{s s':Shared}{a C:Addr}{dx:w_ Addr}{B h':Heap}
def CXD.step(x:CXD P w outer H s a C dx B H' s')(F:Fly B outer a C dx h')(u:s'.heap.UpToSlots h'):CXD P w outer H s a C dx B H' {s' with heap:=h'}:=by
 have fr:∀b∈NS outer,∃o,s'.heap.get? b=P3 o/\∀k,o.data≠.fields k:=λb c=>(x.fly.frames.mem c).2;refine#[x.os,x.bare,#[λb o e n c d=>F.stays _ _^x.all b o o e c^x.un.keep b o e n c d,λb o e n c d=>?_,x.un.free,λb o e d=>?_,x.un.tups,x.un.frzs,x.un.tbls],x.hok,λb o j e c q=>?_,F,x.new,x.free]
 .let#[p,q]:=x.un.slot b o e n c d
  let#[j,f,h]:=fr b c;rw[q]at f;cases f;let#[i,l]:=u b _ q h
  grind
 .let#[g,q]:=x.un.there b o e d
  by_cases c:b∈NS outer
  .let#[j,f,h]:=fr b c
   let#[i,l]:=u b _ f h
   grind
  .exact#[g,F.stays _ _^x.all b o g e c q]
 .let#[g,m]:=x.un.there b o e^by simp
  have z:=x.all b o g e c m;rw[F.stays _ _ z]at q
  grind
end
section
variable {X:Cx}{zG:v_ (Addr×Obj)}{Z:St}{H H':Hp}{s s':Shared}{a C:Addr}{dx:w_ Addr}{B:Heap}
def CXD.inv(x:CXD X.prog X.w X.stack H s a C dx B H' s')(I:Inv X zG Z H s):Inv X zG Z H' s':=
 I.call' x.os x.un (x.hok.kept x.fly.stays) x.bare λb z=>absurd z^by simp
def CXD.leave(x:CXD X.prog X.w X.stack H s a C dx B H' s')(I:Inv X zG Z H s)(c:X.stack=X.env::X.outer)(f:X.ex=[]):CXD X.prog X.w X.outer X.H₀ X.s₀ a C dx B H' s':=by
 have J:=x.inv I;have d:=x.fly;rw[c]at d;refine#[J.os,J.bare,by have z:=J.base;grind,x.hok,λb o g e h q=>?_,d.tail,jJ I.sz x.new,x.free];let#[i,j]:=I.base.there b o e (by grind);refine x.all b i g j (λz=>?_) q
 rcases UF.mp^I.stkSub b z with z|z
 .exact absurd (Uf e)^by rw[z];exact ng.mpr I.ok.above
 .exact h z
def LB{P:jM}{w:jT}{K:Frag}{j:Str->w_ Ev}{d:jI}{N:v_ Str}{g:Str}{b:lR}{f:Db}{k:Ev}{A:jY}{c:v_ Env}{h:Go}{i:Hp}{E:XK}:
  JA (Vr P w) (EG (Vr P w) P w K j d N g b f k A c h i E) E:=by
 intro zG Z H s e s' I #[a,C,dx,B,H',l,x,q];subst l;exact VT I.ok.frames rfl x.fly λn m u=>#[a,C,dx,B,H',rfl,(x.step m u).leave I rfl rfl,q]
def Tg{P:jM}{w:jT}{K:Frag}{i:Str->w_ Ev}{d:jI}{N:v_ Str}{e:Str}{b:lR}{f:Db}{j:Ev}{A:jY}{c:v_ Env}{g:Go}{h:Hp}{E:XK}:
  oH (model P w) (EG (Vr P w) P w K i d N e b f j A c g h E).A (EG (Vr P w) P w K i d N e b f j A c g h E).env (EG (Vr P w) P w K i d N e b f j A c g h E).xe:=by
 passes_own
end
def XO(a C:Db)(c:w_ Db)(h:jI):Prop:=∃b d,h.get? a=P3 #[.ref C,c,.fields b,d]/\b[2]?=P3 .none/\b[1]?=P3 .none
def XF(d:Db)(fs:v_ (Str×V))(h:jI):Prop:=∃a,h.Ns1 d a/\(∀f,RelO (fs.lookup f)^a f)/\PySem.Within a (fs.map (·.1))/\fs.length<=1000
def XO.ok{P:jM}{w:jT}{H:Hp}{a C:Db}{b:w_ Db}{h:jI}(x:XO a C b h):ObjOk P w H h a^.ext^XO a C b:=by
 refine#[x,?_,λf g #[c,d,e,r] k=>#[c,d,k _ e,r]];let#[c,d,e,_]:=x
 simp_all
def XF.ok{P:jM}{w:jT}{H:Hp}{d:Db}{a:v_ (Str×V)}{h:jI}(x:XF d a h):ObjOk P w H h d^.ext^XF d a:=by
 refine#[x,?_,λc f #[b,e,r] k=>#[b,e.at k,r]];let#[b,#[o,_,_,e,_],_]:=x
 grind
section
variable {X:Cx}{zG:v_ (Addr×Obj)}{Z:St}{H:Hp}{s:Shared}{a C U:Addr}{nm f:Str}{A:Around}{E:Value->Shared->Prop}
def WT{y:V}{u:Ev}{Q:Unit->Go->Prop}(I:Inv X zG Z H s)(e:H a=P3^.ext^XO a C s_)(c:XC X.K nm C U)(n:G3 X.K C f)(M:RelV y u)
  (h:∀d B,H d=s_->d≠a->Inv X zG Z (A4 (A4 H d^.ext^XF d [(f,y)]) a^.ext^XO a C^P3 d) B->Q () B):wpAny (model X.prog X.w) A (setAttr (.ref a) f u) Q E s:=by
 let#[#[N,O,D,P,R],_]:=(show ObjOk X.prog X.w H s.heap a _ from I.hok a _ e);refine WV I.kIn c D n λh' t' F S l=>?_;have G:H s.heap.objs.size=s_:=I.hok.fresh^Op _;have T:s.heap.objs.size≠a:=lS^Uf D;have lt:∀{b:Db}{o:Obj},s.heap.get? b=P3 o->b≠s.heap.objs.size:=λ{b o} q=>jL^Uf q;have p:∀{b:Db},H b=s_->b≠a:=λ{b} q z=>by rw[z,e]at q;cases q
 have of:∀{b:Db}{u:HO},H b=P3 u->(∀j,u≠.ext j)->A4 (A4 H s.heap.objs.size^.ext^XF s.heap.objs.size [(f,y)]) a (.ext^XO a C^P3 s.heap.objs.size) b=P3 u:=λ{b u} q W=>by
  rw[AW (λz=>by rw[z,e]at q;exact W _ (jH q).symm),AW λz=>by rw[z,G]at q;cases q];exact q
 refine h s.heap.objs.size _ G T^I.un (h':=h') (t':=t') #[λb o q n _ _=>l b o (p n) q,λb o q n _ _=>#[o.slots,l b o (p n) q],λb o q n _=>?_,λb o q _=>?_,λb J q=>of q (by intro j z;cases z),λb o J q=>of q (by intro j z;cases z),λb ps q=>#[#[],by rw[of q^by intro j z;cases z];simp]] ?_
 .rw[AW^p n,AW^lt q];exact n
 .by_cases z:b=a
  .rw[z];exact#[_,F]
  .exact#[o,l b o z q]
 .intro b o q
  by_cases z:b=a
  .subst z
   rw[Ah]at q;cases q;exact XO.ok #[N,O,F,P,R]
  .rw [AW z]at q
   by_cases L:b=s.heap.objs.size
   .subst L
    rw[Ah]at q;cases q;refine XF.ok #[_,S,λg=>?_,λg Y=>?_,by simp]
    .by_cases i:g=f
     .rw[if_pos i]
      have t:(g==f)=t_:=beq_iff_eq.mpr i;simp only[lq,t];exact M
     .rw[if_neg i]
      have t:(g==f)=u_:=beq_eq_false_iff_ne.mpr i;simp only[lq,t];trivial
    .by_cases i:g=f
     .simp[i]
     .exact absurd (if_neg i) Y
   .rw[AW L]at q
    refine(I.hok b o q).stay (λx v m r=>l x v ?_ r) (λx r=>of r^by intro j z;cases z) λx J r=>of r^by intro j z;cases z
    rcases m with rfl|m
    .exact z
    .intro zz;rw[zz,e]at m;cases m
def WS{d:Db}{i:v_ (Str×V)}{y:V}{u:Ev}{Q:Unit->Go->Prop}(I:Inv X zG Z H s)(e:H a=P3^.ext^XO a C^P3 d)(k:H d=P3^.ext^XF d i)(c:XC X.K nm C U)(n:G3 X.K C f)(v:RelV y u)(O:i.length<1000)
  (h:∀l,Inv X zG Z (A4 H d^.ext^XF d^E8 f y i) l->Q () l):wpAny (model X.prog X.w) A (setAttr (.ref a) f u) Q E s:=by
 let#[#[P,R,B,S,T],_]:=(show ObjOk X.prog X.w H s.heap a _ from I.hok a _ e);let#[#[m,D,r,p,_],_]:=(show ObjOk X.prog X.w H s.heap d _ from I.hok d _ k);refine WU I.kIn c B D p (by rw[No,jj];lk) n λF W t G=>h _ ?_;have J:∃o,F.get? d=P3 o:=let #[o,_,_,L,_]:=t;#[o,L]
 refine I.write (x:=d) (e:=d) (by rw[k];exact lT) (.inl rfl) (λb q M z=>(G.2 b M).trans z) J^XF.ok #[_,t,λg=>?_,λg N=>?_,?_]
 .show RelO ((E8 f y i).lookup g) (if g=f then P3 u else m g)
  rw[JS]
  by_cases q:g=f
  .rw[if_pos q,if_pos q];exact v
  .rw[if_neg q,if_neg q];exact r g
 .by_cases q:g=f
  .rw[q];exact(Ig f y i).1
  .refine(Ig f y i).2 g^p g λz=>N ?_
   show(if g=f then P3 u else m g)=s_;rw[if_neg q];exact z
 .have:=JT f y i;lk
end
def iq(C:Db)(b c:TE)(f:Str):TS:=λD Z H=>c Z H λy e=>b Z e λx H2=>∃a,x=.ref a/\H2 a=P3^.ext^XO a C s_/\∀d,H2 d=s_->d≠a->D.nx Z^A4 (A4 H2 d^.ext^XF d [(f,y)]) a^.ext^XO a C^P3 d
def ip(C:Db)(c e:TE)(f:Str):TS:=λD Z H=>e Z H λy g=>c Z g λx H2=>∃a d b,x=.ref a/\H2 a=P3^.ext^XO a C^P3 d/\H2 d=P3^.ext^XF d b/\b.length<1000/\D.nx Z^A4 H2 d^.ext^XF d^E8 f y b
section
variable {X:Cx}{o value:Expr}{nm f:Str}{C U:Addr}{pos pos':Pos}{ta tv:TE}
def e7(c:XC X.K nm C U)(n:G3 X.K C f)(e:PE X o ta)(g:PE X value tv)(i:swapsWith value (P3^.Attribute o f pos') pos.line X.env=pure u_):PS X (.Assign [.Attribute o f pos'] value pos)^iq C ta tv f:=by
 intro B s Z H D I h;refine oN (thn (g _ s Z H _ I h) λu j #[y,k,l,m,q]=>thn (e _ j Z k _ l q) λp E #[x,H2,r,t,a,ex,v,w]=>?_) i;subst ex;obtain rfl:p=jE a:=t;exact WT r v c n m λd F z b A=>#[Z,_,A,w d z b]
def en(c:XC X.K nm C U)(n:G3 X.K C f)(b:PE X o ta)(e:PE X value tv)(g:swapsWith value (P3^.Attribute o f pos') pos.line X.env=pure u_):PS X (.Assign [.Attribute o f pos'] value pos)^ip C ta tv f:=by
 intro B s Z H D I h;refine oN (thn (e _ s Z H _ I h) λu i #[y,j,k,m,q]=>thn (b _ i Z j _ k q) λp E #[x,H2,r,t,a,d,F,ex,v,w,l,z]=>?_) g;subst ex;obtain rfl:p=jE a:=t;exact WS r v w c n m l λG A=>#[Z,_,A,z]
end
def del(H:Hp)(a:Db):Hp:=λb=>if b=a then s_ else H b
def Lk{H:Hp}{a b:Db}(h:b≠a):del H a b=H b:=if_neg h
def FZ{H:Hp}{a:Db}:del H a a=s_:=if_pos rfl
section
variable {X:Cx}{zG:v_ (Addr×Obj)}{Z:St}{H H1:Hp}{s s1:Shared}{a C:Addr}{dx:w_ Addr}
def fR(I:Inv X zG Z H s)(A:s1.os=s.os)(f:m7 s1.gens)(u:Un (NS X.stack) [] H H1 s.heap s1.heap)(h:HOk X.prog X.w H1 s1.heap)(k:H1 a=P3^.ext^XO a C dx)(i:s.heap.objs.size<=a):
  CXD X.prog X.w X.stack H s a C dx (PySem.W.hideAll s1.heap (a::NS X.stack)) (del H1 a) s1:=by
 have J:Inv X zG Z H1 s1:=I.call' A u h f λb z=>absurd z (by simp);have E:∀{b:Db}{u:HO},H1 b=P3 u->(∀g,u≠.ext g)->b≠a:=λ{b u} q p z=>by rw[z,k]at q;exact p _ (jH q).symm
 have of:∀{b:Db}{u:HO},H1 b=P3 u->(∀g,u≠.ext g)->del H1 a b=P3 u:=λq p=>(Lk^E q p).trans q;have B:∀{b:Db}{u:HO},H1 b=P3 u->b∉NS X.stack:=λ{b u} q z=>by rw[J.stkFree b z]at q;cases q
 let#[#[F,G,t,K,L],_]:=(show ObjOk X.prog X.w H1 s1.heap a _ from h a _ k);refine#[A,f,#[u.keep,u.slot,λb o q n t=>?_,u.there,λb j q=>of (u.tups b j q) (by intro g z;cases z),λb o j q=>of (u.frzs b o j q) (by intro g z;cases z),λb M q=>?_],λb o q=>?_,λb o P q x N=>?_,#[λb o q=>PySem.W.of_hideAll _ q,PySem.W.hideAll_none _^by simp,PySem.W.funFrames_hide J.stack λy O b x=>?_,F,G,.none,t,K,L,.inl rfl],i,FZ]
 .by_cases z:b=a
  .rw[z];exact FZ
  .rw[Lk z];exact u.free b o q n t
 .let#[m,e]:=u.tbls b M q
  exact#[m,of e^by intro g z;cases z]
 .have D:b≠a:=λz=>by rw[z,FZ]at q;cases q
  rw[Lk D]at q;refine(h b o q).stay (λc v d r=>PySem.W.hideAll_get _ r λz=>?_) (λc r=>of r^by intro g z;cases z) λc j r=>of r^by intro g z;cases z
  rcases UF.mp z with z|z
  .rcases d with d|d
   .exact D^d.symm.trans z
   .rw[z,k]at d;cases d
  .rcases d with d|d
   .exact B q (d▸z)
   .exact B d z
 .refine PySem.W.hideAll_get _ N λz=>?_
  rcases UF.mp z with z|z
  .exact absurd (Uf q)^by rw[z];exact ng.mpr i
  .exact x z
 .exact Sc _^oz.mpr #[y,O,x]
end
def XS(X:Cx)(a:v_ (Db×Obj))(Z:St)(R:XK)(e:Ev)(b:Go):Prop:=∃H s,Inv X a Z H s/\Vr X.prog X.w X.stack H s R e b
def Made(X:Cx)(e:v_ (Db×Obj))(Z:St)(C:Db)(R:XK)(v:Ev)(b:Go):Prop:=∃a d H s c,v=.ref a/\Inv X e Z H s/\b.os=s.os/\m7 b.gens/\Un (NS X.stack) [] H c s.heap b.heap/\HOk X.prog X.w c b.heap/\c a=P3^.ext^XO a C d/\s.heap.objs.size<=a/\R (.ref C) d^del c a
section
variable {X:Cx}{zG:v_ (Addr×Obj)}{Z:St}{s:Shared}{C U:Addr}{nm:Str}{R:XK}
def ND{e:jX}{pos:Pos}{Q:Flow->Go->Prop}{i:Ev->Go->Prop}(c:XC X.K nm C U)(D:X.A.handled=s_)(h:wpAny (model X.prog X.w) X.A (eval e X.env) (Made X zG Z C R) i s)(E:∀e t,XS X zG Z R e t->i e t):
  wpAny (model X.prog X.w) X.A (exec (.Raise (P3 e) s_ pos) X.env) Q i s:=by
 let#[q,N,F,G,m,H,n,L,M,O,P,S,T,V]:=c.obj
 have W:wpAny (model X.prog X.w) X.A (eval e X.env) (λv d=>∃e k l o,v=.ref e/\d.heap.get? C=P3^excClassObj nm q C N F (.ref U::C4) t_ G m H n L M O P S T "ValueError.__new__" /\
   d.heap.get? e=P3 #[.ref C,k,.fields l,o]/\l[1]?=P3 .none/\i (.ref e) d) i s:=by
  refine thn h λv s1 #[a,k,Y,s0,H1,ev,I,y,f,u,g,B,p,r]=>?_;let#[#[l,o,hx,h2,h1],_]:=(g a _ B);have J:=I.call' y u g f λb z=>absurd z (by simp);exact#[a,k,l,o,ev,J.kIn _ _ V,hx,h1,E _ _ #[Y,s0,I,a,C,k,_,_,rfl,fR I y f u g B p,r]]
 first
  |exact Ch^n_ (Rl rfl D (Ch^jh W (λv d j=>Ch^n_^Re j) λ_ _ x=>x))
  |omega
end
def Ke(C:Db)(c f:Str):Sp:=λg H Q _=>∃a b e,g=[.ref a,b,e]/\H a=P3^.ext^XO a C s_ /\
 ∀d,H d=s_->d≠a->Q .non^A4 (A4 (A4 H d^.ext^XF d [(c,b)]) a^.ext^XO a C^P3 d) d^.ext^XF d [(c,b),(f,e)]
section
variable {X:Cx}{zG:v_ (Addr×Obj)}{Z:St}{H:Hp}{s:Shared}{C U f:Addr}{nm k1 k2 p0 p1 p2:Str}{R:XK}{E:Value->Shared->Prop}{k:Nat}{fd:FuncData}{us:v_ Value}{v1 v2:V}
def ZM(c:XC X.K nm C U)(N:PySem.W.findIn X.K (.ref C) "__init__"=P3^P3^.ref f)(O:PySem.W.typeIn X.K^.ref f=P3^.type "function")(F:CU X.prog X.w X.K X.mg X.base Fy k f fd [p0,p1,p2]^Ke C k1 k2)(P:Binds X.K fd [p0,p1,p2] [])
  (Q:Room (k+1) X.A) (I:Inv X zG Z H s) (r:Vals [j,v2] us) (h:∀d,H d=s_->R (.ref C) (P3 d)^A4 H d^.ext^XF d [(k1,j),(k2,v2)]):wpAny (model X.prog X.w) X.A (call (.ref C) us) (Made X zG Z C R) E s:=by
 let#[a,g,S,t,T]:=s;have B:us.length=2:=r.length.symm;have Y:((a.push {cls:=.type "tuple",data:=.seq us.toArray}).push^B5 C a.objs.size).get? (a.objs.size+1)=P3^B5 C a.objs.size:=by unfold B5;heap_get
 have D:∀b o,a.get? b=P3 o->((a.push {cls:=.type "tuple",data:=.seq us.toArray}).push^B5 C a.objs.size).get? b=P3 o:=λb o e=>FM _^FM _ e;have G:H (a.objs.size+1)=s_:=I.hok.fresh^jk _;have J:Inv X zG Z (A4 H (a.objs.size+1)^.ext^XO (a.objs.size+1) C s_) #[(a.push {cls:=.type "tuple",data:=.seq us.toArray}).push^B5 C a.objs.size,g,S,t,T]:=I.laid (t':=t) D (jk _)^XO.ok #[_,_,Y,rfl,rfl]
 have q:Ke C k1 k2 [.ref (a.objs.size+1),j,v2] (A4 H (a.objs.size+1)^.ext^XO (a.objs.size+1) C s_) (λv L=>v=.non/\∃d,H d=s_/\d≠a.objs.size+1 /\
   L=A4 (A4 (A4 (A4 H (a.objs.size+1)^.ext^XO (a.objs.size+1) C s_) d^.ext^XF d [(k1,j)]) (a.objs.size+1)^.ext^XO (a.objs.size+1) C^P3 d) d^.ext^XF d [(k1,j),(k2,v2)]) E0:=
  #[_,j,v2,rfl,Ah,λd m i=>#[rfl,d,by rw[AW i]at m;exact m,i,rfl]]
 have r2:Vals [V.ref (a.objs.size+1),j,v2] (jE (a.objs.size+1)::(us++[])):=by rw[jZ];exact .cons rfl r
 refine lU^Xu (K:=X.K) (U:=U) (nm:=nm) I.kIn c N O (by rw[B];decide)^mQ (F.run _ X.stack _ _ #[jE (a.objs.size+1)::us,[]] _ _ _ E0 (Q.make C us []) (J.env0.make C us []) (P _ (jE (a.objs.size+1)::us) J.kIn^by simp[B]) r2 q) λrr s' M=>?_
 rcases rr with e|(u|_|_|_) <;>first|exact jt M|skip
 let#[v,L,x,l,un,y,rv,ev,d,m,i,eH]:=M;subst ev;subst eH;exists rv,a.objs.size+1,P3 d,H,_,_,rfl,I,x,l,(Un.laid D (jk _) G).trans un,y,by rw[AW i.symm,Ah],jk _
 have e:del (A4 (A4 (A4 (A4 H (a.objs.size+1)^.ext^XO (a.objs.size+1) C s_) d^.ext^XF d [(k1,j)]) (a.objs.size+1)^.ext^XO (a.objs.size+1) C^P3 d) d^.ext^XF d [(k1,j),(k2,v2)]) (a.objs.size+1)=A4 H d^.ext^XF d [(k1,j),(k2,v2)]:=by
  funext b
  by_cases z:b=a.objs.size+1
  .rw[z,FZ,AW i.symm,G]
  .rw[Lk z]
   by_cases n:b=d
   .rw[n,Ah,Ah]
   .rw[AW n,AW z,AW n,AW z,AW n]
 rw[e];exact h d m
def ZN(c:XC X.K nm C U)(j:PySem.W.findIn X.K (.ref C) "__init__"=P3^P3^.builtin "ValueError.__init__")(I:Inv X zG Z H s)(k:us.length<=sizeLine)(h:R (.ref C) s_ H):wpAny (model X.prog X.w) X.A (call (.ref C) us) (Made X zG Z C R) E s:=by
 let#[a,g,n,t,o]:=s;have d:=I.hok.fresh^jk _;refine lU^VW (K:=X.K) (U:=U) (nm:=nm) I.kIn c j k λp i l=>?_;have m:Inv X zG Z (A4 H (a.objs.size+1) _) _:=I.laid (t':=t) i (jk _)^XO.ok #[_,_,l,rfl,rfl];exists a.objs.size+1,s_,H,_,_,rfl,I,rfl,I.bare,Un.laid i (jk _) d,m.hok,Ah,jk _
 have e:del (A4 H (a.objs.size+1)^.ext^XO (a.objs.size+1) C s_) (a.objs.size+1)=H:=by
  funext b
  by_cases z:b=a.objs.size+1
  .rw[z,FZ,d]
  .rw[Lk z,AW z]
 grind
end
abbrev YZ:=Ends->XK->St->Hp->Prop
abbrev Zx:=XK->St->Hp->VK->Prop
def XE(X:Cx)(b:v_ (Db×Obj))(Z:St)(R:XK)(e:Ev)(a:Go):Prop:=X.xe e a\/XS X b Z R e a
def c6(X:Cx)(st:jP)(t:YZ):Prop:=
 ∀(a:v_ (Db×Obj)) (s:Go) (Z:St) (H:Hp) (D:Ends) (R:XK),Inv X a Z H s->t D R Z H->wpAny (model X.prog X.w) X.A (exec st X.env) (SP X a D) (XE X a Z R) s
def Vo(X:Cx)(st:v_ jP)(t:YZ):Prop:=
 ∀(a:v_ (Db×Obj)) (s:Go) (Z:St) (H:Hp) (D:Ends) (R:XK),Inv X a Z H s->t D R Z H->wpAny (model X.prog X.w) X.A (execs st X.env) (SP X a D) (XE X a Z R) s
def iD(X:Cx)(e:jX)(t:Zx):Prop:=
 ∀(a:v_ (Db×Obj)) (s:Go) (Z:St) (H:Hp) (Q:VK) (R:XK),Inv X a Z H s->t R Z H Q->wpAny (model X.prog X.w) X.A (eval e X.env) (EP X a Z Q) (XE X a Z R) s
section
variable {X:Cx}{st:Stmt}{rest:v_ Stmt}{t u:YZ}{e:Expr}{es:v_ Expr}{ta:TA}{x nm k1 k2 p0 p1 p2:Str}{p pos cpos:Pos}{C U f:Addr}{k:Nat}{fd:FuncData}{ps:v_ Str}{sp:Sp}
def au{a:Type}{t:Sem a}{Q:a->Go->Prop}{b:v_ (Db×Obj)}{Z:St}{R:XK}{s:Go}(h:wpAny (model X.prog X.w) X.A t Q X.xe s):wpAny (model X.prog X.w) X.A t Q (XE X b Z R) s:=jh h (λ_ _ z=>z) λ_ _ z=>.inl z
def bR{t:TS}(h:PS X st t):c6 X st (λD _=>t D):=λa s Z H D R I q=>au^h _ s Z H D I q
def Y2{t:TS}(h:PSs X rest t):Vo X rest (λD _=>t D):=λa s Z H D R I q=>au^h _ s Z H D I q
def Uu{R:XK}(hx:JA (Vr X.prog X.w) X R)(h:c6 X st t):PS X st (λD=>t D R):=λb s Z H D I q=>
 jh (h _ s Z H D R I q) (λ_ _ z=>z) λe a z=>z.elim id fun#[H,s,J,c]=>hx _ Z H s e a J c
def Wx(a:c6 X st t):Vo X [st] t:=by
 intro c s Z H D R I h;refine pR^jh (a _ s Z H D R I h) (λf d q=>?_) λ_ _ z=>z;cases f with
 |next=>
  let#[e,b,J,q]:=q;exact me #[_,b,J,q]
 |brk=>exact q
 |cont=>exact q
 |ret v=>exact q
def Yo(C:Db)(k1 k2:Str)(ta:TA):YZ:=λ_ R Z H=>ta Z H λe a=>∃b c,e=[b,c]/\∀d,a d=s_->R (.ref C) (P3 d)^A4 a d^.ext^XF d [(k1,b),(k2,c)]
def Yp(C:Db)(ta:TA):YZ:=λ_ R Z H=>ta Z H λa b=>a.length<=sizeLine/\R (.ref C) s_ b
def Rn(c:XC X.K nm C U)(i:PySem.W.findIn X.K (.ref C) "__init__"=P3^P3^.ref f)(j:PySem.W.typeIn X.K^.ref f=P3^.type "function")(F:CU X.prog X.w X.K X.mg X.base Fy k f fd [p0,p1,p2]^Ke C k1 k2)(l:Binds X.K fd [p0,p1,p2] [])
  (d:Room (k+1) X.A) (m:Gl X x) (n:X.mg x=P3^.ref C) (o:PA X (e::es) ta) (a:(x==("__debug__":Str))=u_:=by cbv) (u:starEach (e::es) X.env=(u_,eval e X.env)::starEach es X.env:=by rfl) (b:(backTo cpos^starEach es X.env).any (·.1)=u_:=by rfl):
  c6 X (.Raise (P3^.Call (.Name x p) (e::es) [] cpos) s_ pos) (Yo C k1 k2 ta):=by
 intro y s Z H D R I h;refine ND c d.hd ?_ λ_ _ z=>.inr z;refine jq^D7 I m n ?_ a;refine PySem.W.callWith_K I.ok.mod.kin c.kp (thn (au^o _ _ s Z H _ I h) λB E #[G,J,g,r,L,M,v,q]=>#[g.kIn,?_]) u b;subst v;exact ZM c i j F l d g r q
def Ro(c:XC X.K nm C U)(g:PySem.W.findIn X.K (.ref C) "__init__"=P3^P3^.builtin "ValueError.__init__")(i:X.A.handled=s_)(j:Gl X x)(k:X.mg x=P3^.ref C)(l:PA X (e::es) ta)(a:(x==("__debug__":Str))=u_:=by cbv)(m:starEach (e::es) X.env=(u_,eval e X.env)::starEach es X.env:=by rfl)(b:(backTo cpos^starEach es X.env).any (·.1)=u_:=by rfl):
  c6 X (.Raise (P3^.Call (.Name x p) (e::es) [] cpos) s_ pos) (Yp C ta):=by
 intro o s Z H D R I h;exact ND c i (jq^D7 I j k (PySem.W.callWith_K I.ok.mod.kin c.kp (thn (au^l _ _ s Z H _ I h) λu v #[w,y,d,r,n,q]=>#[d.kIn,ZN c g d (by rw[jQ,←r.length];exact n) q]) m b) a) λ_ _ z=>.inr z
def a_(sp:Sp)(ta:TA):Zx:=λR Z H Q=>ta Z H λa b=>sp a b Q R
def W7(F:CU X.prog X.w X.K X.mg X.base (Vr X.prog X.w) k f fd ps sp)(m:Room k X.A)(n:Gl X x)(o:X.mg x=P3^.ref f)(v:keepIn X.K^.ref f=t_)(y:Binds X.K fd ps [])
  (z:PA X (e::es) ta) (d:(x==("__debug__":Str))=u_:=by cbv) (B:starEach (e::es) X.env=(u_,eval e X.env)::starEach es X.env:=by rfl) (g:(backTo pos^starEach es X.env).any (·.1)=u_:=by rfl):
  iD X (.Call (.Name x p) (e::es) [] pos) (a_ sp ta):=by
 intro D s Z H Q R I h;refine jq^D7 I n o ?_ d;refine PySem.W.callWith_K (h₀:=X.base) I.ok.mod.kin v (thn (au^z pos D s Z H _ I h) λa i #[j,l,b,r,q]=>#[b.kIn,?_]) B g;have E:(a++[]).length=ps.length:=by rw[jZ,←r.length];exact F.len _ _ _ _ q
 have G:Vals j (a++[]):=by grind
 refine lU^mQ (F.run X.A X.stack i l #[a,[]] (a++[]) j Q R m b.env0 (y i a b.kIn E) G q) λr L c=>?_;cases r with
 |error e=>exact .inr #[l,i,b,c]
 |ok J=>
  cases J with
  |ret u=>exact b.after c
  |next=>exact jt c
  |brk=>exact jt c
  |cont=>exact jt c
end
def Cx.hush(X:Cx)(A:jY):Cx:={X with A:=A,calm:=u_,xe:=λ_ _=>False}
section
variable {X:Cx}{A:Around}{zG:v_ (Addr×Obj)}{Z:St}{H:Hp}{s:Shared}
def Inv.hush(I:Inv X zG Z H s)(a:A.frames=P3 X.stack):Inv (X.hush A) zG Z H s:=
 #[#[I.ok.mod,I.ok.kind,I.ok.glob,I.ok.blt,I.ok.above,I.ok.inj,I.ok.has,I.ok.cab,λz=>absurd (z) jR,a,I.ok.stk,I.ok.exf,I.ok.bs,I.ok.bsz,I.ok.noex,I.ok.exfs,I.ok.funs,I.ok.frf],I.os,I.bare,I.base,I.loc,I.cell,I.free,I.freeC,I.pin,I.hok,I.len]
def Inv.unhush(I:Inv (X.hush A) zG Z H s)(ok:X.Ok):Inv X zG Z H s:=#[ok,I.os,I.bare,I.base,I.loc,I.cell,I.free,I.freeC,I.pin,I.hok,I.len]
def Inv.track{a:Db}{o:HO}(I:Inv X zG Z H s)(n:H a=s_)(d:X.s₀.heap.objs.size<=a)(f:a≠X.env.locals)(g:∀x c,X.env.cells.lookup x=P3 c->c≠a)(h:∀p∈X.pn++zG,p.1≠a)(new:ObjOk X.prog X.w (A4 H a o) s.heap a o):
  Inv X zG Z (A4 H a o) s:=by
 have of:∀{b:Db}{u:HO},H b=P3 u->A4 H a o b=P3 u:=λ{b u} q=>by rw[AW λz=>by grind];exact q
 refine I.step (g':=s.gens) (d':=s.drawn) (t':=s.toks) (h':=s.heap) (ch:=[a]) (λb l=>?_) (λb o _ _ _ e _=>e) (λb o _ _ _ e _=>#[o.slots,e]) (λb o i _ m=>?_) (λb o _ e=>#[o,e]) (λb j e=>of e) (λb o j e=>of e) (λb r e=>#[#[],by grind]) (λm k=>k) (λb u e=>?_) I.bare
 .have e:b=a:=by grind
  subst e;exact#[.inr d,f,g,h]
 .rw[AW λz=>i^by simp[z]];exact m
 .by_cases z:b=a
  .subst z
   rw[Ah]at e
   grind
  .rw[AW z]at e
   exact(I.hok b u e).stay (λ_ _ _ q=>q) (λ_ q=>of q) λ_ _ q=>of q
def Inv.gone{i:Nat}{x:Str}{v:w_ Ev}{m:Str->w_ Ev}{t:jI}{D:Nat}(I:Inv X zG Z H s)(E:X.N.Nodup)(F:X.N[i]?=P3 x)
  (G:∀(i:Nat) (x:Str) (v:V),X.N[i]?=P3 x->Z[i]?=P3^P3 v->Vw X.env.scope x->∃u,RelV v u/\Look X.env s.heap m x u)
  (J:t.Ns X.env.locals λy=>if y=x then v else m y) (a:lz X.env.locals s.heap t):Inv X zG (Z.set i s_) H {s with heap:=t,toks:=D}:=by
 have f:∀{b:Db}{o:Obj},X.s₀.heap.get? b=P3 o->b≠X.env.locals:=λ{b o} e=>jL^jW (Uf e) I.ok.above;refine#[I.ok,I.os,I.bare,#[λb o e n w l=>(a.2 b^f e).trans^I.base.keep b o e n w l,λb o e n w l=>?_,I.base.free,λb o e l=>?_,I.base.tups,I.base.frzs,I.base.tbls],#[_,J,λj y K g h L=>?_],λy c e=>?_,I.free,I.freeC,λp M=>?_,λb o e=>?_,by simpa using I.len]
 .let#[O,g]:=I.base.slot b o e n w l
  exact#[O,(a.2 b^f e).trans g]
 .let#[P,g]:=I.base.there b o e l
  exact#[P,(a.2 b^f e).trans g]
 .by_cases B:j=i
  .subst B
   rw[pH]at h
   split at h
   .split at h <;>cases h
   .rename_i z;exact absurd rfl z
  .rw[nA^jv B]at h
   let#[Q,R,q]:=G j y K g h L;exists Q,R
   rcases q with⟨k,e⟩|⟨k,c,e,z⟩
   .refine .inl #[k,?_]
    have:y≠x:=λe=>B^LQ E g (e▸F)
    simp[this,e]
   .exact .inr #[k,c,e,z.sameBut a^I.cne y c e]
 .let#[C,z]:=I.cell y c e
  exact#[C,z.sameBut a^I.cne y c e]
 .let#[e,n,f,S,d]:=I.pin p M
  exact#[(a.2 p.1 f).trans e,n,f,S,d]
 .refine(I.hok b o e).stay (λc C r q=>(a.2 c ?_).trans q) (λ_ q=>q) λ_ _ q=>q
  rintro rfl
  rcases r with rfl|r
  .rw[I.free]at e;cases e
  .rw[I.free]at r;cases r
end
def XT(C:Db)(c:w_ Db)(a:Db)(u:HO):Prop:=∃b d,u=.frz #[.ref C,c,.fields b,d]^.own a/\b[2]?=P3 .none
abbrev TH:=Ends->Db->w_ Db->St->Hp->Prop
def PH(X:Cx)(f:v_ nJ)(t:TH):Prop:=
 ∀(b:v_ (Db×Obj)) (Z:St) (D:Ends) (a C:Db) (c:w_ Db) (B:jI) (d:Hp) (e:Go) (H:Hp) (s:Go),Inv X b Z d e->CXD X.prog X.w X.stack d e a C c B H s->t D C c Z H->
  wpAny (model X.prog X.w) X.A (handleBy (.ref a) X.env f) (SP X b D) X.xe s
section
variable {X:Cx}{i:Nat}{n x:Str}{np pos:Pos}{b₀:Stmt}{suite body:v_ Stmt}{rest:v_ ExceptHandler}{Dc U:Addr}{nm:Str}{th:TH}{ts:Addr->TS}{tb:YZ}
def d6(K:Frag)(Dc:Db)(i:Nat)(ts:Db->TS)(th:TH):TH:=λD C d Z H=>∃nm U,XC K nm C U/\((C=Dc\/U=Dc)/\(∀a u,H a=s_->XT C d a u->ts a {nx:=λb c=>D.nx (b.set i s_) c,rt:=D.rt,bk:=λb c=>D.bk (b.set i s_) c,ct:=λb c=>D.ct (b.set i s_) c} (Z.set i^P3^.ref a)^A4 H a u)\/C≠Dc/\U≠Dc/\th D C d Z H)
def dQ(K:Frag)(D:Db):Prop:=∃nm q N d c e f a g b h j k l m o,K.lookup D=P3^excClassObj nm q D N d c e f a g b h j k l m o "ValueError.__new__"/\c.contains^.type "BaseException"=t_
def XC.isX{K:Frag}{C:Db}(c:XC K nm C U):dQ K C:=by
 let#[q,N,a,b,d,f,g,h,j,k,l,m,o,e]:=c.obj;exact#[nm,q,N,a,_,_,b,_,f,_,h,j,k,l,m,o,e,by simp[C4]]
def XC.isU{K:Frag}{C:Db}(c:XC K nm C U):dQ K U:=by
 let#[q,N,a,b,d,f,g,h,j,k,l,m,o,p,e]:=c.up;exact#[_,q,N,a,_,_,b,_,f,_,h,j,k,l,m,o,e,by simp[C4]]
def Je{C U D:Db}:(jE C::jE U::C4).contains^.ref D=(decide (C=D)||decide (U=D)):=by
 simp only[List.contains_cons,C4,List.contains_nil]
 have d:∀(a b:Db),(jE a==jE b)=decide (b=a):=λa b=>by
  grind
 have c:∀T,(jE D==md T)=u_:=λT=>rfl;rw[d,d,c,c,c,c];simp
def Y8(hN:X.N.Nodup)(hi:X.N[i]?=P3 n)(R:X.env.scope.names.lookup n=P3 .local)(hg:Gl X x)(hm:X.mg x=P3^.ref Dc)(hD:dQ X.K Dc)(a4:X.stack=X.env::X.outer)(a5:X.env.frame=P3 X.env.locals)
  (hs:∀a,PSs (X.hush^X.A.mark^P3^.ref a) (b₀::suite)^ts a) (o:PH X rest th) (hd:(x==("__debug__":Str))=u_:=by cbv):
  PH X (.ExceptHandler (P3^.Name x np) (P3 n) (b₀::suite) pos::rest) (d6 X.K Dc i ts th):=by
 intro t Z D a C dx B H0 s0 H s I c h;let#[nm,U,xc,h]:=h;have J:=c.inv I;have E:(X.A.mark^P3^.ref a).frames=P3 X.stack:=I.ok.frames;have J':=J.hush E;refine wpAny_handleBy_cons (codeAny_handlers_test ?_) (by intro q;cases q);refine D7 (X:=X.hush^X.A.mark^P3^.ref a) J' hg hm ?_ hd;let#[a6,q',N',a7,a8,a9,b0,a2,b1,a3,b2,l0,l1,l2,l3,l5,eD,hB]:=hD;let#[q,N,bs,sn,b3,ab,b4,dd,k0,k1,k2,k3,k5,eC]:=xc.obj;let#[vs,sl,tb,hx,h2,h1,hT]:=c.fly.obj;let#[hh,g,dr,tk,os]:=s;refine VU (J.kIn _ _ eC) (J.kIn _ _ eD) hB hx rfl ?_;rw[Je]
 rcases h with⟨S,h⟩|⟨n1,n2,h⟩
 .have e:(decide (C=Dc)||decide (U=Dc))=t_:=by rcases S with z|z <;>simp[z]
  rw[e];refine codeAny_handlers_suite_as ?_;refine Gx (s:=#[hh,g,dr,tk,os]) c.fly λh' f' u'=>?_;have c2:=c.step f' u';have J2:=c2.inv I;let#[F,G,b5,L,T,_]:=f'.obj
  have J3:Inv X t Z (A4 H a^.frz #[.ref C,dx,.fields F,G]^.own a) #[h',g,dr,tk,os]:=by
   refine J2.track c.free (jJ I.sz c.new) (lS^jW I.lt c.new) (λy c' e z=>?_) (λp hp z=>?_) #[L,_,L]
   .let#[v,q]:=I.cell y c' e
    exact absurd (jW q.lt c.new)^by rw[z];exact j7 _
   .exact absurd (jW (Uf (I.pin p hp).1) c.new)^by rw[z];exact j7 _
  refine G6 J3 hN hi (.inl R) (v:=.ref a) (u:=.ref a) rfl (λs4 J4=>?_) (.inr R);have V:=hs a t s4 _ _ _ (J4.hush E)^h a _ c.free #[F,G,rfl,T];refine jh V (λf W O=>?_) λe W z=>z.elim
  have j:∀{k:St}{b:Hp}{P:St->Hp->Prop}{Q:Go->Prop},Inv (X.hush^X.A.mark^P3^.ref a) t k b W->P (k.set i s_) b->(∀l,Inv X t (k.set i s_) b l->Q l)->
    wpAny (model X.prog X.w) X.A (do bindName X.env n .none;unbindBehindTheSuite X.env n pos) (λ_ l=>Q l) X.xe W:=λ{k b P Q} d _ kq=>by
   let#[m,hn,Y]:=d.loc;refine wpAny_nameGoes_keeps (M:=model X.prog X.w) R hn (by show(X.env.scope.kind==.class||(X.env.scope.kind==.module&&X.env.locals !=X.env.globals))=u_;rw[I.ok.kind];rfl) λh6 v a0 a1=>?_;exact kq _^(d.unhush I.ok).gone hN hi Y a0 a1
  cases f with
  |next=>
   let#[k,b,d,q]:=O;exact j (P:=D.nx) d q λl r=>#[_,b,r,q]
  |brk=>
   let#[k,b,d,q]:=O;exact j (P:=D.bk) d q λl r=>#[_,b,r,q]
  |cont=>
   let#[k,b,d,q]:=O;exact j (P:=D.ct) d q λl r=>#[_,b,r,q]
  |ret u=>
   let#[v,k,b,d,rv,q]:=O;exact j (P:=λ_ b=>D.rt v b) d q λl r=>#[v,_,b,r,rv,q]
 .have e:(decide (C=Dc)||decide (U=Dc))=u_:=by simp[n1,n2]
  rw[e];exact o t Z D a C dx B H0 s0 H _ I c h
def ax:TH:=λ_ _ _ _ _=>False
def bW:PH X [] ax:=λ_ _ _ _ _ _ _ _ _ _ _ _ _ h=>h.elim
def gZ(tb:YZ)(th:TH):TS:=λD Z H=>tb D (λC b c=>∃a,C=.ref a/\th D a b Z c) Z H
def bS{b:nJ}(d:X.stack=X.env::X.outer)(g:X.env.frame=P3 X.env.locals)(hx:∀e s,X.xe e s->False)(o:Vo X body tb)(p:PH X (b::rest) th):PS X (.Try body (b::rest) [] [] pos)^gZ tb th:=by
 intro k s Z H D I h;refine wpAny_Try_except^jh (o k s Z H D _ I h) (λf l q=>?_) λe l q=>?_
 .cases f with
  |next=>exact me q
  |_=>exact q
 .rcases q with q|⟨r,t,u,a,C,v,B,w,rfl,c,L,y,j⟩
  .grind
  .cases y
   have m:=c.fly;rw[d]at m;have fr:=I.ok.frames;rw[d]at fr;refine QT fr g m λz A E=>?_;have F:=c.step (by grind) E;refine Gx (s:={l with heap:=z}) A λM G J=>?_;have K:=F.step (by rw[d];exact G) J;exact p k Z D a C v B r t w _ u K j
end
end L2
namespace Dp
open L2
inductive D where
 |non|bl (b:Bool)|int (i:Int)|str (x:Str)|tup (xs:List D)|lst (xs:List D)|dic (ks:List Key) (xs:List D)|fdi (ks:List Key) (xs:List D)|dit (ks:List^List Key) (xs:List D)
 deriving Inhabited
def NdT(M:Db->Prop)(H:Hp)(a:Db)(b:v_ V):Prop:=H a=P3^.tup b
def NdL(M:Db->Prop)(H:Hp)(a:Db)(b:v_ V):Prop:=¬M a/\H a=P3^.lst b
def NdD(M:Db->Prop)(H:Hp)(a:Db)(b:v_ Key)(c:v_ V):Prop:=¬M a/\H a=P3^.dK^b.zip c
def NdF(M:Db->Prop)(H:Hp)(a:Db)(b:v_ Key)(c:v_ V):Prop:=∃o,¬M a/\H a=P3^.frz o^.dK^b.zip c
def NdU(M:Db->Prop)(H:Hp)(a:Db)(b:v_^v_ Key)(c:v_ V):Prop:=¬M a/\H a=P3^.dT^b.zip c
mutual
def At(K:Frag)(M:Db->Prop)(H:Hp):D->V->Prop
 |.non,v=>v=.non
 |.bl b,v=>v=.bl b
 |.int i,v=>v=.int i
 |.str x,v=>v=.str x/\x.length<=sizeLine
 |.tup ds,v=>∃a vs,v=.ref a/\NdT M H a vs/\Ats K M H ds vs
 |.lst ds,v=>∃a vs,v=.ref a/\NdL M H a vs/\Ats K M H ds vs
 |.dic ks ds,v=>∃a vs,v=.ref a/\NdD M H a ks vs/\ks.length=ds.length/\Ats K M H ds vs
 |.fdi ks ds,v=>∃a vs,v=.ref a/\NdF M H a ks vs/\ks.length=ds.length/\Ats K M H ds vs
 |.dit ks ds,v=>∃a vs,v=.ref a/\NdU M H a ks vs/\ks.length=ds.length/\Ats K M H ds vs
def Ats(K:Frag)(M:Db->Prop)(H:Hp):v_ D->v_ V->Prop
 |[],vs=>vs=[]
 |d::ds,vs=>∃v r,vs=v::r/\At K M H d v/\Ats K M H ds r
end
section
variable {K:Frag}{M M':Addr->Prop}{H H':Hp}{a:Addr}{vs:v_ V}{ks:v_ Key}
def NdT.sq(h:NdT M H a vs):SqT K H a vs:=.inl^.inl h
def NdL.sq(h:NdL M H a vs):SqL K H a vs:=.inl^.inl h.2
def Pres(M:Db->Prop)(H:Hp)(M':Db->Prop)(H':Hp):Prop:=(∀b o,H b=P3 o->¬M b->H' b=P3 o)/\(∀b,M' b->M b\/H b=s_)/\∀b vs,H b=P3^.tup vs->H' b=P3^.tup vs
def Pres.nd{u:HO}(p:Pres M H M' H')(n:¬M a)(h:H a=P3 u):¬M' a/\H' a=P3 u:=by
 refine#[λz=>?_,p.1 _ _ h n]
 rcases p.2.1 a z with z|z
 .exact n z
 grind
def NdT.pres(p:Pres M H M' H')(h:NdT M H a vs):NdT M' H' a vs:=p.2.2 _ _ h
def NdL.pres(p:Pres M H M' H')(h:NdL M H a vs):NdL M' H' a vs:=p.nd h.1 h.2
def NdD.pres(p:Pres M H M' H')(h:NdD M H a ks vs):NdD M' H' a ks vs:=p.nd h.1 h.2
def NdU.pres{ks:v_^v_ Key}(p:Pres M H M' H')(h:NdU M H a ks vs):NdU M' H' a ks vs:=p.nd h.1 h.2
def NdF.pres(p:Pres M H M' H')(h:NdF M H a ks vs):NdF M' H' a ks vs:=let #[o,b,c]:=h;#[o,p.nd b c]
mutual
theorem At.pres(p:Pres M H M' H'):∀{d:D}{v:V},At K M H d v->At K M' H' d v
 |.non,v,h=>h
 |.bl b,v,h=>h
 |.int i,v,h=>h
 |.str x,v,h=>h
 |.tup ds,v,h=>by
  let#[a,vs,e,hn,hs]:=h;exact#[a,vs,e,hn.pres p,Ats.pres p hs]
 |.lst ds,v,h=>by
  let#[a,vs,e,hn,hs]:=h;exact#[a,vs,e,hn.pres p,Ats.pres p hs]
 |.dic ks ds,v,h=>by
  let#[a,vs,e,hn,hl,hs]:=h;exact#[a,vs,e,hn.pres p,hl,Ats.pres p hs]
 |.fdi ks ds,v,h=>by
  let#[a,vs,e,hn,hl,hs]:=h;exact#[a,vs,e,hn.pres p,hl,Ats.pres p hs]
 |.dit ks ds,v,h=>by
  let#[a,vs,e,hn,hl,hs]:=h;exact#[a,vs,e,hn.pres p,hl,Ats.pres p hs]
theorem Ats.pres(p:Pres M H M' H'):∀{ds:v_ D}{vs:v_ V},Ats K M H ds vs->Ats K M' H' ds vs
 |[],vs,h=>h
 |d::ds,vs,h=>by
  let#[v,r,e,h1,h2]:=h;exact#[v,r,e,At.pres p h1,Ats.pres p h2]
end
def Pres.trans{M1 M2 d:Db->Prop}{c H2 f:Hp}(p:Pres M1 c M2 H2)(q:Pres M2 H2 d f):Pres M1 c d f:=by
 refine#[λb o e n=>?_,λb z=>?_,λb vs e=>q.2.2 b vs^p.2.2 b vs e]
 .refine q.1 b o (p.1 b o e n) λz=>?_
  rcases p.2.1 b z with z|z
  .exact n z
  grind
 .rcases q.2.1 b z with z|z
  .exact p.2.1 b z
  .cases e:c b with
   |none=>grind
   |some o=>
    by_cases n:M1 b
    .exact .inl n
    .rw[p.1 b o e n]at z;cases z
def Pres.refl(M:Db->Prop)(H:Hp):Pres M H M H:=#[λ_ _ e _=>e,λ_ z=>.inl z,λ_ _ e=>e]
def Pres.less(h:∀b,M' b->M b):Pres M H M' H:=#[λ_ _ e _=>e,λb z=>.inl^h b z,λ_ _ e=>e]
theorem Ats.length:∀{b:v_ D}{vs:v_ V},Ats K M H b vs->vs.length=b.length
 |[],vs,h=>by cases h;rfl
 |d::b,vs,h=>by
  let#[v,r,e,f,c]:=h;subst e;rw[jC,jC,Ats.length c]
theorem Ats.get:∀{b:v_ D}{vs:v_ V}{i:Nat}{d:D},Ats K M H b vs->b[i]?=P3 d->∃v,vs[i]?=P3 v/\At K M H d v
 |[],vs,i,d,h,e=>by simp at e
 |f::b,vs,0,d,h,e=>by
  let#[v,r,g,j,c]:=h
  simp_all
 |f::b,vs,i+1,d,h,e=>by
  let#[v,r,g,j,c]:=h;let#[u,k,l]:=Ats.get c^by simpa using e
  simp_all
theorem Ats.append:∀{f b:v_ D}{vs c:v_ V},Ats K M H f vs->Ats K M H b c->Ats K M H (f++b) (vs++c)
 |[],b,vs,c,h,g=>by cases h;exact g
 |d::f,b,vs,c,h,g=>by
  let#[v,r,e,i,j]:=h;subst e;exact#[v,_,rfl,i,Ats.append j g]
theorem Ats.drop:∀{b:v_ D}{vs:v_ V} (n:Nat),Ats K M H b vs->Ats K M H (b.drop n)^vs.drop n
 |b,vs,0,h=>h
 |[],vs,n+1,h=>by cases h;exact rfl
 |d::b,vs,n+1,h=>by
  let#[v,r,e,f,c]:=h;subst e;exact Ats.drop n c
theorem Ats.take:∀{b:v_ D}{vs:v_ V} (n:Nat),Ats K M H b vs->Ats K M H (b.take n)^vs.take n
 |b,vs,0,h=>rfl
 |[],vs,n+1,h=>by cases h;exact rfl
 |d::b,vs,n+1,h=>by
  let#[v,r,e,c,f]:=h;subst e;exact#[v,_,rfl,c,Ats.take n f]
def Ats.one{d:D}{v:V}(h:At K M H d v):Ats K M H [d] [v]:=#[v,[],rfl,h,rfl]
theorem Ats.eraseIdx:∀{b:v_ D}{vs:v_ V} (i:Nat),Ats K M H b vs->Ats K M H (b.eraseIdx i)^vs.eraseIdx i
 |[],vs,i,h=>by cases h;exact rfl
 |f::b,vs,0,h=>by
  let#[u,r,c,d,e]:=h
  grind
 |f::b,vs,i+1,h=>by
  let#[u,r,c,d,e]:=h;subst c;exact#[u,_,rfl,d,Ats.eraseIdx i e]
theorem Ats.reverse:∀{b:v_ D}{vs:v_ V},Ats K M H b vs->Ats K M H b.reverse vs.reverse
 |[],vs,h=>by cases h;exact rfl
 |d::b,vs,h=>by
  let#[v,r,e,c,f]:=h;subst e;rw[my,my];exact Ats.append (Ats.reverse f)^Ats.one c
end
inductive Kd where
 |sh|tp|fr
def Tops(K:Frag)(M:Db->Prop)(H:Hp)(a:Db):D->Prop
 |.lst c=>∃b,H a=P3^.lst b/\Ats K M H c b
 |.dic d c=>∃b,H a=P3^.dK^d.zip b/\d.length=c.length/\Ats K M H c b
 |.dit d c=>∃b,H a=P3^.dT^d.zip b/\d.length=c.length/\Ats K M H c b
 |_=>False
def Tops.notT{K:Frag}{M:Db->Prop}{H:Hp}{a:Db}{d:D}(h:Tops K M H a d){f:v_ V}:H a≠P3^.tup f:=λq=>by
 cases d with
 |lst b=>let#[c,e,_]:=h;grind
 |dic g b=>let#[c,e,_]:=h;grind
 |dit g b=>let#[c,e,_]:=h;grind
 |_=>exact h.elim
def Tops.pres{K:Frag}{M j:Db->Prop}{H g:Hp}{a:Db}{d:D}(h:Tops K M H a d)(p:Pres M H j g)(e:∀o,H a=P3 o->g a=P3 o):Tops K j g a d:=by
 cases d with
 |lst k=>let#[b,c,f]:=h;exact#[b,e _ c,f.pres p]
 |dic l k=>let#[b,c,f,i]:=h;exact#[b,e _ c,f,i.pres p]
 |dit l k=>let#[b,c,f,i]:=h;exact#[b,e _ c,f,i.pres p]
 |_=>assumption
def Tops.at{K:Frag}{M:Db->Prop}{H:Hp}{a:Db}{d:D}(h:Tops K M H a d)(n:¬M a):At K M H d^.ref a:=by
 cases d with
 |lst g=>let#[b,c,e]:=h;exact#[a,b,rfl,#[n,c],e]
 |dic i g=>let#[b,c,e,f]:=h;exact#[a,b,rfl,#[n,c],e,f]
 |dit i g=>let#[b,c,e,f]:=h;exact#[a,b,rfl,#[n,c],e,f]
 |_=>exact(h).elim
def AtT(K:Frag)(U:Db->Prop)(M:Db->Prop)(H:Hp):D->V->Prop
 |.lst c,v=>∃a b,v=.ref a/\¬U a/\Rd H a^.lst b/\Ats K M H c b
 |.dic e c,v=>∃a b,v=.ref a/\¬U a/\H a=P3^.dK^e.zip b/\e.length=c.length/\Ats K M H c b
 |.dit e c,v=>∃a b,v=.ref a/\¬U a/\H a=P3^.dT^e.zip b/\e.length=c.length/\Ats K M H c b
 |d,v=>At K M H d v
def Tops.att{K:Frag}{U M:Db->Prop}{H:Hp}{a:Db}{d:D}(h:Tops K M H a d)(n:¬U a):AtT K U M H d^.ref a:=by
 cases d with
 |lst g=>let#[b,c,e]:=h;exact#[a,b,rfl,n,.inl c,e]
 |dic i g=>let#[b,c,e,f]:=h;exact#[a,b,rfl,n,c,e,f]
 |dit i g=>let#[b,c,e,f]:=h;exact#[a,b,rfl,n,c,e,f]
 |_=>exact(h).elim
def VR(K:Frag)(U:Db->Prop)(M:Db->Prop)(H c:Hp):Kd->V->D->Prop
 |.sh,v,d=>At K M c d v
 |.tp,v,d=>AtT K U M c d v
 |.fr,v,d=>∃a,v=.ref a/\H a=s_/\Tops K (λb=>M b\/b=a) c a d
def FeedOk(K:Frag)(M:Db->Prop)(H:Hp)(f:Db×Db)(n:Nat):Prop:=
 ∃(at_ b:Int) (a:v_ Int),H f.1=P3^.lst [.ref f.2,.int at_,.int b]/\f.2≠f.1/\NdL M H f.2^a.map V.int/\a.length<=63/\0<=at_/\at_+n<=2 ^ 60
def FeedC(K:Frag)(F:w_ (Db×Db))(M:Db->Prop)(H:Hp)(n:Nat):Prop:=∀f,F=P3 f->FeedOk K M H f n
def Ext(U:Db->Prop)(H c:Hp):Prop:=∀b o,H b=P3 o->∃a,c b=P3 a/\(¬U b->a=o)/\∀d,o=.tup d->a=o
def Ext.keep{U:Db->Prop}{H a:Hp}(p:Ext U H a){b:Db}{o:HO}(e:H b=P3 o)(n:¬U b):a b=P3 o:=by
 let#[c,q,r,_]:=p b o e;rw[q,r n]
def Ext.tup{U:Db->Prop}{H a:Hp}(p:Ext U H a){b:Db}{c:v_ V}(e:H b=P3^.tup c):a b=P3^.tup c:=by
 let#[d,q,_,r]:=p b _ e
 grind
def Ext.free{U:Db->Prop}{H a:Hp}(p:Ext U H a){b:Db}(e:a b=s_):H b=s_:=by
 cases q:H b with
 |none=>rfl
 |some o=>
  let#[c,z,_]:=p b o q
  grind
def Ext.refl(U:Db->Prop)(H:Hp):Ext U H H:=λ_ o e=>#[o,e,λ_=>rfl,λ_ _=>rfl]
def Ext.trans{U:Db->Prop}{c H2 d:Hp}(p:Ext U c H2)(q:Ext U H2 d):Ext U c d:=λb o e=>by
 let#[g,h,i,f]:=p b o e;let#[j,k,l,m]:=q b g h;exact#[j,k,λn=>(l n).trans^i n,λa z=>(m a^(f a z).trans z).trans^f a z]
def Grow(H a:Hp):Prop:=a=H\/∃p o,H p=s_/\a=A4 H p o
def Grow.all{H a:Hp}(g:Grow H a):∀b o,H b=P3 o->a b=P3 o:=by
 intro b o e
 rcases g with rfl|⟨p,u,n,rfl⟩
 .exact e
 .rw[AW^A6 e n];exact e
def Grow.refl{H:Hp}:Grow H H:=.inl rfl
def Grow.ext{U:Db->Prop}{H a:Hp}(g:Grow H a):Ext U H a:=λb o e=>#[o,g.all b o e,λ_=>rfl,λ_ _=>rfl]
def Grow.pres{M:Db->Prop}{H a:Hp}(g:Grow H a):Pres M H M a:=#[λb o e _=>g.all b o e,λ_ z=>.inl z,λb c e=>g.all b _ e]
def FeedOk.pres{K:Frag}{M c:Db->Prop}{H b:Hp}{f:Db×Db}{n:Nat}(h:FeedOk K M H f n)(p:Pres M H c b)(e:∀o,H f.1=P3 o->b f.1=P3 o):FeedOk K c b f n:=by
 let#[a,r,d,g,i,j,k]:=h;exact#[a,r,d,e _ g,i,j.pres p,k]
def FeedC.pres{K:Frag}{F:w_ (Db×Db)}{M b:Db->Prop}{H a:Hp}{n:Nat}(h:FeedC K F M H n)(p:Pres M H b a)(e:∀f o,F=P3 f->H f.1=P3 o->a f.1=P3 o):FeedC K F b a n:=λf c=>(h f c).pres p λo q=>e f o c q
def FeedC.grow{K:Frag}{F:w_ (Db×Db)}{M:Db->Prop}{H a:Hp}{n:Nat}(h:FeedC K F M H n)(g:Grow H a):FeedC K F M a n:=h.pres g.pres λf o _ e=>g.all _ o e
def FeedC.more{K:Frag}{F:w_ (Db×Db)}{M:Db->Prop}{H:Hp}{n:Nat}(h:FeedC K F M H n)(a:Db)(e:∀f,F=P3 f->f.2≠a):FeedC K F (λb=>M b\/b=a) H n:=λf c=>by
 let#[x,r,g,i,j,d,k]:=h f c;exact#[x,r,g,i,j,#[λz=>z.elim d.1^e f c,d.2],k]
def AtX(K:Frag)(M:Db->Prop)(H:Hp)(a:Db)(g:Str)(b:v_ Str)(f:v_ D):Prop:=∃C U c u e,XC K g C U/\(¬M a/\H a=P3 u)/\XT C c a u/\(c=s_/\b=[]/\e=[]\/∃d,c=P3 d/\¬M d/\H d=P3^.ext^XF d^b.zip e)/\b.length=f.length/\Ats K M H f e
def AtX.pres{K:Frag}{M b:Db->Prop}{H e:Hp}{a:Db}{f:Str}{g:v_ Str}{i:v_ D}(h:AtX K M H a f g i)(p:Pres M H b e):AtX K b e a f g i:=by
 let#[C,U,j,u,k,c,#[n,l],x,m,o,q]:=h;refine#[C,U,j,u,k,c,p.nd n l,x,?_,o,q.pres p]
 rcases m with z|⟨d,r,s,t⟩
 .exact .inl z
 .exact .inr #[d,r,p.nd s t]
inductive Slot where
 |no|sh (d:D)|br (d:D)|fd|ow (d:D)|lt (a:Db) (d:D)|ex (a:Db) (nm:Str) (ks:List Str) (ds:List D)
def Slot.owns:Slot->Bool
 |.ow _=>t_
 |.lt _ _=>t_
 |_=>u_
def SlotOk(K:Frag)(F:w_ (Db×Db))(U:Db->Prop)(M:Db->Prop)(H:Hp):Slot->w_ V->Prop
 |.no,_=>True
 |.sh d,o=>∃v,o=P3 v/\At K M H d v
 |.br d,o=>∃v,o=P3 v/\AtT K U M H d v
 |.fd,o=>∃f,o=P3^.ref f.1/\F=P3 f
 |.ow d,o=>∃a,o=P3^.ref a/\M a/\¬U a/\Tops K M H a d
 |.lt a d,o=>o=P3^.ref a/\M a/\¬U a/\Tops K M H a d
 |.ex a b c e,o=>o=P3^.ref a/\AtX K M H a b c e
structure Fm where
 M0:Db->Prop
 F:Option (Db×Db)
 U:Db->Prop
 V:Db->Prop
 H0:Hp
 zG:List ((Db->Prop)×Hp)
 kp:List (Db×HO)
def Apart(b:v_ Slot)(Z:L2.St):Prop:=∀(i j:Nat) (s t:Slot) (a:Db),b[i]?=P3 s->s.owns=t_->b[j]?=P3 t->t.owns=t_->(Z[i]?).getD s_=P3^.ref a->(Z[j]?).getD s_=P3^.ref a->i=j
structure Rel (K:Frag) (C:Fm) (M:Db->Prop) (H:Hp) (n:Nat) (ρ:List Slot) (Z:L2.St):Prop where
 len:ρ.length=Z.length
 sub:∀a,C.M0 a->M a
 dom:∀a,M a->∃o,H a=P3 o
 ext:Ext C.U C.H0 H
 fU:∀f,C.F=P3 f->C.U f.1
 uV:∀a,C.U a->C.V a
 vM:∀a,C.V a->M a
 feed:FeedC K C.F M H n
 sl:∀(i:Nat) (s:Slot),ρ[i]?=P3 s->SlotOk K C.F C.V M H s ((Z[i]?).getD s_)
 pin:∀p∈C.zG,Pres p.1 p.2 M H
 br0:∀(i:Nat) (d:D) (a:Db),ρ[i]?=P3^.br d->(Z[i]?).getD s_=P3^.ref a->∃o,C.H0 a=P3 o
 new:∀(i:Nat) (s:Slot) (a:Db),ρ[i]?=P3 s->s.owns=t_->(Z[i]?).getD s_=P3^.ref a->¬C.M0 a/\C.H0 a=s_
 two:Apart ρ Z
 kept:∀p∈C.kp,H p.1=P3 p.2/\M p.1/\¬C.V p.1/\∀(i:Nat) (d:D),ρ[i]?=P3^.ow d->(Z[i]?).getD s_≠P3^.ref p.1
section
variable {K:Frag}{C:Fm}{M:Addr->Prop}{H H':Hp}{n n':Nat}{ρ:v_ Slot}{Z:L2.St}{d:D}{v:V}{κ:Kd}
def Rel.pres(R:Rel K C M H n ρ Z)(e:Ext C.U H H'):Pres M H M H':=#[λb o q a=>e.keep q λz=>a^R.vM b^R.uV b z,λ_ z=>.inl z,λb c q=>e.tup q]
def AtT.pres{U q:Db->Prop}{s:Db->Prop}(h:AtT K q M H d v)(p:Pres M H s H')(e:Ext U H H')(l:∀a,U a->q a):AtT K q s H' d v:=by
 cases d with
 |lst m=>
  let#[a,g,j,c,f,k]:=h;refine#[a,g,j,c,?_,k.pres p]
  rcases f with f|⟨o,f⟩
  .exact .inl^e.keep f λz=>c^l a z
  .exact .inr #[o,e.keep f λz=>c^l a z]
 |dic t m=>
  let#[a,g,j,c,f,r,k]:=h;exact#[a,g,j,c,e.keep f λz=>c^l a z,r,k.pres p]
 |dit t m=>
  let#[a,g,j,c,f,r,k]:=h;exact#[a,g,j,c,e.keep f λz=>c^l a z,r,k.pres p]
 |non=>assumption
 |bl b=>assumption
 |int i=>assumption
 |str x=>assumption
 |tup m=>exact At.pres p h
 |fdi t m=>exact At.pres p h
def AtT.same{U r:Db->Prop}{s:Db->Prop}(h:AtT K U M H d v)(p:Pres M H s H')(e:∀a o,v=.ref a->H a=P3 o->H' a=P3 o)(m:∀a,v=.ref a->¬U a->¬r a):AtT K r s H' d v:=by
 cases d with
 |lst l=>
  let#[a,g,c,j,f,k]:=h;refine#[a,g,c,m a c j,?_,k.pres p]
  rcases f with f|⟨o,f⟩
  .exact .inl^e a _ c f
  .exact .inr #[o,e a _ c f]
 |dic t l=>
  let#[a,g,c,j,f,q,k]:=h;exact#[a,g,c,m a c j,e a _ c f,q,k.pres p]
 |dit t l=>
  let#[a,g,c,j,f,q,k]:=h;exact#[a,g,c,m a c j,e a _ c f,q,k.pres p]
 |non=>assumption
 |bl b=>assumption
 |int i=>assumption
 |str x=>assumption
 |tup l=>exact At.pres p h
 |fdi t l=>exact At.pres p h
def AtT.lies{U:Db->Prop}{a:Db}(h:AtT K U M H d^.ref a):∃o,H a=P3 o:=by
 cases d with
 |lst f=>
  let#[b,g,e,_,c,_]:=h;cases e
  rcases c with c|⟨o,c⟩
  .exact#[_,c]
  grind
 |dic j f=>
  let#[b,g,e,_,c,_]:=h
  grind
 |dit j f=>
  let#[b,g,e,_,c,_]:=h
  grind
 |non=>cases(h)
 |bl b=>cases(h)
 |int i=>cases(h)
 |str x=>cases(h).1
 |tup f=>
  let#[b,g,e,c,_]:=h;cases e;exact#[_,c]
 |fdi j f=>
  let#[b,g,e,#[o,_,c],_]:=h
  simp_all
def SlotOk.pres{F:w_ (Db×Db)}{U g i:Db->Prop}{s:Slot}{o:w_ V}(h:SlotOk K F g M H s o)(p:Pres M H i H')(m:∀a,M a->i a)(e:Ext U H H')(j:∀a,U a->g a):SlotOk K F g i H' s o:=by
 cases s with
 |no=>trivial
 |sh d=>let#[v,b,c]:=h;exact#[v,b,c.pres p]
 |ex a l r t=>let#[b,c]:=h;exact#[b,c.pres p]
 |br d=>let#[v,b,c]:=h;exact#[v,b,c.pres p e j]
 |fd=>exact h
 |ow d=>let#[a,b,c,f,k]:=h;exact#[a,b,m a c,f,k.pres p λo q=>e.keep q λz=>f^j a z]
 |lt a d=>let#[b,c,f,k]:=h;exact#[b,m a c,f,k.pres p λo q=>e.keep q λz=>f^j a z]
def Rel.step(R:Rel K C M H n ρ Z)(e:Ext C.U H H')(f:FeedC K C.F M H' n'):Rel K C M H' n' ρ Z:=by
 have p:=R.pres e;refine#[R.len,R.sub,λa z=>?_,R.ext.trans e,R.fU,R.uV,R.vM,f,λi s q=>(R.sl i s q).pres p (λ_ z=>z) e R.uV,λq b=>(R.pin q b).trans p,R.br0,R.new,R.two,λq b=>?_]
 .let#[o,c]:=R.dom a z
  let#[k,g,_]:=e a o c
  grind
 .let#[c,g,h,j]:=R.kept q b
  exact#[e.keep c λz=>h^R.uV _ z,g,h,j]
def Rel.udom(R:Rel K C M H n ρ Z):∀a,C.U a->∃o,H a=P3 o:=λa z=>R.dom a^R.vM a^R.uV a z
def At.tp{U:Db->Prop}(k:∀a,U a->M a)(h:At K M H d v):AtT K U M H d v:=by
 cases d with
 |lst j=>
  let#[a,f,e,c,g]:=h;exact#[a,f,e,λz=>c.1^k a z,.inl c.2,g]
 |dic m j=>
  let#[a,f,e,c,l,g]:=h;exact#[a,f,e,λz=>c.1^k a z,c.2,l,g]
 |dit m j=>
  let#[a,f,e,c,l,g]:=h;exact#[a,f,e,λz=>c.1^k a z,c.2,l,g]
 |non=>exact h
 |bl b=>exact h
 |int i=>exact h
 |str x=>exact h
 |tup j=>exact h
 |fdi m j=>exact h
def VR.back{U b:Db->Prop}{c:Hp}(e:Ext U H c)(h:VR K b M c H' κ v d):VR K b M H H' κ v d:=by
 cases κ with
 |sh=>exact h
 |tp=>exact h
 |fr=>
  let#[a,f,g,i]:=h;exact#[a,f,e.free g,i]
def VR.shOf{U:Db->Prop}(b:∀a,M a->∃o,H a=P3 o)(h:VR K U M H H' κ v d)(e:κ≠.tp):At K M H' d v:=by
 cases κ with
 |sh=>exact h
 |tp=>grind
 |fr=>
  let#[a,rfl,f,c]:=h;refine(c.pres (Pres.less λ_ z=>.inl z) λ_ z=>z).at λz=>?_
  grind
def VR.tpOf{U:Db->Prop}(b:∀a,M a->∃o,H a=P3 o)(c:∀a,U a->M a)(h:VR K U M H H' κ v d):AtT K U M H' d v:=by
 cases κ with
 |sh=>exact At.tp c h
 |tp=>exact h
 |fr=>exact At.tp c^VR.shOf b h^by grind
def FC{a:Type}{l:v_ a}{i j:Nat}{x y:a}(h:(l.set i x)[j]?=P3 y):(j=i/\i<l.length/\y=x)\/(j≠i/\l[j]?=P3 y):=by
 rw[pH]at h
 by_cases e:i=j
 .simp_all
 .rw[if_neg e]at h
  exact .inr #[λz=>e z.symm,h]
def Gk{l:L2.St}{i j:Nat}{x:w_ V}(h:j≠i):((l.set i x)[j]?).getD s_=(l[j]?).getD s_:=by
 rw[pH,if_neg λz=>h z.symm]
def RS{l:L2.St}{i:Nat}{x:w_ V}(h:i<l.length):((l.set i x)[i]?).getD s_=x:=by
 simp_all
def Rel.set(R:Rel K C M H n ρ Z){i:Nat}(h:At K M H d v):Rel K C M H n (ρ.set i^.sh d)^Z.set i^P3 v:=by
 have b:∀(j:Nat) (s:Slot),(ρ.set i^.sh d)[j]?=P3 s->s.owns=t_->ρ[j]?=P3 s/\((Z.set i^P3 v)[j]?).getD s_=(Z[j]?).getD s_:=λj s q o=>by
  rcases FC q with⟨_,_,rfl⟩|⟨f,q⟩
  .cases o
  .exact#[q,Gk f]
 refine#[by rw[mB,mB];exact R.len,R.sub,R.dom,R.ext,R.fU,R.uV,R.vM,R.feed,λj s q=>?_,R.pin,λj e a q c=>?_,λj s a q o c=>?_,λj k s t a g m c r u w=>?_,λp x=>?_]
 .rcases FC q with⟨rfl,y,rfl⟩|⟨f,q⟩
  .rw[RS^by rw[←R.len];exact y]
   exact#[v,rfl,h]
  .rw[Gk f]
   exact R.sl j s q
 .rcases FC q with⟨_,_,e⟩|⟨f,q⟩
  .cases e
  .rw[Gk f]at c
   exact R.br0 j e a q c
 .let#[g,e]:=b j s q o
  rw[e]at c;exact R.new j s a g o c
 .let#[z,A]:=b j s g m
  let#[B,l]:=b k t c r;rw[A]at u;rw[l]at w;exact R.two j k s t a z m B r u w
 .let#[D,E,F,G]:=R.kept p x
  refine#[D,E,F,λj e q=>?_];let#[g,l]:=b j _ q rfl;rw[l];exact G j e g
def Rel.owner(R:Rel K C M H n ρ Z){i:Nat}{s:Slot}(h:ρ[i]?=P3 s)(o:s.owns=t_):∃a e,(Z[i]?).getD s_=P3^.ref a/\M a/\¬C.V a/\Tops K M H a e/\¬C.M0 a/\C.H0 a=s_:=by
 have q:=R.sl i s h;cases s with
 |ow d=>let#[a,b,c,f,g]:=q;exact#[a,d,b,c,f,g,R.new i _ a h o b]
 |lt a d=>let#[b,c,f,g]:=q;exact#[a,d,b,c,f,g,R.new i _ a h o b]
 |_=>cases o
def Rel.setOw(R:Rel K C M H n ρ Z){i:Nat}{a:Db}(e:Ext C.U H H')(f:FeedC K C.F M H' n')(G:H a=s_)(h:Tops K (λb=>M b\/b=a) H' a d):
  Rel K C (λb=>M b\/b=a) H' n' (ρ.set i^.ow d) (Z.set i^P3^.ref a):=by
 have J:=R.step e f
 have I:∀b,M b->b≠a:=λb z q=>by
  let#[o,w]:=R.dom b z;rw[q,G]at w;cases w
 have X:¬C.M0 a/\C.H0 a=s_:=#[λz=>I a (R.sub a z) rfl,R.ext.free G];have P:Pres M H (λb=>M b\/b=a) H':=#[λb o q Y=>e.keep q λz=>Y^R.vM b^R.uV b z,λb z=>z.elim .inl λz=>.inr (by rw[z];exact G),λb L q=>e.tup q]
 have r:∀(j:Nat) (s:Slot),(ρ.set i^.ow d)[j]?=P3 s->(j=i/\s=.ow d/\((Z.set i^P3^.ref a)[j]?).getD s_=P3^.ref a)\/(j≠i/\ρ[j]?=P3 s/\((Z.set i^P3^.ref a)[j]?).getD s_=(Z[j]?).getD s_):=λj s q=>by
  rcases FC q with⟨rfl,hl,rfl⟩|⟨A,q⟩
  .exact .inl #[rfl,rfl,RS^by rw[←R.len];exact hl]
  .exact .inr #[A,q,Gk A]
 have D:∀(j:Nat) (s:Slot) (b:Db),ρ[j]?=P3 s->s.owns=t_->(Z[j]?).getD s_=P3^.ref b->b≠a:=λj s b q o z=>by
  let#[c,_,l,m,_]:=R.owner q o;rw[l]at z;cases z;exact I _ m
 have hd:∃o,H' a=P3 o:=by
  cases d with
  |lst Q=>let#[L,q,_]:=h;exact#[_,q]
  |dic ks Q=>let#[L,q,_]:=h;exact#[_,q]
  |dit ks Q=>let#[L,q,_]:=h;exact#[_,q]
  |_=>exact(show False from h).elim
 refine#[by rw[mB,mB];exact R.len,λb z=>.inl^R.sub b z,λb z=>?_,J.ext,R.fU,R.uV,λb z=>.inl^R.vM b z,f.more a λg hg q=>?_,λj s q=>?_,λq hq=>(R.pin q hq).trans P,λj x b q u=>?_,λj s b q o u=>?_,λj k s t b y S u T E B=>?_,λp hp=>?_]
 .rcases z with z|z
  .exact J.dom b z
  .rw[z];exact hd
 .let#[_,_,_,_,_,N,_]:=R.feed g hg
  have:=N.2
  rw[q,G]at this;cases this
 .rcases r j s q with⟨rfl,rfl,l⟩|⟨A,y,l⟩
  .rw[l]
   exact#[a,rfl,.inr rfl,λz=>I a (R.vM a z) rfl,h]
  .rw[l]
   exact(R.sl j s y).pres P (λ_ z=>.inl z) e R.uV
 .rcases r j _ q with⟨_,l,_⟩|⟨A,y,l⟩
  .cases l
  .rw[l]at u
   exact R.br0 j x b y u
 .rcases r j s q with⟨_,_,l⟩|⟨A,y,l⟩
  .rw[l]at u
   cases u;exact X
  .rw[l]at u
   exact R.new j s b y o u
 .rcases r j s y with⟨rfl,_,l⟩|⟨A,V,l⟩
  .rw[l]at E
   cases E
   rcases r k t u with⟨rfl,_,_⟩|⟨hk,O,x⟩
   .rfl
   .rw[x]at B
    exact absurd rfl (D k t a O T B)
  .rw[l]at E
   rcases r k t u with⟨rfl,_,x⟩|⟨hk,O,x⟩
   .rw[x]at B
    cases B;exact absurd rfl (D j s a V S E)
   .rw[x]at B
    exact R.two j k s t b V S O T E B
 .let#[h1,W,N,h4]:=J.kept p hp
  refine#[h1,.inl W,N,λj x q=>?_]
  rcases r j _ q with⟨_,_,l⟩|⟨A,y,l⟩
  .rw[l]
   intro z;cases z;exact I _ W rfl
  .rw[l]
   exact h4 j x y
def Rel.mut(R:Rel K C M H n ρ Z){i:Nat}{a:Db}{e:D}{o:HO}(E:ρ[i]?=P3^.ow d)(N:(Z[i]?).getD s_=P3^.ref a)(h:Tops K M (A4 H a o) a e):
  Rel K C M (A4 H a o) n (ρ.set i^.ow e) Z:=by
 let#[b,_,c,m,U,t,n0,V]:=R.owner E rfl;rw[N]at c;cases c;have F:Pres M H M^A4 H a o:=#[λb A q Y=>by rw[AW λz=>Y^by rw[z];exact m];exact q,λ_ z=>.inl z,λb vs q=>by rw[AW λz=>t.notT^by rw[←z];exact q];exact q]
 have l:∀(j:Nat) (s:Slot),(ρ.set i^.ow e)[j]?=P3 s->(j=i/\s=.ow e)\/(j≠i/\ρ[j]?=P3 s):=λj s q=>by
  rcases FC q with⟨rfl,hl,rfl⟩|⟨y,q⟩
  .exact .inl #[rfl,rfl]
  .exact .inr #[y,q]
 have I:∀(j:Nat) (s:Slot) (b:Db),j≠i->ρ[j]?=P3 s->s.owns=t_->(Z[j]?).getD s_=P3^.ref b->b≠a:=λj s b y q o z w=>by
  subst w;exact y (R.two j i s _ b q o E rfl z N)
 refine#[by rw[mB];exact R.len,R.sub,λb z=>?_,λb A q=>?_,R.fU,R.uV,R.vM,R.feed.pres F λf A hf q=>?_,λj s q=>?_,λq hq=>(R.pin q hq).trans F,λj O b q g=>?_,λj s b q G g=>?_,λj k s t b u W g G P Q=>?_,λp hp=>?_]
 .by_cases B:b=a
  .exact#[o,by rw[B,Ah]]
  .let#[A,q]:=R.dom b z
   exact#[A,by rw[AW B];exact q]
 .let#[G,g,r]:=R.ext b A q
  have B:b≠a:=λz=>by rw[z,V]at q;cases q
  exact#[G,by rw[AW B];exact g,r]
 .have B:f.1≠a:=λz=>U^by rw[←z];exact R.uV _^R.fU f hf
  rw[AW B];exact q
 .rcases l j s q with⟨rfl,rfl⟩|⟨y,u⟩
  .rw[N]
   exact#[a,rfl,m,U,h]
  .have g:=R.sl j s u
   cases s with
   |no=>trivial
   |sh d=>let#[v,c,x]:=g;exact#[v,c,x.pres F]
   |ex a nm ks ds=>let#[c,x]:=g;exact#[c,x.pres F]
   |br d=>
    let#[v,c,x]:=g;refine#[v,c,x.same F (λb A z q=>?_) λ_ _ z=>z];subst z;let#[o3,w]:=R.br0 j d b u c;rw[AW λz=>by rw[z,V]at w;cases w];exact q
   |fd=>exact g
   |ow d=>
    let#[b,c,x,J,L]:=g;exact#[b,c,x,J,L.pres F λA w=>by rw[AW (I j _ b y u rfl c)];exact w]
   |lt b d=>
    let#[c,x,J,L]:=g;exact#[c,x,J,L.pres F λA w=>by rw[AW (I j _ b y u rfl c)];exact w]
 .rcases l j _ q with⟨_,c⟩|⟨y,u⟩
  .cases c
  .exact R.br0 j O b u g
 .rcases l j s q with⟨rfl,_⟩|⟨y,u⟩
  .exact R.new j _ b E rfl g
  .exact R.new j s b u G g
 .rcases l j s u with⟨rfl,rfl⟩|⟨y,X⟩
  .rcases l k t g with⟨rfl,_⟩|⟨hk,S⟩
   .rfl
   .exact R.two j k _ t b E rfl S G P Q
  .rcases l k t g with⟨rfl,rfl⟩|⟨hk,S⟩
   .exact R.two j k s _ b X W E rfl P Q
   .exact R.two j k s t b X W S G P Q
 .let#[x,J,L,T]:=R.kept p hp
  have B:p.1≠a:=λz=>T i d E (by rw[N,z]);refine#[by rw[AW B];exact x,J,L,λj O q=>?_]
  rcases l j _ q with⟨rfl,_⟩|⟨y,u⟩
  .exact T j d E
  .exact T j O u
end
abbrev DW:=Nat->v_ Slot->(D->Nat->Prop)->Prop
abbrev IE:=Nat->v_ Slot->(Bool->Nat->Prop)->Prop
abbrev Ea:=Nat->v_ Slot->(v_ D->Nat->Prop)->Prop
abbrev Vx:=Nat->v_ Slot->(v_ Slot->Nat->Prop)->Prop
section
variable (X:Cx)
def DE(e:jX)(f:Kd)(w:DW):Prop:=∃t,PE X e t/\∀(C:Fm) (M:Db->Prop) (H:Hp) (n:Nat) (b:v_ Slot) (Z:L2.St) (P:D->Nat->Prop) (Q:VK),Rel X.K C M H n b Z->w n b P->
 (∀v a d c,Ext C.U H a->FeedC X.K C.F M a c->VR X.K C.V M H a f v d->P d c->Q v a)->t Z H Q
def DT(e:jX)(w:IE):Prop:=∃t,PT X e t/\∀(C:Fm) (M:Db->Prop) (H:Hp) (n:Nat) (c:v_ Slot) (Z:L2.St) (P:Bool->Nat->Prop) (Q:Bool->Hp->Prop),Rel X.K C M H n c Z->w n c P->
 (∀b a d,Ext C.U H a->FeedC X.K C.F M a d->P b d->Q b a)->t Z H Q
def DTW(e:jX)(w:IE):Prop:=∃t,PW X e t/\∀(C:Fm) (M:Db->Prop) (H:Hp) (n:Nat) (c:v_ Slot) (Z:L2.St) (P:Bool->Nat->Prop) (Q:Bool->Hp->Prop),Rel X.K C M H n c Z->w n c P->
 (∀b a d,Ext C.U H a->FeedC X.K C.F M a d->P b d->Q b a)->t Z H Q
def aX(g:v_ jX)(w:Ea):Prop:=∃t,PA X g t/\∀(C:Fm) (M:Db->Prop) (H:Hp) (n:Nat) (b:v_ Slot) (Z:L2.St) (P:v_ D->Nat->Prop) (Q:v_ V->Hp->Prop),Rel X.K C M H n b Z->w n b P->
 (∀c a e f,Ext C.U H a->FeedC X.K C.F M a f->Paired (λv d=>AtT X.K C.V M a d v) c e->P e f->Q c a)->t Z H Q
def aW(f:v_ jX)(w:Ea):Prop:=∃t,PA X f t/\∀(C:Fm) (M:Db->Prop) (H:Hp) (n:Nat) (b:v_ Slot) (Z:L2.St) (P:v_ D->Nat->Prop) (Q:v_ V->Hp->Prop),Rel X.K C M H n b Z->w n b P->
 (∀c a d e,Ext C.U H a->FeedC X.K C.F M a e->Ats X.K M a d c->P d e->Q c a)->t Z H Q
def Nj(K:Frag)(F:w_ (Db×Db))(a M:Db->Prop)(H:Hp)(v:V)(s:Slot):Prop:=SlotOk K F a M H s^P3 v/\s.owns=u_
def gB(e:jX)(w:Nat->v_ Slot->(Slot->Nat->Prop)->Prop):Prop:=∃t,PE X e t/\∀(C:Fm) (M:Db->Prop) (H:Hp) (n:Nat) (b:v_ Slot) (Z:L2.St) (P:Slot->Nat->Prop) (Q:VK),Rel X.K C M H n b Z->w n b P->
 (∀v a s c,Ext C.U H a->FeedC X.K C.F M a c->Nj X.K C.F C.V M a v s->P s c->Q v a)->t Z H Q
def aV(f:v_ jX)(w:Vx):Prop:=∃t,PA X f t/\∀(C:Fm) (M:Db->Prop) (H:Hp) (n:Nat) (b:v_ Slot) (Z:L2.St) (P:v_ Slot->Nat->Prop) (Q:v_ V->Hp->Prop),Rel X.K C M H n b Z->w n b P->
 (∀c a d e,Ext C.U H a->FeedC X.K C.F M a e->Paired (Nj X.K C.F C.V M a) c d->P d e->Q c a)->t Z H Q
end
def AC(i:Nat):DW:=λn a P=>match a[i]? with
 |some (.sh d)=>P d n
 |_=>False
def As(i:Nat):DW:=λn a P=>match a[i]? with
 |some (.sh d)=>P d n
 |some (.br d)=>P d n
 |some (.ow d)=>P d n
 |some (.lt _ d)=>P d n
 |_=>False
def wC(d:D):DW:=λn _ P=>P d n
section
variable {X:Cx}{a b c e:Expr}{κ zU zM:Kd}{wa wb wc:DW}{pos:Pos}
def getD_some{Z:L2.St}{i:Nat}{v:V}(h:(Z[i]?).getD s_=P3 v):Z[i]?=P3^P3 v:=by
 cases q:Z[i]? with
 |none=>simp_all
 |some o=>simp_all
def Zm{i:Nat}(h:PE X e^CA i):DE X e .sh^AC i:=by
 refine#[_,h,λC M H n j Z P Q R w q=>?_];unfold AC at w
 split at w
 .rename_i d c
  let#[v,f,g]:=R.sl i _ c;exact#[v,getD_some f,q v H d n (Ext.refl _ _) R.feed g w]
 grind
def X8{i:Nat}(h:PE X e^CA i):DE X e .tp^As i:=by
 refine#[_,h,λC M H n l Z P Q R w q=>?_];unfold As at w
 split at w
 .rename_i d c
  let#[v,f,g]:=R.sl i _ c;exact#[v,getD_some f,q v H d n (Ext.refl _ _) R.feed (At.tp R.vM g) w]
 .rename_i d c
  let#[v,f,g]:=R.sl i _ c;exact#[v,getD_some f,q v H d n (Ext.refl _ _) R.feed g w]
 .rename_i d c
  let#[a,f,_,j,k]:=R.sl i _ c;exact#[.ref a,getD_some f,q _ H d n (Ext.refl _ _) R.feed (k.att j) w]
 .rename_i a d c
  let#[f,_,j,k]:=R.sl i _ c;exact#[.ref a,getD_some f,q _ H d n (Ext.refl _ _) R.feed (k.att j) w]
 .exact w.elim
def dv(i:Nat){x:Str}{pos:Pos}(d:X.N[i]?=P3 x:=by rfl)(e:Vw X.env.scope x:=by first|exact TW rfl|exact jy (TW rfl)|exact jy (jy rfl))(hd:(x==("__debug__":Str))=u_:=by cbv)
  (c:(x==("__classdict__":Str))=u_:=by cbv):DE X (.Name x pos) .sh^AC i:=Zm^FJ d e hd c
def Dl(i:Nat){x:Str}{pos:Pos}(d:X.N[i]?=P3 x:=by rfl)(e:Vw X.env.scope x:=by first|exact TW rfl|exact jy (TW rfl)|exact jy (jy rfl))(hd:(x==("__debug__":Str))=u_:=by cbv)
  (c:(x==("__classdict__":Str))=u_:=by cbv):DE X (.Name x pos) .tp^As i:=X8^FJ d e hd c
def Hk{d:D}{v:V}(h:PE X e^tC v)(hd:∀M H,At X.K M H d v):DE X e .sh^wC d:=
 #[_,h,λC M H n c Z P Q R w q=>q v H d n (Ext.refl _ _) R.feed (hd M H) w]
def AG{i:Int}{j pos}:DE X (.Constant (.int i) j pos) .sh^wC^.int i:=Hk BD λ_ _=>rfl
def CO{b:Bool}{j pos}:DE X (.Constant (.bool b) j pos) .sh^wC^.bl b:=Hk e_ λ_ _=>rfl
def Be{j pos}:DE X (.Constant .none j pos) .sh^wC .non:=Hk be λ_ _=>rfl
def Ax{x:Str}{j pos}(hx:decide (x.length<=1000)=t_:=by rfl):DE X (.Constant (.str x) j pos) .sh^wC^.str x:=
 Hk bZ λ_ _=>#[rfl,jJ (of_decide_eq_true hx)^by cbv]
def DE.sh(h:DE X e κ wa)(c:κ≠.tp:=by intro z;cases z):DE X e .sh wa:=by
 let#[t,g,i]:=h;exact#[t,g,λC M H n j Z P Q R w q=>i C M H n j Z P Q R w λv k d l e f r p=>q v k d l e f (r.shOf R.dom c) p]
def E4(K:Frag)(κ:Kd)(r:R2)(f:D->D->(D->Prop)->Prop):Prop:=∀(U:Db->Prop) (M:Db->Prop) (H:Hp) (d e:D) (x y:V) (P:D->Prop) (Q:VK),(∀a,M a->∃o,H a=P3 o)->(∀a,U a->M a)->
 AtT K U M H d x->AtT K U M H e y->f d e P->(∀v c z,Grow H c->VR K U M H c κ v z->P z->Q v c)->r x y H Q
def AX(f:D->D->(D->Prop)->Prop)(wa wb:DW):DW:=λn c P=>wa n c λx d=>wb d c λy e=>f x y λz=>P z e
def Fc{r:R2}{f:D->D->(D->Prop)->Prop}(u:E4 X.K κ r f){o s:TE}(A:∀(C:Fm) (M:Db->Prop) (H:Hp) (n:Nat) (h:v_ Slot) (Z:L2.St) (P:D->Nat->Prop) (Q:VK),Rel X.K C M H n h Z->wa n h P->
   (∀v c d i,Ext C.U H c->FeedC X.K C.F M c i->VR X.K C.V M H c zU v d->P d i->Q v c)->o Z H Q)
  (B:∀(C:Fm) (M:Db->Prop) (H:Hp) (n:Nat) (h:v_ Slot) (Z:L2.St) (P:D->Nat->Prop) (Q:VK),Rel X.K C M H n h Z->wb n h P->
   (∀v c d i,Ext C.U H c->FeedC X.K C.F M c i->VR X.K C.V M H c zM v d->P d i->Q v c)->s Z H Q)
  (C:Fm) (M:Db->Prop) (H:Hp) (n:Nat) (h:v_ Slot) (Z:L2.St) (P:D->Nat->Prop) (Q:VK) (R:Rel X.K C M H n h Z) (w:AX f wa wb n h P)
  (q:∀v c d i,Ext C.U H c->FeedC X.K C.F M c i->VR X.K C.V M H c κ v d->P d i->Q v c):EK r o s Z H Q:=by
 refine A C M H n h Z _ _ R w λx E d G m I J L=>?_;have j:=R.step m I;refine B C M E G h Z _ _ j L λy H2 e N k t O S=>?_;have l:=j.step k t;exact u _ M H2 d e x y _ _ l.dom l.vM ((J.tpOf R.dom R.vM).pres (j.pres k) k R.uV) (O.tpOf j.dom j.vM) S λv T z g W p=>q v T z N ((m.trans k).trans g.ext) (t.grow g) (VR.back (m.trans k) W) p
def Ay{h:Operator}{r:R2}{f:D->D->(D->Prop)->Prop}(i:OpR X (binaryOp h) r)(j:E4 X.K κ r f)(k:DE X a zU wa)(l:DE X b zM wb):DE X (.BinOp a h b pos) κ^AX f wa wb:=by
 let#[o,c,d]:=k;let#[p,e,g]:=l;exact#[_,CB i c e,λC M H n m Z P Q R w q=>Fc j d g C M H n m Z P Q R w q]
def AS{r:R2}{f:D->D->(D->Prop)->Prop}(h:IxR X r)(i:E4 X.K κ r f)(j:DE X a zU wa)(k:DE X b zM wb)(l:UT b:=by intro _ _;rfl):DE X (.Subscript a b pos) κ^AX f wa wb:=by
 let#[o,c,d]:=j;let#[p,e,g]:=k;exact#[_,Es h c e l,λC M H n m Z P Q R w q=>Fc i d g C M H n m Z P Q R w q]
def Cg{c:CmpOp}{r:R2}{f:D->D->(D->Prop)->Prop}(i:OpR X (compareOp c) r)(j:E4 X.K .sh r f)(k:DE X a zU wa)(l:DE X b zM wb)(m:behindInMarks c b=u_):DE X (.Compare a [c] [b] pos) .sh^AX f wa wb:=by
 let#[p,d,e]:=k;let#[s,g,h]:=l;exact#[_,ZC i d g m,λC M H n o Z P Q R w q=>Fc j e h C M H n o Z P Q R w q]
def AZ(w:DW):IE:=λn c P=>w n c λd e=>match d with
 |.bl b=>P b e
 |_=>False
def G5{U:Db->Prop}{K:Frag}{M:Db->Prop}{H c:Hp}{v:V}{b:Bool}(h:VR K U M H c κ v^.bl b):v=.bl b:=by
 cases κ with
 |sh=>exact h
 |tp=>exact h
 |fr=>let#[a,_,_,t]:=h;exact(t).elim
def An{c:CmpOp}{r:R2}{f:D->D->(D->Prop)->Prop}(k:OpR X (compareOp c) r)(l:E4 X.K .sh r f)(m:DE X a zU wa)(o:DE X b zM wb)(s:behindInMarks c b=u_):DT X (.Compare a [c] [b] pos)^AZ^AX f wa wb:=by
 let#[y,g,h]:=m;let#[z,i,j]:=o;refine#[_,HM k g i s,λC M H n t Z P Q R w q=>?_];refine Fc l h j C M H n t Z _ _ R w λv u d x e f r p=>?_;cases d with
 |bl b=>exact#[b,G5 r,q b u x e f p]
 |_=>exact p.elim
def BR(h:DE X e κ wa)(g:∀c,isTrue e X.env c=(do let v ←c;standAt e.pos;holding [v]^truthy v):=by intro _;rfl):DT X e^AZ wa:=by
 let#[t,i,j]:=h;refine#[_,bP i g,λC M H n k Z P Q R w q=>?_];refine j C M H n k Z _ _ R w λv l d m e f r p=>?_;cases d with
 |bl b=>exact#[b,G5 r,q b l m e f p]
 |_=>exact p.elim
def RL(f g:D->D->(D->Prop)->Prop)(wa wb wc:DW):DW:=λn c P=>wa n c λx e=>wb e c λy d=>f x y λz=>match z with
 |.bl t_=>wc d c λu h=>g y u λr=>P r h
 |.bl u_=>P (.bl u_) d
 |_=>False
def YC{r J:R2}{f g:D->D->(D->Prop)->Prop}(Y:E4 X.K .sh r f)(hB:E4 X.K .sh J g){L N B:TE}{zH:Kd}(ha:∀(C:Fm) (M:Db->Prop) (H:Hp) (n:Nat) (h:v_ Slot) (Z:L2.St) (P:D->Nat->Prop) (Q:VK),Rel X.K C M H n h Z->wa n h P->
   (∀v c d i,Ext C.U H c->FeedC X.K C.F M c i->VR X.K C.V M H c zU v d->P d i->Q v c)->L Z H Q)
  (hb:∀(C:Fm) (M:Db->Prop) (H:Hp) (n:Nat) (h:v_ Slot) (Z:L2.St) (P:D->Nat->Prop) (Q:VK),Rel X.K C M H n h Z->wb n h P->
   (∀v c d i,Ext C.U H c->FeedC X.K C.F M c i->VR X.K C.V M H c zM v d->P d i->Q v c)->N Z H Q)
  (hc:∀(C:Fm) (M:Db->Prop) (H:Hp) (n:Nat) (h:v_ Slot) (Z:L2.St) (P:D->Nat->Prop) (Q:VK),Rel X.K C M H n h Z->wc n h P->
   (∀v c d i,Ext C.U H c->FeedC X.K C.F M c i->VR X.K C.V M H c zH v d->P d i->Q v c)->B Z H Q)
  (C:Fm) (M:Db->Prop) (H:Hp) (n:Nat) (h:v_ Slot) (Z:L2.St) (P:D->Nat->Prop) (Q:VK) (R:Rel X.K C M H n h Z) (w:RL f g wa wb wc n h P)
  (q:∀v c d i,Ext C.U H c->FeedC X.K C.F M c i->VR X.K C.V M H c .sh v d->P d i->Q v c):WM r J L N B Z H Q:=by
 refine ha C M H n h Z _ _ R w λx H1 d n1 E f1 r1 w1=>?_;have m:=R.step E f1;refine hb C M H1 n1 h Z _ _ m w1 λy H2 e O o G r2 w2=>?_;have j:=m.step o G;have ty:AtT X.K C.V M H2 e y:=r2.tpOf m.dom m.vM;refine Y C.V M H2 d e x y _ _ j.dom j.vM ((r1.tpOf R.dom R.vM).pres (m.pres o) o R.uV) ty w2 λv t z l vr p=>?_;have s:=j.step l.ext^G.grow l;cases z with
 | bl k=>
  exists k,vr;cases k with
  |false=>exact q _ t (.bl u_) O ((E.trans o).trans l.ext) (G.grow l) (show VR X.K C.V M H t .sh (.bl u_)^.bl u_ from rfl) p
  |true=>
   show B Z t _;refine hc C M t O h Z _ _ s p λu H4 d4 n4 A S r4 w4=>?_;have T:=s.step A S;refine hB C.V M H4 e d4 y u _ _ T.dom T.vM ((ty.pres l.pres (l.ext (U:=C.U)) R.uV).pres (s.pres A) A R.uV) (r4.tpOf s.dom s.vM) w4 λv5 H5 z5 W I p5=>?_;exact q v5 H5 z5 n4 ((((E.trans o).trans l.ext).trans A).trans W.ext) (S.grow W) I p5
 |_=>exact p.elim
def X0{i h:CmpOp}{r u:R2}{f g:D->D->(D->Prop)->Prop}{x:Kd}(y:OpR X (compareOp i) r)(z:E4 X.K .sh r f)(j:OpR X (compareOp h) u)(A:E4 X.K .sh u g)(B:DE X a zU wa)(E:DE X b zM wb)(F:DE X c x wc)
  (G:lastMarks [i,h] [b,c]=u_:=by with_unfolding_all rfl):DT X (.Compare a [i,h] [b,c] I)^AZ^RL f g wa wb wc:=by
 let#[O,k,l]:=B;let#[S,m,o]:=E;let#[T,s,t]:=F;refine#[_,Ww y j k m s G,λC M H n J Z P Q R w q=>?_];refine YC z A l o t C M H n J Z _ _ R w λv L d N e f r p=>?_;cases d with
 |bl b=>exact#[b,r,q b L N e f p]
 |_=>exact p.elim
def EJ(u v:IE):IE:=λn d P=>u n d λc e=>if c=t_ then v e d P else P u_ e
def EI(u v:IE):IE:=λn d P=>u n d λc e=>if c=t_ then P t_ e else v e d P
def B0(u:IE):IE:=λn d P=>u n d λc e=>P (!c) e
variable {wA wB:IE}{rest:v_ Expr}
def El(h:DT X a wA):DTW X (.BoolOp .And [a] pos) wA:=by
 let#[t,c,d]:=h;exact#[t,TR c,d]
def DK(h:DT X a wA):DTW X (.BoolOp .Or [a] pos) wA:=by
 let#[t,c,d]:=h;exact#[t,bN c,d]
def Em(i:DT X a wA)(j:DTW X (.BoolOp .And (b::rest) pos) wB):DTW X (.BoolOp .And (a::b::rest) pos)^EJ wA wB:=by
 let#[t,k,l]:=i;let#[u,m,o]:=j;refine#[_,Ws k m,λC M H n e Z P Q R w q=>?_];refine l C M H n e Z _ _ R w λc f g d h p=>?_;cases c with
 |false=>exact q _ f g d h p
 |true=>exact o C M f g e Z P Q (R.step d h) p λb H2 r s v x=>q b H2 r (d.trans s) v x
def Dk(i:DT X a wA)(j:DTW X (.BoolOp .Or (b::rest) pos) wB):DTW X (.BoolOp .Or (a::b::rest) pos)^EI wA wB:=by
 let#[t,k,l]:=i;let#[u,m,o]:=j;refine#[_,ej k m,λC M H n e Z P Q R w q=>?_];refine l C M H n e Z _ _ R w λc f g d h p=>?_;cases c with
 |true=>exact q _ f g d h p
 |false=>exact o C M f g e Z P Q (R.step d h) p λb H2 r s v x=>q b H2 r (d.trans s) v x
def DTW.dt(h:DTW X e wA):DT X e wA:=by
 let#[t,c,d]:=h;exact#[t,c.pt,d]
def Bo(d:DT X a wA):DT X (.UnaryOp .Not a pos)^B0 wA:=by
 let#[t,e,f]:=d;exact#[_,bQ e,λC M H n g Z P Q R w q=>f C M H n g Z _ _ R w λc h i j k p=>q _ h i j k p]
def F_(u v:DW):DW:=λn d P=>u n d λc e=>match c with
 |.bl t_=>v e d P
 |.bl u_=>P (.bl u_) e
 |_=>False
def Yg(u:DW):DW:=λn d P=>u n d λc e=>match c with
 |.bl b=>P (.bl (!b)) e
 |_=>False
def En{op}(h:DE X a κ wa):DE X (.BoolOp op [a] pos) κ wa:=by
 assumption
def C2(j:DE X a zU wa)(l:DE X (.BoolOp .And (b::rest) pos) .sh wb):DE X (.BoolOp .And (a::b::rest) pos) .sh^F_ wa wb:=by
 let#[t,m,o]:=j;let#[u,r,s]:=l;refine#[_,bh m r,λC M H n g Z P Q R w q=>?_];refine o C M H n g Z _ _ R w λc e d h f i x p=>?_;cases d with
 | bl k=>
  exists k,G5 x;cases k with
  |false=>exact q _ e _ h f i (show VR _ _ M H e _ _^.bl _ from rfl) p
  |true=>
   exact s C M e h g Z P Q (R.step f i) p λv H2 d y z A B D=>q v H2 d y (f.trans z) A B D
 |_=>exact p.elim
def SW(f:DE X a zU wa):DE X (.UnaryOp .Not a pos) .sh^Yg wa:=by
 let#[t,g,h]:=f;refine#[_,bd g,λC M H n i Z P Q R w q=>?_];refine h C M H n i Z _ _ R w λc e d j l m o p=>?_;cases d with
 |bl k=>exact#[k,G5 o,q _ e _ j l m (show VR _ _ M H e _ _^.bl _ from rfl) p]
 |_=>exact p.elim
def dY(t:IE)(u v:DW):DW:=λn d P=>t n d λc e=>if c=t_ then u e d P else v e d P
def UA(r:DT X c wA)(s:DE X a κ wa)(x:DE X b κ wb):DE X (.IfExp c a b pos) κ^dY wA wa wb:=by
 let#[t,y,z]:=r;let#[u,A,B]:=s;let#[F,D,E]:=x;refine#[_,P6 y A D,λC M H n f Z P Q R w q=>?_];refine z C M H n f Z _ _ R w λc l m e o p=>?_;cases c with
 |true=>exact B C M l m f Z P Q (R.step e o) p λv H2 d g h i j k=>q v H2 d g (e.trans h) i (VR.back e j) k
 |false=>exact E C M l m f Z P Q (R.step e o) p λv H2 d g h i j k=>q v H2 d g (e.trans h) i (VR.back e j) k
def AV:Ea:=λn _ P=>P [] n
def AF(w:DW)(e:Ea):Ea:=λn c P=>w n c λd f=>e f c λg h=>P (d::g) h
variable {es:v_ Expr}{ws:Ea}
def Af:aX X [] AV:=#[_,CJ,λC M H n c Z P Q R w q=>q [] H [] n (Ext.refl _ _) R.feed .nil w]
def AO:aW X [] AV:=#[_,CJ,λC M H n c Z P Q R w q=>q [] H [] n (Ext.refl _ _) R.feed rfl w]
def AU(i:DE X e κ wa)(j:aX X es ws)(k:starEach (e::es) X.env=(u_,eval e X.env)::starEach es X.env:=by rfl):aX X (e::es)^AF wa ws:=by
 let#[t,l,m]:=i;let#[u,o,r]:=j;refine#[_,BZ l o k,λC M H n f Z P Q R w q=>?_];refine m C M H n f Z _ _ R w λv s d x g y z p=>?_;have h:=R.step g y;exact r C M s x f Z _ _ h p λF H2 G A c B D E=>q _ H2 _ A (g.trans c) B (.cons ((z.tpOf R.dom R.vM).pres (h.pres c) c R.uV) D) E
def AD(i:DE X e κ wa)(j:aW X es ws)(k:κ≠.tp:=by intro z;cases z)(l:starEach (e::es) X.env=(u_,eval e X.env)::starEach es X.env:=by rfl):aW X (e::es)^AF wa ws:=by
 let#[t,m,o]:=i;let#[u,r,s]:=j;refine#[_,BZ m r l,λC M H n c Z P Q R w q=>?_];refine o C M H n c Z _ _ R w λv x d y f A B p=>?_;have g:=R.step f A;exact s C M x y c Z _ _ g p λD H2 E F h G I J=>q _ H2 (d::E) F (f.trans h) G #[v,D,rfl,(B.shOf R.dom k).pres^g.pres h,I] J
def BK(ws:Ea):DW:=λn d P=>ws n d λc e=>c.length<=sizeLine/\P (.tup c) e
def CG(ws:Ea):DW:=λn d P=>ws n d λc e=>c.length<=sizeLine/\P (.lst c) e
def Gw{M:Db->Prop}{H:Hp}{p:Db}{o:HO}(h:H p=s_):Pres M H (λb=>M b\/b=p)^A4 H p o:=#[λb u e _=>by rw[AW^A6 e h];exact e,λb z=>z.elim .inl λz=>.inr^by grind,λb c e=>by rw[AW^A6 e h];exact e]
def A1{H:Hp}{p:Db}{o:HO}(h:H p=s_):Grow H^A4 H p o:=.inr #[p,o,h,rfl]
def Ar{x1}(h:aW X es ws):DE X (.Tuple es x1 pos) .sh^BK ws:=by
 let#[t,f,i]:=h;refine#[_,bX f,λC M H n j Z P Q R w q=>?_];refine i C M H n j Z _ _ R w λc d k l m o e p=>?_;refine#[by rw[e.length];exact p.1,λa r=>?_];have g:Grow d^A4 d a^.tup c:=A1 r;refine q _ _ (.tup k) l (m.trans g.ext) (o.grow g) #[a,c,rfl,Ah,e.pres g.pres] p.2
def BN(h:aW X es ws):DE X (.List es pos) .fr^CG ws:=by
 let#[t,j,k]:=h;refine#[_,Rv j,λC M H n l Z P Q R w q=>?_];refine k C M H n l Z _ _ R w λd e m o f r i p=>?_;refine#[by rw[i.length];exact p.1,λa c=>?_];have g:Grow e^A4 e a^.lst d:=A1 c;exact q _ _ (.lst m) o (f.trans g.ext) (r.grow g) (VR.back f #[a,rfl,c,d,Ah,i.pres^Gw c]) p.2
def EY(K:Frag)(κ:Kd)(r:v_ V->Hp->VK->Prop)(f:v_ D->(D->Prop)->Prop):Prop:=∀(U:Db->Prop) (M:Db->Prop) (H:Hp) (e:v_ D) (g:v_ V) (P:D->Prop) (Q:VK),(∀a,M a->∃o,H a=P3 o)->(∀a,U a->M a)->
 Paired (λv d=>AtT K U M H d v) g e->f e P->(∀v c z,Grow H c->VR K U M H c κ v z->P z->Q v c)->r g H Q
def CI(f:v_ D->(D->Prop)->Prop)(ws:Ea):DW:=λn c P=>ws n c λd e=>f d λz=>P z e
def aQ{r:v_ V->Hp->VK->Prop}{f:v_ D->(D->Prop)->Prop}{t:TA}(o:EY X.K κ r f)(s:∀(C:Fm) (M:Db->Prop) (H:Hp) (n:Nat) (e:v_ Slot) (Z:L2.St) (P:v_ D->Nat->Prop) (Q:v_ V->Hp->Prop),Rel X.K C M H n e Z->ws n e P->
   (∀i c j h,Ext C.U H c->FeedC X.K C.F M c h->Paired (λv d=>AtT X.K C.V M c d v) i j->P j h->Q i c)->t Z H Q)
  (C:Fm) (M:Db->Prop) (H:Hp) (n:Nat) (e:v_ Slot) (Z:L2.St) (P:D->Nat->Prop) (Q:VK) (R:Rel X.K C M H n e Z) (w:CI f ws n e P)
  (q:∀v c d h,Ext C.U H c->FeedC X.K C.F M c h->VR X.K C.V M H c κ v d->P d h->Q v c):gF r t Z H Q:=by
 refine s C M H n e Z _ _ R w λi u j x k l y p=>?_;have m:=R.step k l;exact o _ M u j i _ _ m.dom m.vM y p λv H2 z g A B=>q v H2 z x (k.trans g.ext) (l.grow g) (VR.back k A) B
def Ao{x:Str}{g:String}{p:Pos}{r:v_ V->Hp->VK->Prop}{f:v_ D->(D->Prop)->Prop}(h:DR X (.builtin g) r)(i:EY X.K κ r f)(j:Gl X x)(k:X.mg x=s_)(l:bootBuiltins x=P3^.builtin g)(m:aX X (e::es) ws)
  (o:x ≠ "__name__":=by cbv) (c:(x==("__debug__":Str))=u_:=by cbv)
  (s:starEach (e::es) X.env=(u_,eval e X.env)::starEach es X.env:=by rfl) (d:(backTo pos^starEach es X.env).any (·.1)=u_:=by rfl):DE X (.Call (.Name x p) (e::es) [] pos) κ^CI f ws:=by
 let#[t,u,v]:=m;exact#[_,EN h j k l u o c s d,λC M H n y Z P Q R w q=>aQ i v C M H n y Z P Q R w q]
def BB{x:Str}{T:String}{p:Pos}{r:v_ V->Hp->VK->Prop}{f:v_ D->(D->Prop)->Prop}(g:DR X (.type T) r)(h:EY X.K κ r f)(i:Gl X x)(j:X.mg x=s_)(k:bootBuiltins x=P3^.type T)(l:aX X (e::es) ws)
  (m:x ≠ "__name__":=by cbv) (c:(x==("__debug__":Str))=u_:=by cbv)
  (o:starEach (e::es) X.env=(u_,eval e X.env)::starEach es X.env:=by rfl) (d:(backTo pos^starEach es X.env).any (·.1)=u_:=by rfl):DE X (.Call (.Name x p) (e::es) [] pos) κ^CI f ws:=by
 let#[t,s,u]:=l;exact#[_,NE g i j k s m c o d,λC M H n v Z P Q R w q=>aQ h u C M H n v Z P Q R w q]
end
end Dp
namespace L2
def iH(z:Str):It:=#[λi _=>i<z.cps.size,λi H x a=>a=H/\∃c,z.cps[i]?=P3 c/\x=.str #[#[ c]],λi _=>z.cps.size<=i]
def Pb{P:jM}{w:jT}{K:Frag}{S:jX}(it:Db)(z:Str)(t:Tok)(ty:String)(g:ty="str_ascii_iterator"\/ty="str_iterator")
  (W:∀M:jY,M.handled=s_->Walks P w M it [it] [it] z.cps.size (SignAt z) λi h=>h.IsStrIter it ty z t i):Turn P w K S (iH z) [it] it (λi h=>h.IsStrIter it ty z t i) where
 mem:=by simp
 obj:=λi h a b f=>by
  have e:b=it:=by simpa using f
  subst e;let#[o,e,c,d]:=a;exact#[o,e,λv z=>by rw[d]at z;cases z]
 keep:=λi h j a k=>let #[o,T,r]:=a;#[o,k it (by simp) o T,r]
 item:=by
  intro X C D F m i N s Z H E I n a G;subst C D F;let#[p,q,U,x,y,B]:=n it (by simp);refine(W X.A^I.ok.hd m).item i s _ _ G a λv j O V l Y=>?_;let#[c,u,J,rfl]:=V;have I1:Inv X N Z H {s with heap:=j,toks:=O}:=I.turned (λb o f e=>Y b o (by simpa using f) e) p q x y B;let#[o,e,cc,d]:=id l;exact#[_,rfl,QR (s:={s with heap:=j,toks:=O}) e cc d (by rcases g with rfl|rfl <;>decide) #[.str #[#[ c]],H,I1,#[_,rfl],#[rfl,c,J,rfl],l,λb f=>(n b f).1]]
 done:=by
  intro X C D F m i N s Z H E I n a G;subst C D F;let#[p,q,U,x,y,B]:=n it^by simp
  have R:z.cps[i]?=s_:=by
   have:z.cps.size<=i:=G
   simp[this]
  rcases g with rfl|rfl
  .exact wpAny_pyNext_ascii_end (I.ok.hd m) a R λj L=>#[rfl,I.turned (t':=s.toks) (λb o f e=>L b o f e) p q x y B]
  .exact wpAny_pyNext_wide_end (I.ok.hd m) a R λj L=>#[rfl,I.turned (t':=s.toks) (λb o f e=>L b o f e) p q x y B]
 self:=λA i s Q E a h=>by
  rcases g with rfl|rfl
  .exact wpAny_pyIter_striter_ascii a h
  .exact wpAny_pyIter_striter_wide a h
section
variable {X:Cx}{tg:Expr}
def g8(K:Frag)(d:TE):TI:=λZ H R=>d Z H λx b=>
 (∃a,x=.ref a/\(∃c,SqL K b a c)/\R (iI K a) b)\/(∃a,x=.ref a/\(∃c,SqT K b a c)/\R (c_ K a) b)\/∃z,x=.str z/\R (iH z) b
def Rq{l:jX}{n:TE}(w:PE X l n):PI X tg l^g8 X.K n:=by
 intro r s Z H R I h;refine thn (w r s Z H _ I h) λv c #[x,g,f,j,y]=>?_
 have d:∀b,b∈[c.heap.objs.size]->Fx X r g b:=λb A=>by
  have e:b=c.heap.objs.size:=by simpa using A
  subst e;exact f.fpOk (Op _)^f.hok.fresh^Op _
 rcases y with⟨a,e,⟨B,k⟩,q⟩|⟨a,e,⟨B,k⟩,q⟩|⟨z,e,q⟩
 .subst e
  cases j;let#[i,C,p,D]:=f.list k;refine k9 p.isList ?_;exact#[c.heap.objs.size,[c.heap.objs.size],_,_,g,rfl,f.kept (t':=c.toks) λb o e=>FM _ e,UW a _,#[_,XV _ rfl,rfl,rfl],d,q]
 .subst e
  cases j;let#[i,C,p,D]:=f.tuple k;refine lD (show c.heap.IsTuple a i.toArray from p) ?_;exact#[c.heap.objs.size,[c.heap.objs.size],_,_,g,rfl,f.kept (t':=c.toks) λb o e=>FM _ e,KY a _,#[_,XV _ rfl,rfl,rfl],d,q]
 .subst e
  let#[t,rfl]:=j;cases u:z.cps.all (·<128)
  .refine wpAny_pyIter_wide u ?_
   exact#[c.heap.objs.size,[c.heap.objs.size],_,_,g,rfl,f.kept (t':=c.toks) λb o e=>FM _ e,Pb _ z t "str_iterator" (.inr rfl) λE m=>Walks.strWide m _ z t,#[_,XV _ rfl,rfl,rfl],d,q]
  .refine wpAny_pyIter_ascii u ?_
   exact#[c.heap.objs.size,[c.heap.objs.size],_,_,g,rfl,f.kept (t':=c.toks) λb o e=>FM _ e,Pb _ z t "str_ascii_iterator" (.inl rfl) λE m=>Walks.strAscii m _ z t,#[_,XV _ rfl,rfl,rfl],d,q]
end
section
variable {X:Cx}
def MK(bs:v_ Bool):((je bs.length).all λi=>(bs[i]?).getD t_)=bs.all id:=by
 induction bs with
 |nil=>rfl
 |cons b r a=>
  rw[jC,pk,qH,List.all_map]
  congr 1
def Do(t:X.calm=t_):DR X (.builtin "all") (λj H Q=>∃(p:Db) (c:v_ Bool),j=[.ref p]/\SqL X.K H p^c.map V.bl/\Q (.bl^c.all id) H):=by
 intro J s Z H j L Q I r h;let#[p,c,rfl,w,q]:=h;let#[u,rfl,y]:=vals1 r;cases y;let#[a,k,z,M]:=I.list w;have d:=k.length;have f:s.heap.IsList p a.toArray:=z.isList;have g:p<s.heap.objs.size:=by let#[_,e,_]:=id f;exact Uf e
 refine call_all_walk^k9 f ?_
 refine#[s.heap.objs.size,[s.heap.objs.size,p],[s.heap.objs.size],a.toArray.size,_,_,λi=>(c[i]?).getD t_,rfl,Walks.list (A:=X.A.in1) (I.ok.hd t) _ p (jL g) a.toArray,
  #[#[_,XV _ rfl,rfl,rfl],f.push _],λi v N O P B l=>?_,λR C D=>?_]
 .have m:a[i]?=P3 v:=by simpa using B
  have E:∃b,c[i]?=P3 b:=by
   have S:i<a.length:=(ZB.mp m).1;rw[No]at d;exact#[c[i]'(by lk),On^by lk]
  let#[b,n]:=E;let#[u,o,F]:=k.get (i:=i) (x:=.bl b) (by rw[jG,n];rfl);rw[m]at o;cases o;cases F;simp only[n,Option.getD_some]at l;exact kd l
 .have e:((je a.toArray.size).all λi=>(c[i]?).getD t_)=c.all id:=by
   rw[f8,←d,No];exact MK c
  rw[e];exact#[.bl _,H,I.kept (t':=C) λb x e=>D b x (λG=>by rw[Tk.mp G]at e;exact j7 _^Uf e)^FM _ e,rfl,q]
def Qm:DR X (.builtin "isinstance") (λa H Q=>∃x T t b,a=[x,.ty T]/\G2 X.K H x t/\PySem.W.kitOne X.K t^.type T=P3 b/\Q (.bl b) H):=by
 intro f s Z H a g Q I r h;let#[x,T,t,b,rfl,ty,e,q]:=h;let#[u,i,rfl,c,d]:=vals2 r;cases d;exact VO I c ty e λj=>#[.bl b,H,I.tok _,rfl,q]
def U3:OpR X (compareOp .LtE) (λx y H Q=>∃i j,x=.str i/\y=.str j/\Q (.bl (!(j.cps.toList<i.cps.toList))) H):=by
 intro c s Z H x y v u Q I a b h;let#[i,j,rfl,rfl,q]:=h;let#[t,rfl]:=a;let#[d,rfl]:=b;exact PySem.P.le_str #[.bl _,H,I,rfl,q]
def RQ{b:v_ Str}:∀{a:v_ Ev},Vals (b.map V.str) a->StrsAre a b:=by
 induction b with
 |nil=>intro a r;cases r;exact .nil
 | cons n g c=>
  intro a r;cases r with
  |cons d f=>
   let#[t,e]:=d;subst e;exact .cons n t^c f
def bE:SlR X (λx f g H Q=>∃z,x=.str z/\z.length<=sizeLine/\Q (.str^Txt.slice z f g) H):=by
 intro o s Z H x v w y f g A Q I p c r m h;let#[z,rfl,d,q]:=h;let#[t,rfl]:=p;exists "str",_,F.slot_str_getitem.lookup,typeIs_str _ _ _;have b:∀a k,EP X o Z Q (.str _ a) {s with toks:=k}:=λa k=>#[.str _,H,I.tok _,#[_,rfl],q];cases r with
 |none=>
  cases m with
  |none=>exact mX (l:=s_) (u:=s_) (st:=s_) c rfl (oR #[jJ (Txt.slice_le z _ _) d,λa k=>b a k])
  |int j e=>exact mX (l:=s_) (u:=P3 (j,e)) (st:=s_) c rfl (oR #[jJ (Txt.slice_le z _ _) d,λa k=>b a k])
 |int i n=>
  cases m with
  |none=>exact mX (l:=P3 (i,n)) (u:=s_) (st:=s_) c rfl (oR #[jJ (Txt.slice_le z _ _) d,λa k=>b a k])
  |int j e=>exact mX (l:=P3 (i,n)) (u:=P3 (j,e)) (st:=s_) c rfl (oR #[jJ (Txt.slice_le z _ _) d,λa k=>b a k])
def U1(d:X.A.units<cLine):OpR X (compareOp .NotEq) (λx y H Q=>∃a b c,x=.ref a/\y=.ref b/\SqL X.K H a c/\SqL X.K H b []/\Q (.bl (!c.isEmpty)) H):=by
 intro w s Z H x y v u Q I m n h;let#[a,b,c,rfl,rfl,o,p,q]:=h;cases m;cases n;let#[r,f,g,_]:=I.list o;let#[i,k,l,_]:=I.list p;cases k;cases f with
 |nil=>exact SeqAt.RcNeAt.lists (e:=λ_=>t_) g.isList l.isList rfl d (λj t z=>absurd t^by simp) _ _ _ _ #[.bl _,H,I,rfl,q]
 |cons f k=>exact SeqAt.RcNeAt.lists_lengths g.isList l.isList (by simp) d _ _ _ _ #[.bl _,H,I,rfl,q]
end
end L2
namespace Dp
open L2
def c5(K:Frag)(F:w_ (Db×Db))(U b M:Db->Prop)(H:Hp)(n:Nat)(c:v_ Slot)(d:v_ V):Prop:=
 (∀a,M a->∃o,H a=P3 o)/\(∀f,F=P3 f->U f.1)/\(∀a,U a->b a)/\(∀a,b a->M a)/\FeedC K F M H n/\Paired (Nj K F b M H) d c
abbrev W2:=v_ Slot->Nat->(D->Nat->Prop)->Prop
def Vt(K:Frag)(g:Kd)(W:W2)(h:Nat):Sp:=λb H Q _=>b.length=h/\∃(F:w_ (Db×Db)) (U c M:Db->Prop) (n:Nat) (e:v_ Slot) (P:D->Nat->Prop),c5 K F U c M H n e b/\W e n P /\
 ∀v a d f,Ext U H a->FeedC K F M a f->VR K c M H a g v d->P d f->Q v a
def AE(w:DW):Nat->v_ Slot->(Slot->Nat->Prop)->Prop:=λn a P=>w n a λd b=>P (.sh d) b
def Bt(w:DW):Nat->v_ Slot->(Slot->Nat->Prop)->Prop:=λn a P=>w n a λd b=>P (.br d) b
def A_(i:Nat):Nat->v_ Slot->(Slot->Nat->Prop)->Prop:=λn a P=>match a[i]? with
 |some .fd=>P .fd n
 |_=>False
def AQ:Vx:=λn _ P=>P [] n
def AB(w:Nat->v_ Slot->(Slot->Nat->Prop)->Prop)(b:Vx):Vx:=λn a P=>w n a λs c=>b c a λd e=>P (s::d) e
def AR(W:W2)(a:Vx):DW:=λn b P=>a n b λc d=>W c d P
section
variable {X:Cx}{a e:Expr}{es:v_ Expr}{κ zU:Kd}{wa:DW}{pos:Pos}{w1:Nat->v_ Slot->(Slot->Nat->Prop)->Prop}{was:Vx}
def AI(h:DE X e κ wa)(b:κ≠.tp:=by intro z;cases z):gB X e^AE wa:=by
 let#[t,c,g]:=h;exact#[t,c,λC M H n i Z P Q R w q=>g C M H n i Z _ _ R w λv j d k e f r p=>q v j (.sh d) k e f #[#[v,rfl,r.shOf R.dom b],rfl] p]
def C_(h:DE X e κ wa):gB X e^Bt wa:=by
 let#[t,b,c]:=h;exact#[t,b,λC M H n g Z P Q R w q=>c C M H n g Z _ _ R w λv i d j e f r p=>q v i (.br d) j e f #[#[v,rfl,r.tpOf R.dom R.vM],rfl] p]
def BU(i:Nat){x:Str}{pos:Pos}(d:X.N[i]?=P3 x:=by rfl)(e:Vw X.env.scope x:=by first|exact TW rfl|exact jy (TW rfl)|exact jy (jy rfl))(b:(x==("__debug__":Str))=u_:=by cbv)
  (c:(x==("__classdict__":Str))=u_:=by cbv):gB X (.Name x pos)^A_ i:=by
 refine#[_,FJ d e b c,λC M H n j Z P Q R w q=>?_];unfold A_ at w
 split at w
 .rename_i b
  let#[f,g,h]:=R.sl i _ b;exact#[_,getD_some g,q _ H .fd n (Ext.refl _ _) R.feed #[#[f,rfl,h],rfl] w]
 grind
def AM:aV X [] AQ:=#[_,CJ,λC M H n b Z P Q R w q=>q [] H [] n (Ext.refl _ _) R.feed .nil w]
def AA(i:gB X e w1)(j:aV X es was)(k:starEach (e::es) X.env=(u_,eval e X.env)::starEach es X.env:=by rfl):aV X (e::es)^AB w1 was:=by
 let#[t,l,m]:=i;let#[u,o,r]:=j;refine#[_,BZ l o k,λC M H n c Z P Q R w q=>?_];refine m C M H n c Z _ _ R w λv s d x f y g p=>?_;have h:=R.step f y;exact r C M s x c Z _ _ h p λF H2 G A b B D E=>q _ H2 _ A (f.trans b) B (.cons #[g.1.pres (h.pres b) (λ_ z=>z) b R.uV,g.2] D) E
def Zp{k:Nat}{f:Db}{fd:jp}{b:v_ Str}{W:W2}{x:Str}{p:Pos}(G:CU X.prog X.w X.K X.mg X.base Fy k f fd b^Vt X.K κ W b.length)(o:∀c n P,W c n P->c.length=b.length)
  (r:Room k X.A) (s:Gl X x) (u:X.mg x=P3^.ref f) (y:keepIn X.K^.ref f=t_) (z:Binds X.K fd b []) (B:aV X (e::es) was)
  (h:(x==("__debug__":Str))=u_:=by cbv) (D:starEach (e::es) X.env=(u_,eval e X.env)::starEach es X.env:=by rfl) (i:(backTo pos^starEach es X.env).any (·.1)=u_:=by rfl):
  DE X (.Call (.Name x p) (e::es) [] pos) κ (AR W was):=by
 let#[t,E,F]:=B;refine#[_,Td G r s u y z .nil aE E h D i,λC M H n I Z P Q R w q=>?_];refine F C M H n I Z _ _ R w λU V c J j l m p=>?_;have g:=R.step j l;rw[jZ];exact#[(Paired.length m).trans^o _ _ _ p,_,_,_,M,J,c,P,#[g.dom,g.fU,g.uV,g.vM,l,m],p,λv H2 d L N O S T=>q v H2 d L (j.trans N) O (VR.back j S) T]
def i7(K:Frag)(κ:Kd)(T:String)(r:V->v_ V->Hp->VK->Prop)(f:D->v_ D->(D->Prop)->Prop):Prop:=∀(U:Db->Prop) (M:Db->Prop) (H:Hp) (d:D) (c:v_ D) (x:V) (e:v_ V) (P:D->Prop) (Q:VK),(∀a,M a->∃o,H a=P3 o)->(∀a,U a->M a)->
 AtT K U M H d x->Paired (λv d=>AtT K U M H d v) e c->f d c P->(∀v b z,Grow H b->VR K U M H b κ v z->P z->Q v b)->r x e H Q
def fK(T:String)(d:D):Prop:=match d with
 |.str _=>T="str"
 |.int _=>T="int"
 |.lst _=>T="list"
 |_=>False
def OU{T:String}{K:Frag}{U:Db->Prop}{M:Db->Prop}{H:Hp}{d:D}{x:V}(h:fK T d)(hx:AtT K U M H d x):gU K T x H:=by
 cases d with
 |str z=>let#[e,_]:=hx;subst e;exact h
 |int i=>cases(hx);exact h
 |lst f=>let#[a,b,e,_,c,_]:=hx;subst e;exact .inl #[h,b,.inl c]
 |_=>exact(h).elim
def DO(X:Cx)(e:w_ jX)(w:Nat->v_ Slot->(w_ Int->Nat->Prop)->Prop):Prop:=∃t,PO X e t/\∀(C:Fm) (M:Db->Prop) (H:Hp) (n:Nat) (c:v_ Slot) (Z:L2.St) (P:w_ Int->Nat->Prop) (Q:w_ Int->Hp->Prop),Rel X.K C M H n c Z->w n c P->
 (∀o b d,Ext C.U H b->FeedC X.K C.F M b d->P o d->Q o b)->t Z H Q
def BG:Nat->v_ Slot->(w_ Int->Nat->Prop)->Prop:=λn _ P=>P s_ n
def Bk(w:DW):Nat->v_ Slot->(w_ Int->Nat->Prop)->Prop:=λn b P=>w n b λd c=>match d with
 |.int i=>P (P3 i) c
 |_=>False
def Br:DO X s_ BG:=#[_,Ta,λC M H n b Z P Q R w q=>q _ H n (Ext.refl _ _) R.feed w]
def Ij{U:Db->Prop}{K:Frag}{M:Db->Prop}{H b:Hp}{v:V}{i:Int}(h:VR K U M H b κ v^.int i):v=.int i:=by
 cases κ with
 |sh=>exact h
 |tp=>exact h
 |fr=>let#[a,_,_,t]:=h;exact(t).elim
def Bb(h:DE X e κ wa):DO X (P3 e)^Bk wa:=by
 let#[t,b,c]:=h;refine#[_,TZ b,λC M H n f Z P Q R w q=>?_];refine c C M H n f Z _ _ R w λv g d j k l m p=>?_;cases d with
 |int i=>exact#[i,Ij m,q _ g j k l p]
 |_=>exact p.elim
def iT(K:Frag)(κ:Kd)(r:V->w_ Int->w_ Int->Hp->VK->Prop)(f:D->w_ Int->w_ Int->(D->Prop)->Prop):Prop:=∀(U:Db->Prop) (M:Db->Prop) (H:Hp) (d:D) (x:V) (c e:w_ Int) (P:D->Prop) (Q:VK),(∀a,M a->∃o,H a=P3 o)->(∀a,U a->M a)->
 AtT K U M H d x->f d c e P->(∀v b z,Grow H b->VR K U M H b κ v z->P z->Q v b)->r x c e H Q
def IF(f:D->w_ Int->w_ Int->(D->Prop)->Prop)(w:DW)(c e:Nat->v_ Slot->(w_ Int->Nat->Prop)->Prop):DW:=λn b P=>w n b λd g=>c g b λh i=>e i b λj k=>f d h j λz=>P z k
def Cp{i j:w_ jX}{k:Pos}{r:V->w_ Int->w_ Int->Hp->VK->Prop}{f:D->w_ Int->w_ Int->(D->Prop)->Prop}{s x:Nat->v_ Slot->(w_ Int->Nat->Prop)->Prop}(B:SlR X r)(E:iT X.K κ r f)(F:DE X e zU wa)(G:DO X i s)(I:DO X j x):
  DE X (.Subscript e (.Slice i j s_ k) pos) κ (IF f wa s x):=by
 let#[t,J,L]:=F;let#[u,N,O]:=G;let#[u',S,T]:=I;refine#[_,P5 B J N S,λC M H n l Z P Q R w q=>?_];refine L C M H n l Z _ _ R w λv U d W m Y r1 p=>?_;have o:=R.step m Y;have tv:=r1.tpOf R.dom R.vM;refine O C M U W l Z _ _ o p λi H2 n2 c f2 k=>?_;have b:=o.step c f2;refine T C M H2 n2 l Z _ _ b k λj H3 n3 h y p3=>?_;have A:=b.step h y;refine E C.V M H3 d v i j _ _ A.dom A.vM ((tv.pres (o.pres c) c R.uV).pres (b.pres h) h R.uV) p3 λv H4 z g vr pz=>?_;exact q v H4 z n3 (((m.trans c).trans h).trans g.ext) (y.grow g) (VR.back ((m.trans c).trans h) vr) pz
end
structure E2 where
 nx:Nat->List Slot->Prop
 rt:D->Nat->Prop
 bk:Nat->List Slot->Prop:=λ_ _=>False
 ct:Nat->List Slot->Prop:=λ_ _=>False
abbrev Ac:=E2->Nat->v_ Slot->Prop
structure IC (K:Frag) (C:Fm) (κ:Kd) (D2:E2) (E:Ends):Prop where
 nx:∀M H n ρ Z,Rel K C M H n ρ Z->D2.nx n ρ->E.nx Z H
 rt:∀v H d n,Ext C.U C.H0 H->FeedC K C.F C.M0 H n->VR K C.V C.M0 C.H0 H κ v d->D2.rt d n->E.rt v H
 bk:∀M H n ρ Z,Rel K C M H n ρ Z->D2.bk n ρ->E.bk Z H
 ct:∀M H n ρ Z,Rel K C M H n ρ Z->D2.ct n ρ->E.ct Z H
def DS(X:Cx)(c:Kd)(st:jP)(w:Ac):Prop:=∃t,PS X st t/\∀(C:Fm) (M:Db->Prop) (H:Hp) (n:Nat) (a:v_ Slot) (Z:L2.St) (b:E2) (E:Ends),Rel X.K C M H n a Z->IC X.K C c b E->w b n a->t E Z H
def RH(X:Cx)(c:Kd)(st:v_ jP)(w:Ac):Prop:=∃t,PSs X st t/\∀(C:Fm) (M:Db->Prop) (H:Hp) (n:Nat) (a:v_ Slot) (Z:L2.St) (b:E2) (E:Ends),Rel X.K C M H n a Z->IC X.K C c b E->w b n a->t E Z H
def Av:Ac:=λa n b=>a.nx n b
def Ae(u v:Ac):Ac:=λa n b=>u {a with nx:=v a} n b
def Aq(w:DW):Ac:=λa n b=>w n b λd c=>a.rt d c
def BC(t:IE)(u v:Ac):Ac:=λb n a=>t n a λc d=>if c=t_ then u b d a else v b d a
def A3(i:Nat)(w:DW):Ac:=λb n a=>w n a λd c=>b.nx c^a.set i^.sh d
section
variable {X:Cx}{κ zQ:Kd}{st:Stmt}{rest:v_ Stmt}{u v:Ac}{wa:DW}{wA:IE}{e c:Expr}{pos:Pos}
def Ap:RH X κ [] Av:=#[_,Jz,λC M H n a Z b E R L w=>L.nx M H n a Z R w]
def AH(c:DS X κ st u)(d:RH X κ rest v):RH X κ (st::rest)^Ae u v:=by
 let#[t,e,f]:=c;let#[i,g,h]:=d;exact#[_,BV e g,λC M H n a Z b E R L w=>f C M H n a Z {b with nx:=v b} _ R #[λM H n a Z R w=>h C M H n a Z b E R L w,L.rt,L.bk,L.ct] w]
def AL(a:DS X κ st u):RH X κ [st] u:=by
 let#[t,b,c]:=a;exact#[t,C5 b,c]
def bH{K:Frag}{C:Fm}{M:Db->Prop}{H g:Hp}{n h:Nat}{j:v_ Slot}{Z:L2.St}{i:E2}{E:Ends}{d:D}{v:V}(R:Rel K C M H n j Z)(L:IC K C κ i E)(e:Ext C.U H g)(f:FeedC K C.F M g h)(r:VR K C.V M H g κ v d)(o:κ≠.tp)(p:i.rt d h):E.rt v g:=by
 have c:Pres M g _ g:=Pres.less R.sub;refine L.rt v g d h (R.ext.trans e) (f.pres c λ_ _ _ z=>z) ?_ p;cases κ with
 |sh=>exact At.pres c r
 |tp=>grind
 |fr=>
  let#[a,k,l,m]:=VR.back R.ext r;exact#[a,k,l,m.pres (Pres.less λb z=>z.imp (R.sub b) id) λ_ z=>z]
def Ad(h:DE X e κ wa)(a:κ≠.tp:=by intro z;cases z):DS X κ (.Return (P3 e) pos)^Aq wa:=by
 let#[t,b,c]:=h;exact#[_,Gn b,λC M H n f Z k E R L w=>c C M H n f Z _ _ R w λv l d m g i j p=>bH R L g i j a p]
def BE{a b:v_ jP}(j:DT X c wA)(k:RH X κ a u)(l:RH X κ b v):DS X κ (.If c a b pos)^BC wA u v:=by
 let#[t,m,o]:=j;let#[z,q,r]:=k;let#[s,x,y]:=l;refine#[_,TX m q x,λC M H n d Z e E R L w=>?_];refine o C M H n d Z _ _ R w λb f g h i p=>?_;cases b with
 |true=>exact r C M f g d Z e E (R.step h i) L p
 |false=>exact y C M f g d Z e E (R.step h i) L p
def Ak{i:Nat}{x:Str}{a:Pos}(b:X.N.Nodup)(c:X.N[i]?=P3 x)(hx:Loc X.env.scope x)(f:DE X e zQ wa)(g:zQ≠.tp:=by intro z;cases z)(h:swapsWith e (P3^.Name x a) pos.line X.env=pure u_:=by rfl)
  (j:X.fn x=t_\/X.env.scope.names.lookup x=P3 .local:=by first|exact .inl rfl|exact .inr rfl|assumption):DS X κ (.Assign [.Name x a] e pos)^A3 i wa:=by
 let#[t,k,l]:=f;exact#[_,FI b c hx k h j,λC M H n m Z y E R L w=>l C M H n m Z _ _ R w λv o d q r s u p=>L.nx M o q _ _ ((R.step r s).set^u.shOf R.dom g) p]
end
section
variable {X:Cx}{κ:Kd}{e:Expr}{wa:DW}{pos:Pos}
def DL(i:Nat)(w:DW):Ac:=λb n a=>w n a λd c=>b.nx c^a.set i^.ow d
def B9{i:Nat}{x:Str}{b:Pos}(c:X.N.Nodup)(f:X.N[i]?=P3 x)(hx:Loc X.env.scope x)(g:DE X e .fr wa)(h:swapsWith e (P3^.Name x b) pos.line X.env=pure u_:=by rfl)
  (j:X.fn x=t_\/X.env.scope.names.lookup x=P3 .local:=by first|exact .inl rfl|exact .inr rfl|assumption):DS X κ (.Assign [.Name x b] e pos)^DL i wa:=by
 let#[t,k,l]:=g;refine#[_,FI c f hx k h j,λC M H n m Z A E R L w=>?_];refine l C M H n m Z _ _ R w λv o d q r s u p=>?_;let#[a,rfl,y,z]:=u;exact L.nx _ o q _ _ (R.setOw r s y z) p
def KS(i:Nat):Ac:=λa n b=>∃d,b[i]?=P3^.ow d/\a.rt d n
def J8{x:Str}{p:Pos}(i:Nat)(h:PE X (.Name x p)^CA i):DS X .fr (.Return (P3^.Name x p) pos)^KS i:=by
 refine#[_,Gn h,λC M H n g Z j E R L #[d,c,f]=>?_];let#[a,e,m,k,t]:=R.sl i _ c;exact#[_,getD_some e,L.rt _ H d n R.ext (R.feed.pres (Pres.less R.sub) λ_ _ _ z=>z) #[a,rfl,(R.new i _ a c rfl e).2,t.pres (Pres.less λb z=>z.elim (R.sub b) λz=>by grind) λ_ z=>z] f]
def YT(K:Frag)(r:V->v_ V->Hp->VK->Prop)(f:D->v_ D->(D->D->Prop)->Prop):Prop:=∀(M:Db->Prop) (H:Hp) (a:Db) (d:D) (b:v_ D) (c:v_ V) (P:D->D->Prop) (Q:VK),M a->Tops K M H a d->Ats K M H b c->f d b P->
 (∀o e z v,Tops K M (A4 H a o) a e->At K M (A4 H a o) z v->P e z->Q v^A4 H a o)->r (.ref a) c H Q
def IL(i:Nat)(T:String)(f:D->v_ D->(D->D->Prop)->Prop)(b:Ea):Ac:=λc n a=>∃d,a[i]?=P3^.ow d/\fK T d/\b n a λg h=>f d g λe _=>c.nx h^a.set i^.ow e
def CP{M:Db->Prop}{H:Hp}{a:Db}{o u:HO}(m:M a)(e:H a=P3 u)(t:∀c,u≠.tup c:=by intro _ z;cases z):Pres M H M^A4 H a o:=#[λb f q d=>by rw[AW λz=>d^by simp_all];exact q,λ_ z=>.inl z,λb c q=>by rw[AW λz=>by grind];exact q]
def CN{x name:Str}{p c b:Pos}{T w:String}{r:V->v_ V->Hp->VK->Prop}{f:D->v_ D->(D->D->Prop)->Prop}{j:v_ jX}{I:Ea}(i:Nat)(N:PlainAttrs T)(q:PySem.Slot T name w)(y:typeOf^.builtin w=pure^.type "method_descriptor")
  (O:dM X w r) (P:YT X.K r f) (h:PE X (.Name x p)^CA i) (Q:aW X (e::j) I)
  (k:attributeBase (.Name x p) name X.env^eval (.Name x p) X.env=eval (.Name x p) X.env:=by rfl)
  (s:((backTo b^starEach (e::j) X.env).all (λx=>!x.1)&&(backToKw b^keywordEach [] X.env).all (λx=>x.1.isSome)
   && decide ((e::j).length+([]:v_ lh).length+(if([]:v_ lh).isEmpty then 0 else 1)<30))=t_:=by rfl)
  (l:(c.endLine==b.line)=t_:=by rfl) (S:starEach (e::j) X.env=(u_,eval e X.env)::starEach j X.env:=by rfl) (g:(backTo b^starEach j X.env).any (·.1)=u_:=by rfl)
  (A:swapsWith (.Call (.Attribute (.Name x p) name c) (e::j) [] b) s_ pos.line X.env=pure u_:=by rfl):
  DS X κ (.Expr (.Call (.Attribute (.Name x p) name c) (e::j) [] b) pos) (IL i T f I):=by
 let#[t,U,W]:=Q;refine#[_,TY (Te N q y O h U k s l S g) A,λC M H n Y Z D2 E R L #[d,B,hT,hw]=>?_];let#[a,F,m,nv,tt]:=R.sl i _ B;exists .ref a,getD_some F,OU hT^tt.att nv;refine W C M H n Y Z _ _ R hw λvs H1 ds n1 ee f1 r1 p=>?_;have J:=R.step ee f1;let#[a',u,m',a0,G]:=J.sl i _ B;rw[F]at u;cases u;exact P M H1 a d ds vs _ _ m' G r1 p λo d' z v t2 hz pp=>L.nx M _ n1 _ Z (J.mut B F t2) pp
def EC(d:D)(b:v_ D)(P:D->D->Prop):Prop:=∃a y,d=.lst a/\b=[y]/\a.length<sizeLine/\P (.lst (a++[y])) .non
def DB{K:Frag}:YT K TQ EC:=by
 intro M H a d j k P Q m t e w q;let#[l,y,rfl,rfl,f,w]:=w;let#[g,b,c]:=t;let#[u,r,rfl,h,i]:=e;cases(i);exact#[a,g,u,rfl,rfl,b,by rw[c.length];exact f,q _ (.lst _) .non _ #[_,Ah,(c.append^Ats.one h).pres^CP m b] rfl w]
def cH(d:D)(c:v_ D)(P:D->D->Prop):Prop:=∃a b,d=.lst a/\c=[.lst b]/\a.length+b.length<=sizeLine/\P (.lst (a++b)) .non
def aU{K:Frag}:YT K TN cH:=by
 intro M H a d o p P Q m t g w q;let#[s,v,rfl,rfl,h,w]:=w;let#[i,c,e]:=t;let#[u,r,rfl,j,k]:=g;cases(k);let#[b,l,rfl,n,f]:=j;exact#[a,b,i,l,rfl,rfl,c,n.2,by rw[e.length,f.length];exact h,q _ (.lst _) .non _ #[_,Ah,(e.append f).pres^CP m c] rfl w]
end
def Yields(K:Frag)(M:Db->Prop)(H:Hp)(J:It)(e:v_ D):Prop:=∀(i:Nat) (c:Db->Prop) (b:Hp),Pres M H c b->(∀a,c a->∃o,b a=P3 o)->
 (∀d,e[i]?=P3 d->J.go i b/\∀x H2,J.yld i b x H2->Grow b H2/\At K c H2 d x)/\(e.length<=i->J.stop i b)
def UP(K:Frag)(U M:Db->Prop)(H:Hp)(J:It)(e:v_ D):Prop:=∀(i:Nat) (c:Db->Prop) (b:Hp),Pres M H c b->Ext U H b->(∀a,c a->∃o,b a=P3 o)->
 (∀d,e[i]?=P3 d->J.go i b/\∀x H2,J.yld i b x H2->Grow b H2/\At K c H2 d x)/\(e.length<=i->J.stop i b)
def Yields.e{K:Frag}{U M:Db->Prop}{H:Hp}{J:It}{a:v_ D}(h:Yields K M H J a):UP K U M H J a:=λi b c p _ d=>h i b c p d
def dG(X:Cx)(g a:jX)(w:Ea):Prop:=∃c,PI X g a c/\∀(C:Fm) (M:Db->Prop) (H:Hp) (n:Nat) (d:v_ Slot) (Z:L2.St) (P:v_ D->Nat->Prop) (R:It->Hp->Prop),Rel X.K C M H n d Z->w n d P->
 (∀J b e f,Ext C.U H b->FeedC X.K C.F M b f->UP X.K C.U M b J e->P e f->R J b)->c Z H R
def DI(X:Cx)(g a:jX)(w:Ea):Prop:=∃c,PI X g a c/\∀(C:Fm) (M:Db->Prop) (H:Hp) (n:Nat) (d:v_ Slot) (Z:L2.St) (P:v_ D->Nat->Prop) (R:It->Hp->Prop),Rel X.K C M H n d Z->w n d P->
 (∀J b e f,Ext C.U H b->FeedC X.K C.F M b f->Yields X.K M b J e->P e f->R J b)->c Z H R
def signs(x:Str):v_ D:=x.cps.toList.map λc=>.str #[#[ c]]
def A0(w:DW):Ea:=λn c P=>w n c λd a=>match d with
 |.lst b=>P b a
 |.tup b=>P b a
 |.str x=>P (signs x) a
 |_=>False
def PV{K:Frag}{M:Db->Prop}{H:Hp}{a:Db}{b:v_ V}{f:v_ D}(h:NdL M H a b)(g:Ats K M H f b):Yields K M H (iI K a) f:=by
 intro i o j p _;have c:SqL K j a b:=(h.pres p).sq;refine#[λd k=>?_,λl=>#[b,c,by rw[g.length];exact l]];let#[v,e,m]:=(g.pres p).get k;refine#[#[b,v,c,e],λx H2 y=>?_];let#[n,y]:=y;subst n
 have:=e.symm.trans^y b c
 cases this;exact#[.refl,m]
def KO{K:Frag}{M:Db->Prop}{H:Hp}{a:Db}{b:v_ V}{f:v_ D}(h:NdT M H a b)(g:Ats K M H f b):Yields K M H (c_ K a) f:=by
 intro i o j p _;have c:SqT K j a b:=(h.pres p).sq;refine#[λd k=>?_,λl=>#[b,c,by rw[g.length];exact l]];let#[v,e,m]:=(g.pres p).get k;refine#[#[b,v,c,e],λx H2 y=>?_];let#[n,y]:=y;subst n
 have:=e.symm.trans^y b c
 cases this;exact#[.refl,m]
def yields_str{K:Frag}{M:Db->Prop}{H:Hp}{z:Str}:Yields K M H (iH z)^signs z:=by
 intro i h j p _;refine#[λd a=>?_,λe=>?_]
 .unfold signs at a
  rw[jG]at a
  have f:i<z.cps.size:=by
   cases q:z.cps.toList[i]? with
   |none=>simp_all
   |some c=>simpa using (ZB.mp q).1
  refine#[f,λx H2 y=>?_];let#[g,c,k,rfl]:=y;subst g
  have:z.cps.toList[i]?=P3 c:=by grind
  rw[this]at a;have b:D.str #[#[ c]]=d:=jH a;subst b;exact#[.refl,rfl,by rw[jj];show 1<=16777216;decide]
 .show z.cps.size<=i
  unfold signs at e
  simp_all
def GB(a:Int)(n:Nat):v_ D:=(je n).map fun(i:Nat)=>.int (a+(i:Int))
def Nk{K:Frag}{M:Db->Prop}{H:Hp}{e:Int}{m:Nat}:Yields K M H (gP e m)^GB e m:=by
 intro i k l p _;refine#[λd a=>?_,λg=>?_]
 .unfold GB at a
  rw[jG]at a
  have f:=by
   cases q:(je m)[i]? with
   |none=>simp_all
   |some c=>simpa using (ZB.mp q).1
  rw[List.getElem?_range f]at a;have b:=jH a;subst b;refine#[f,λx H2 y=>?_];let#[h,j]:=y;subst h;exact#[.refl,j]
 .show m<=i
  unfold GB at g
  simp_all
section
variable {X:Cx}{tg e e2:Expr}{κ:Kd}{wa:DW}{ws:Ea}{p pos:Pos}
def Dn(h:DE X e κ wa)(o:κ≠.tp:=by intro z;cases z):DI X tg e^A0 wa:=by
 let#[t,r,s]:=h;refine#[_,Rq r,λC M H n u Z P y R w q=>?_];refine s C M H n u Z _ _ R w λv c d f g i x p=>?_;have j:=x.shOf R.dom o;cases d with
 |lst k=>
  let#[a,l,e,b,m]:=j;exact .inl #[a,e,#[l,b.sq],q _ c k f g i (PV b m) p]
 |tup k=>
  let#[a,l,e,b,m]:=j;exact .inr^.inl #[a,e,#[l,b.sq],q _ c k f g i (KO b m) p]
 |str z=>exact .inr^.inr #[z,j.1,q _ c _ f g i yields_str p]
 |_=>exact p.elim
def KR(ws:Ea):Ea:=λn a P=>ws n a λb c=>∃j:Int,b=[.int j]/\(-(2 ^ 62)<=j/\j<2 ^ 62)/\P (GB 0 j.toNat) c
def EV(b:Gl X "range")(c:X.mg "range"=s_)(d:aX X [e] ws)(f:starEach [e] X.env=[(u_,eval e X.env)]:=by rfl):DI X tg (.Call (.Name "range" p) [e] [] pos)^KR ws:=by
 let#[t,g,h]:=d;refine#[_,Uw b c g f,λC M H n i Z P v R w q=>?_];refine h C M H n i Z _ _ R w λx k y l m o s p=>?_;let#[j,rfl,a,p]:=p;cases s with
 |cons r u=>
  cases u;exact#[j,by rw[r],a.1,a.2,q _ k _ l m o Nk p]
def DI.c(h:DI X tg e ws):dG X tg e ws:=by
 let#[a,b,d]:=h;exact#[a,b,λC M H n f Z P g R w q=>d C M H n f Z P g R w λJ i j k l m y p=>q J i j k l m y.e p]
def BO(h:DE X e κ wa):dG X tg e^A0 wa:=by
 let#[t,B,D]:=h;refine#[_,Rq B,λC M H n E Z P N R w q=>?_];refine D C M H n E Z _ _ R w λv g d k l m F p=>?_;have f:AtT X.K C.V M g d v:=F.tpOf R.dom R.vM;cases d with
 | lst r=>
  let#[a,b,e,u,c,j]:=f;refine .inl #[a,e,#[b,.inl c],q _ g r k l m (λi O G I ex _=>?_) p]
  have s:SqL X.K G a b:=by
   rcases c with c|⟨o,c⟩
   .exact .inl^.inl^ex.keep c λz=>u^R.uV a z
   .exact .inl^.inr #[o,ex.keep c λz=>u^R.uV a z]
  refine#[λd J=>?_,λL=>#[b,s,by rw[j.length];exact L]];let#[v,e,f]:=(j.pres I).get J;refine#[#[b,v,s,e],λx H2 y=>?_];let#[e2,y]:=y;subst e2
  have:P3 v=P3 x:=e.symm.trans^y b s
  cases this;exact#[.refl,f]
 |tup r=>
  let#[a,b,e,A,j]:=f;exact .inr^.inl #[a,e,#[b,A.sq],q _ g r k l m (KO A j).e p]
 |str z=>exact .inr^.inr #[z,f.1,q _ g _ k l m yields_str.e p]
 |_=>exact p.elim
end
abbrev BW:=D->v_ Slot->(v_ Slot->Prop)->Prop
def DG(X:Cx)(f:jX)(b:BW):Prop:=∃g,PG X f g/\∀(C:Fm) (M:Db->Prop) (H:Hp) (n:Nat) (a:v_ Slot) (Z:L2.St) (d:D) (v:V) (P:v_ Slot->Prop) (Q:L2.St->Hp->Prop),Rel X.K C M H n a Z->At X.K M H d v->b d a P->
 (∀c e,Rel X.K C M H n c e->P c->Q e H)->g v Z H Q
def AT(i:Nat):BW:=λd a P=>P^a.set i^.sh d
def AY{X:Cx}{i:Nat}{x:Str}{pos:Pos}(a:X.N.Nodup)(b:X.N[i]?=P3 x)(hx:Loc X.env.scope x)(c:X.fn x=t_\/X.env.scope.names.lookup x=P3 .local:=by first|exact .inl rfl|exact .inr rfl|assumption):DG X (.Name x pos)^AT i:=
 #[_,HP a b hx c,λC M H n e Z d v P Q R h w q=>q _ _ (R.set h) w]
def A7(b:BW)(a:Ac)(c:E2):v_ D->Nat->v_ Slot->Prop
 |[],n,e=>c.nx n e
 |d::f,n,e=>b d e λg=>a {c with nx:=A7 b a c f,ct:=A7 b a c f,bk:=c.nx} n g
def Cs(c:Ea)(b:BW)(a:Ac):Ac:=λe n d=>c n d λf g=>A7 b a e f g d
def Rel.unpin{K:Frag}{C:Fm}{p:(Db->Prop)×Hp}{M:Db->Prop}{H:Hp}{n:Nat}{a:v_ Slot}{Z:L2.St}(R:Rel K {C with zG:=p::C.zG} M H n a Z):Rel K C M H n a Z:=
 #[R.len,R.sub,R.dom,R.ext,R.fU,R.uV,R.vM,R.feed,R.sl,λq b=>R.pin q^Sc _ b,R.br0,R.new,R.two,R.kept]
def Rel.pinned{K:Frag}{C:Fm}{M:Db->Prop}{H:Hp}{n:Nat}{a:v_ Slot}{Z:L2.St}(R:Rel K C M H n a Z):Rel K {C with zG:=(M,H)::C.zG} M H n a Z:=
 #[R.len,R.sub,R.dom,R.ext,R.fU,R.uV,R.vM,R.feed,R.sl,λq b=>(UF.mp b).elim (λe=>e▸Pres.refl M H)^R.pin q,R.br0,R.new,R.two,R.kept]
section
variable {X:Cx}{κ:Kd}{tg iter:Expr}{body:v_ Stmt}{src:Ea}{b:BW}{wb:Ac}{pos:Pos}
def B6(S:oH (model X.prog X.w) X.A X.env X.xe)(T:X.calm=t_)(I:DI X tg iter src)(U:DG X tg b)(V:RH X κ body wb)
  (W:∀x,foldedSetIterable iter X.env x=pure x:=by intro _;rfl):DS X κ (.For tg iter body [] pos)^Cs src b wb:=by
 let#[wi,Y,a2]:=I;let#[g,g1,g2]:=U;let#[tb,b1,b2]:=V;refine#[_,K7 S T Y g1 b1 W,λC M H n N Z h E R L w=>?_];refine a2 C M H n N Z _ _ R w λJ u a n1 e1 f1 y w1=>?_;have R1:=R.step e1 f1;exists λi m v j=>m=a.length - i/\i<=a.length/\∃c k o,Rel X.K {C with zG:=(M,u)::C.zG} c j k o v/\A7 b wb h (a.drop i) k o,#[a.length,by simp,eq _,M,n1,N,R1.pinned,w1];rintro i m v j ⟨rfl,I,c,k,o,l,z⟩;have O:Pres M u c j:=l.pin (M,u) Rs
 by_cases d:i<a.length
 .have ed:a.drop i=a[i]::a.drop (i+1):=kJ d
  rw[ed]at z;let#[go,yl]:=(y i c j O l.dom).1 a[i] (On d);refine .inr #[go,λP H2=>∃M2 B D,Rel X.K {C with zG:=(M,u)::C.zG} M2 H2 B D P/\A7 b wb h (a.drop (i+1)) B D,λP H2 #[M2,B,D,f,w2]=>#[a.length - (i+1),by lk,rfl,d,M2,B,D,f,w2],λx H2 hy=>?_];let#[Q,hx]:=yl x H2 hy;have f:=l.step Q.ext^l.feed.grow Q;refine g2 _ c H2 k o v a[i] x _ _ f hx z λzP zV R3 w3=>?_;refine b2 _ c H2 k zP zV {h with nx:=A7 b wb h^a.drop (i+1),ct:=A7 b wb h^a.drop (i+1),bk:=h.nx} _ R3 #[λp F q r G s t=>#[p,q,r,s,t],L.rt,λp F q r G s t=>L.nx p F q r G s.unpin t,λp F q r G s t=>#[p,q,r,s,t]] w3
 .have e:i=a.length:=by lk
  subst e;rw[mT]at z;exact .inl #[(y _ c j O l.dom).2 (Op _),L.nx c j k o v l.unpin z]
end
def D6(b:BW)(f:IE)(g:DW)(P:v_ D->Nat->Prop):v_ D->v_ D->Nat->v_ Slot->Prop
 |[],a,n,_=>P a n
 |d::h,a,n,j=>b d j λe=>f n e λc i=>if c=t_ then g i e λy k=>D6 b f g P h (a++[y]) k e else D6 b f g P h a i e
def XU:Slot->Slot
 |.ow d=>.br d
 |.lt _ d=>.br d
 |s=>s
def VI(s:Slot):(XU s).owns=u_:=by cases s <;>rfl
def Ek{a:v_^w_ Nat}{b:v_ Slot}{i:Nat}{s:Slot}(h:(a.map λo=>match o with|some i=>XU^(b[i]?).getD .no|none=>Slot.no)[i]?=P3 s):s.owns=u_:=by
 rw[jG]at h;cases q:a[i]? with
 |none=>grind
 | some o=>
  rw[q]at h;cases o with
  |none=>
   rw[←jH h];rfl
  |some j=>
   rw[←jH h];exact VI _
def Hb(a:v_^w_ Nat)(b:v_ Slot):v_ Slot:=a.map λo=>match o with
 |some i=>XU^(b[i]?).getD .no
 |none=>.no
def Bi(f:v_^w_ Nat)(a:Ea)(b:BW)(g:IE)(h:DW):DW:=λn d P=>a n d λe i=>e.length<=10000000/\D6 b g h (λc j=>P (.lst c) j) e [] i^Hb f d
def dS(X:Cx)(a:v_ jX)(w:IE):Prop:=∃t,fw X a t/\∀(C:Fm) (M:Db->Prop) (H:Hp) (n:Nat) (d:v_ Slot) (Z:L2.St) (P:Bool->Nat->Prop) (Q:Bool->Hp->Prop),Rel X.K C M H n d Z->w n d P->
 (∀b c e,Ext C.U H c->FeedC X.K C.F M c e->P b e->Q b c)->t Z H Q
def DU:IE:=λn _ P=>P t_ n
def Bs{X:Cx}:dS X [] DU:=#[_,Y6,λC M H n a Z P Q R w q=>q _ H n (Ext.refl _ _) R.feed w]
def DV{X:Cx}{c:jX}{w:IE}(h:DT X c w):dS X [c] w:=by
 let#[t,a,b]:=h;exact#[t,Y5 a,b]
def NM{c:v_^w_ Nat}{d:v_ Slot}{Z:L2.St}{i:Nat}{s:Slot}(a:(Hb c d)[i]?=P3 s):s=.no\/∃(j:Nat) (b:Slot),d[j]?=P3 b/\s=XU b/\((Cw c Z)[i]?).getD s_=(Z[j]?).getD s_:=by
 unfold Hb at a;unfold Cw;rw[jG]at a ⊢;cases q:c[i]? with
 |none=>simp_all
 | some o=>
  rw[q]at a;cases o with
  |none=>simp_all
  | some j=>
   have e:XU _=s:=jH a;cases f:d[j]? with
   |none=>rw[f]at e;exact .inl e.symm
   |some b=>
    rw[f]at e;exact .inr #[j,b,f,e.symm,rfl]
def QK{K:Frag}{F:w_ (Db×Db)}{U m M g:Db->Prop}{H h:Hp}{n:v_^w_ Nat}{o:v_ Slot}{Z:L2.St}(k:∀(i:Nat) (s:Slot),o[i]?=P3 s->SlotOk K F U M H s^(Z[i]?).getD s_)
  (p:Pres M H g h) (br:∀d v,AtT K U M H d v->AtT K m g h d v):∀(i:Nat) (s:Slot),(Hb n o)[i]?=P3 s->SlotOk K F m g h s^((Cw n Z)[i]?).getD s_:=by
 intro i s u
 rcases NM u with rfl|⟨j,r,q,rfl,e⟩
 .trivial
 .rw[e]
  have c:=k j r q;cases r with
  |no=>trivial
  |sh d=>let#[v,b,f]:=c;exact#[v,b,f.pres p]
  |ex a w x y=>let#[b,f]:=c;exact#[b,f.pres p]
  |br d=>let#[v,b,f]:=c;exact#[v,b,br d v f]
  |fd=>exact c
  |ow d=>let#[a,b,_,l,t]:=c;exact#[_,b,br d _^t.att l]
  |lt a d=>let#[b,_,l,t]:=c;exact#[_,b,br d _^t.att l]
def Tp{K:Frag}{F:w_ (Db×Db)}{U M:Db->Prop}{H:Hp}{k:v_^w_ Nat}{l:v_ Slot}{Z:L2.St}(g:∀(i:Nat) (s:Slot),l[i]?=P3 s->SlotOk K F U M H s^(Z[i]?).getD s_){i:Nat}{d:D}{a:Db}
  (p:(Hb k l)[i]?=P3^.br d) (m:((Cw k Z)[i]?).getD s_=P3^.ref a):∃o,H a=P3 o:=by
 rcases NM p with z|⟨j,n,q,z,e⟩
 .cases z
 .rw[e]at m
  have f:=g j n q;rw[m]at f;cases n with
  |br d=>let#[v,c,r]:=f;cases c;exact r.lies
  |ow d=>let#[b,c,_,h,t]:=f;cases c;exact(t.att h).lies
  |lt b d=>let#[c,_,h,t]:=f;cases c;exact(t.att h).lies
  |no=>cases z
  |sh d=>cases z
  |ex a u w x=>cases z
  |fd=>cases z
section
variable {X:Cx}{zQ:Kd}{tg elt iter:Expr}{ifs:v_ Expr}{sc:Scope}{pos:Pos}{src:Ea}{b:BW}{tt:IE}{te:DW}
def Zo(hc:X.calm=t_)(N':v_ Str)(js:v_^w_ Nat)(hi:dG X tg iter src)(hg:∀I C s H L,DG (BF X sc N' I C s H L) tg b)(ht:∀I C s H L,dS (BF X sc N' I C s H L) ifs tt)(he:∀I C s H L,DE (BF X sc N' I C s H L) elt zQ te)
  (hB:Jf sc X.env.scope X.N N' js=t_) (hk:zQ≠.tp:=by intro z;cases z)
  (hs:∀x,foldedSetIterable iter X.env x=pure x:=by intro _;rfl):DE X (.ListComp elt [#[tg,iter,ifs,0]] sc pos) .fr^Bi js src b tt te:=by
 let#[wi,a1,a2]:=hi;refine#[_,ZA hc N' js a1 hB hs,λC M H n ρ Z P Q R w q=>?_];refine a2 C M H n ρ Z _ _ R w λJ O r n1 u f1 y w1=>?_;let#[b2,w1]:=w1;have R1:=R.step u f1;intro l hl b4 I Ca s0 H0 L;let#[g,g1,g2]:=hg I Ca s0 H0 L;let#[tc,c1,c2]:=ht I Ca s0 H0 L;let#[tx,x1,x2]:=he I Ca s0 H0 L
 have a3:¬C.U l:=λz=>by
  let#[o,z]:=R1.udom l z;rw[hl]at z;cases z
 generalize S:(λb=>M b\/b=l)=M';have a4:M' l:=by rw[←S];exact .inr rfl
 have M'of:∀b,M b->M' b:=λb z=>by rw[←S];exact .inl z
 have a0:∀b,M' b->M b\/b=l:=λb z=>by rw[←S]at z;exact z
 have a9:∀b,C.V b\/b=l->M' b:=λb z=>z.elim (λz=>M'of b^R1.vM b z) λz=>by rw[z];exact a4
 have b3:js.length=N'.length:=Fb (CompOk.of hB).cap
 exists g,tc,tx,λi m zZ D=>m=r.length - i/\i<=r.length/\∃n' zY k E,Rel X.K #[M',C.F,C.U,λb=>C.V b\/b=l,O,[],[]] M' D n' zY zZ/\D l=P3^.lst E/\Ats X.K M' D k E/\k.length<=i/\Pres M O M' D /\
   D6 b tt te (λk n2=>P (.lst k) n2) (r.drop i) k n' zY,g1,c1,x1,#[r.length,by simp,eq _,n1,Hb js ρ,[],[],?_]
 .have G:Grow O^A4 O l^.lst []:=A1 hl
  have T:Pres M O M'^A4 O l^.lst []:=#[λb o e _=>G.all b o e,λb z=>(a0 b z).elim .inl λz=>.inr (by rw[z];exact hl),λb E e=>G.all b _ e];refine#[#[?_,λa z=>z,λa z=>?_,G.ext,R1.fU,λa z=>.inl^R1.uV a z,a9,f1.pres T λf o _ e=>G.all f.1 o e,?_,λp hp=>absurd hp^by simp,λi d a q z=>Tp R1.sl q z,λi s a q o _=>absurd o (by rw[Ek q];decide),λi j s t a q o _ _ _ _=>absurd o (by rw[Ek q];decide),λp hp=>absurd hp^by simp],Ah,rfl,eq _,T,w1]
  .unfold Hb Cw
   rw[No,No]
  .rcases a0 a z with z|z
   .let#[o,z]:=R1.dom a z
    exact#[o,G.all a o z]
   .subst z
    exact#[_,Ah]
  .refine QK R1.sl T λd v h=>h.same T (λa o _ e=>G.all a o e) λa e n1 z=>z.elim n1 λz=>?_
   subst e;let#[o,w]:=h.lies;rw[z,hl]at w;cases w
 .rintro i m zZ D ⟨rfl,hi,n',zY,k,E,R',a6,W,a7,T,w'⟩
  by_cases Y:i<r.length
  .have ed:r.drop i=r[i]::r.drop (i+1):=kJ Y
   rw[ed]at w';let#[go,yl]:=(y i M' D T R'.ext R'.dom).1 r[i] (On Y);refine .inr #[go,λx H2 hy=>?_];let#[G,hx]:=yl x H2 hy;have b0:=R'.step G.ext^R'.feed.grow G;refine g2 _ M' H2 n' zY zZ r[i] x _ _ b0 hx w' λzP zV R3 w3=>?_;refine c2 _ M' H2 n' zP zV _ _ R3 w3 λc H4 n4 e4 f4 w4=>?_;have R4:=R3.step e4 f4;have p4:Pres M' D M' H4:=G.pres.trans^R3.pres e4;have l4:H4 l=P3^.lst E:=e4.keep (G.all _ _ a6) a3;cases c with
   |false=>exact#[r.length - (i+1),by lk,rfl,Y,n4,zP,k,E,R4,l4,W.pres p4,by lk,T.trans p4,w4]
   | true=>
    refine x2 _ M' H4 n4 zP zV _ _ R4 w4 λyv H5 d5 n5 e5 f5 r5 w5=>?_;have A:=R4.step e5 f5;have p5:Pres M' H4 M' H5:=R4.pres e5;have l5:H5 l=P3^.lst E:=e5.keep l4 a3;have b1:=r5.shOf R4.dom hk;have a5:=(W.pres p4).pres p5;have pu:Pres M' H5 M'^A4 H5 l^.lst (E++[yv]):=CP a4 l5;have b5:E.length=k.length:=W.length;refine#[E,l5,by rw[jj];lk,r.length - (i+1),by lk,rfl,Y,n5,zP,k++[d5],E++[yv],?_,Ah,(a5.append^Ats.one b1).pres pu,by rw[jD,jV];lk,(T.trans p4).trans^p5.trans pu,w5];refine#[A.len,A.sub,λa z=>?_,λb o e=>?_,A.fU,A.uV,A.vM,?_,λj s hs=>?_,λp hp=>absurd hp^by simp,A.br0,A.new,A.two,λp hp=>absurd hp^by simp]
    .by_cases ha:a=l
     .subst ha;exact#[_,Ah]
     .rw[AW ha];exact A.dom a z
    .let#[o',q1,q2]:=A.ext b o e
     by_cases hb:b=l
     .subst hb
      have e':O b=P3 o:=e;rw[hl]at e';cases e'
     .exact#[o',by rw[AW hb];exact q1,q2]
    .refine f5.pres pu λf o hf e=>?_
     rw[AW λz=>a3^by rw[←z];exact R1.fU f hf];exact e
    .have B:=A.sl j s hs
     cases s with
     |no=>trivial
     |sh d=>let#[v,u,h2]:=B;exact#[v,u,h2.pres pu]
     |ex a nm ks r=>let#[u,h2]:=B;exact#[u,h2.pres pu]
     | br d=>
      let#[v,u,h2]:=B;refine#[v,u,h2.same pu (λa o z e=>?_) λ_ _ z=>z];subst z;let#[o3,w]:=A.br0 j d a hs u
      have a7:a≠l:=λz=>by
       have w':O a=P3 o3:=w;rw[z,hl]at w';cases w'
      rw[AW a7];exact e
     |ow d=>
      let#[a,u,h2,_]:=B;exact absurd h2 (A.new j _ a hs rfl u).1
     |lt a d=>
      let#[u,h2,_]:=B;exact absurd h2 (A.new j _ a hs rfl u).1
     |fd=>exact B
  .have e:i=r.length:=by lk
   subst e;rw[mT]at w';refine .inl #[(y _ M' D T R'.ext R'.dom).2 (Op _),?_];have eb:Ext C.U O D:=R'.ext;have a8:Pres M' D M D:=Pres.less M'of;refine q _ D (.lst k) n' (u.trans eb) (R'.feed.pres a8 λ_ _ _ z=>z) (VR.back u ?_) w';exact#[l,rfl,hl,E,a6,by rw[S];exact W]
end
def IS{K:Frag}{F:w_ (Db×Db)}{U k M:Db->Prop}{H:Hp}{n:Nat}{c:v_ Slot}{f:v_ V}{N:v_ Str}(h:c5 K F U k M H n c f)(I:f.length<=N.length):
  Rel K #[M,F,U,k,H,[],[]] M H n (c++T0 (N.length - c.length) .no) (L2.start N f):=by
 let#[u,A,B,C,fd,q]:=h;have D:f.length=c.length:=Paired.length q
 have E:∀{f:v_ V}{c:v_ Slot}{i:Nat}{s:Slot},Paired (Nj K F k M H) f c->c[i]?=P3 s->∃v,f[i]?=P3 v/\Nj K F k M H v s:=by
  intro f c i s q
  induction q generalizing i with
  |nil=>intro e;simp at e
  | cons r t G=>
   intro e;cases i with
   |zero=>simp at e;subst e;exact#[_,rfl,r]
   |succ i=>
    let#[v,l,m]:=G (i:=i) (by simpa using e);exact#[v,by simpa using l,m]
 have g:∀(i:Nat) (s:Slot),(c++T0 (N.length - c.length) Slot.no)[i]?=P3 s->s=.no\/∃v,((L2.start N f)[i]?).getD s_=P3 v/\Nj K F k M H v s:=by
  intro i s b
  by_cases x:i<c.length
  .rw[mH x]at b
   let#[v,l,m]:=E q b;refine .inr #[v,?_,m];unfold L2.start;rw[mH (by rw[No,D];exact x),jG,l];rfl
  .rw[kH^by lk,nh]at b
   split at b
   .exact .inl (jH b).symm
   .cases b
 refine#[?_,λa z=>z,u,Ext.refl _ _,A,B,C,fd,λi s b=>?_,λp w=>absurd w^by simp,λi d a b y=>?_,λi s a b o _=>?_,λi j s t a b o _ _ _ _=>?_,λp w=>absurd w^by simp]
 .unfold L2.start
  simp only[jD,No,p7];lk
 .rcases g i s b with rfl|⟨v,e,h⟩
  .trivial
  .rw[e];exact h.1
 .rcases g i _ b with z|⟨v,e,h⟩
  .cases z
  .rw[e]at y
   cases y;let#[v,l,m]:=h.1;cases l;exact m.lies
 .rcases g i s b with rfl|⟨v,e,h⟩
  .cases o
  .rw[h.2]at o;cases o
 .rcases g i s b with rfl|⟨v,e,h⟩
  .cases o
  .rw[h.2]at o;cases o
def hV{P:jM}{w:jT}{K:Frag}{u:Str->w_ Ev}{e:jI}{x b:Str}{st:jP}{f:Db}{fd:jp}{N g:v_ Str}{k:Nat}{l:Kd}{W:W2}{y:Ac}(F:Fun K x b st f fd)(S:Ab N g^AK st)(D:g.length<=N.length)
  (G:∀(c:Ev) (A:jY) (a:v_ Env) (s:Go) (H:Hp) (E:XK),Room k^A.deeper^envOfC b (AK st) s.heap.objs.size f c->RH (EG Fy P w K u e N b (AK st) f c A a s H E).nox l (Bc st) y)
  (hW:∀j n i,j.length=g.length->W j n i->y {nx:=λn _=>l=.sh/\i .non n,rt:=i} n (j++T0 (N.length - g.length) .no)):
  CU P w K u e Fy (k+1) f fd g (Vt K l W g.length):=by
 refine F.ok S (λB H Q E h=>h.1) λc A a s H B Q E I h=>?_;let#[hl,J,U,L,M,n,j,i,C,hw,q]:=h;let#[t,O,T]:=G c A a s H E I;exists t,O;have el:B.length=j.length:=Paired.length C.2.2.2.2.2;have R:=IS (N:=N) C (by lk);refine T #[M,J,U,L,H,[],[]] M H n _ _ {nx:=λn _=>l=.sh/\i .non n,rt:=i} _ R #[λM1 m o zS zK r p=>?_,λv m d o V X Y p=>q v m d o V X Y p,λ_ _ _ _ _ _ z=>z.elim,λ_ _ _ _ _ _ z=>z.elim] ?_
 .let#[Z,p]:=p
  subst Z;exact q .non m .non o r.ext (r.feed.pres (Pres.less r.sub) λ_ _ _ z=>z) rfl p
 grind
end Dp
namespace L2
section
variable {X:Cx}
def Inv.rdl{c:v_ (Db×Obj)}{Z:L2.St}{H:Hp}{s:Go}{l:Db}{b:v_ V}(I:Inv X c Z H s)(h:Rd H l^.lst b):b.length<=sizeLine/\∃(a:v_ Ev) (n:Nat),Vals b a/\b.length=a.length/\s.heap.get? l=P3 {cls:=.type "list",data:=.seq a.toArray n}:=by
 let#[z,a,n,r,e]:=h.ok I.hok;exact#[z,_,n,r,r.length,e]
def ZF:OpR X (binaryOp .Add) (λx y H Q=>∃l b d f,x=.ref l/\y=.ref b/\Rd H l^.lst d/\Rd H b^.lst f/\d.length+f.length<=sizeLine/\∀p,H p=s_->Q (.ref p)^A4 H p^.lst (d++f)):=by
 intro A s Z H x y v u Q I g i h;let#[l,b,d,f,rfl,rfl,j,k,B,q]:=h;cases g;cases i;let#[z,c,n,r,C,e]:=I.rdl j;let#[D,a,E,m,o,t]:=I.rdl k;refine PySem.P.add_list e t ?_ (by grind);have w:c.toArray++a.toArray=(c++a).toArray:=by simp
 rw[w];exact#[.ref _,_,I.lnew (r.append m)^by grind,rfl,q _ I.fresh]
end
end L2
namespace Dp
open L2
section
variable {K:Frag}
def AtT.int{U M:Db->Prop}{H:Hp}{i:Int}{v:V}(h:AtT K U M H (.int i) v):v=.int i:=h
def AtT.bl{U M:Db->Prop}{H:Hp}{i:Bool}{v:V}(h:AtT K U M H (.bl i) v):v=.bl i:=h
def AtT.str{U M:Db->Prop}{H:Hp}{x:Str}{v:V}(h:AtT K U M H (.str x) v):v=.str x/\x.length<=sizeLine:=h
def AtT.tup{U M:Db->Prop}{H:Hp}{b:v_ D}{v:V}(h:AtT K U M H (.tup b) v):∃a c,v=.ref a/\NdT M H a c/\Ats K M H b c:=h
def gL(g:Int->Int->(D->Prop)->Prop)(d e:D)(P:D->Prop):Prop:=match d,e with
 |.int i,.int j=>g i j P
 |_,_=>False
def OW{g:Int->Int->(D->Prop)->Prop}{d e:D}{P:D->Prop}(w:gL g d e P):∃i j,d=.int i/\e=.int j/\g i j P:=by
 unfold gL at w
 split at w
 .grind
 grind
def f2(g:Int->Int->D):D->D->(D->Prop)->Prop:=gL λi j P=>P^g i j
def Vv(C:Int->Int->Prop)(g:Int->Int->D):D->D->(D->Prop)->Prop:=gL λi j P=>C i j/\P^g i j
def YK{g:Int->Int->Int}:E4 K .sh (JO λi j=>.int^g i j) (f2 λi j=>.int^g i j):=by
 intro U M H d e x y P Q a f b c w q;let#[i,j,rfl,rfl,w]:=OW w;exact#[i,j,b,c,q _ H (.int _) .refl rfl w]
def Ox{g:Int->Int->Bool}:E4 K .sh (JO λi j=>.bl^g i j) (f2 λi j=>.bl^g i j):=by
 intro U M H d e x y P Q a f b c w q;let#[i,j,rfl,rfl,w]:=OW w;exact#[i,j,b,c,q _ H (.bl _) .refl rfl w]
def Dt{C:Int->Int->Prop}{g:Int->Int->Int}:E4 K .sh (rI C λi j=>.int^g i j) (Vv C λi j=>.int^g i j):=by
 intro U M H d e x y P Q a f b c w q;let#[i,j,rfl,rfl,w]:=OW w;exact#[i,j,b,c,w.1,q _ H (.int _) .refl rfl w.2]
def gK(g:Str->Str->(D->Prop)->Prop)(d e:D)(P:D->Prop):Prop:=match d,e with
 |.str i,.str j=>g i j P
 |_,_=>False
def T5{g:Str->Str->(D->Prop)->Prop}{d e:D}{P:D->Prop}(w:gK g d e P):∃i j,d=.str i/\e=.str j/\g i j P:=by
 unfold gK at w
 split at w
 .grind
 grind
def YJ{g:Str->Str->Bool}:E4 K .sh (λx y H Q=>∃i j,x=.str i/\y=.str j/\Q (.bl^g i j) H) (gK λi j P=>P^.bl^g i j):=by
 intro U M H d e x y P Q a f b c w q;let#[i,j,rfl,rfl,w]:=T5 w;exact#[i,j,b.1,c.1,q _ H (.bl _) .refl rfl w]
def Vh:E4 K .sh (λx y H Q=>∃i j,x=.str i/\y=.str j/\i.length+j.length<=sizeLine/\Q (.str (i++j)) H) (gK λi j P=>i.length+j.length<=sizeLine/\P^.str (i++j)):=by
 intro U M H d e x y P Q a f b c w q;let#[i,j,rfl,rfl,w]:=T5 w;exact#[i,j,b.1,c.1,w.1,q _ H (.str _) .refl #[rfl,by rw[Str.length_append i j];exact w.1] w.2]
def hZ(g:v_ D->v_ D->(D->Prop)->Prop)(d e:D)(P:D->Prop):Prop:=match d,e with
 |.tup i,.tup j=>g i j P
 |_,_=>False
def h7(g:v_ D->v_ D->(D->Prop)->Prop)(d e:D)(P:D->Prop):Prop:=match d,e with
 |.lst i,.lst j=>g i j P
 |_,_=>False
def Zb{g:v_ D->v_ D->(D->Prop)->Prop}{d e:D}{P:D->Prop}(w:hZ g d e P):∃i j,d=.tup i/\e=.tup j/\g i j P:=by
 unfold hZ at w
 split at w
 .grind
 grind
def Zd{g:v_ D->v_ D->(D->Prop)->Prop}{d e:D}{P:D->Prop}(w:h7 g d e P):∃i j,d=.lst i/\e=.lst j/\g i j P:=by
 unfold h7 at w
 split at w
 .grind
 grind
def Ce{M:Db->Prop}{H:Hp}{p:Db}{b:v_ V}{c:v_ D}(d:∀a,M a->∃o,H a=P3 o)(e:H p=s_)(h:Ats K M H c b):At K M (A4 H p^.tup b) (.tup c)^.ref p:=#[p,b,rfl,Ah,h.pres (A1 e).pres]
def Cf{U M:Db->Prop}{H:Hp}{p:Db}{a:v_ V}{b:v_ D}(c:H p=s_)(h:Ats K M H b a):VR K U M H (A4 H p^.lst a) .fr (.ref p)^.lst b:=
 #[p,rfl,c,a,Ah,h.pres^Gw c]
def Vg:E4 K .sh (Wp K) (hZ λi j P=>i≠[]/\i.length+j.length<=sizeLine/\P^.tup (i++j)):=by
 intro U M H d e x y P Q c u o r w q;let#[i,j,rfl,rfl,w]:=Zb w;let#[a,g,rfl,h,f]:=o.tup;let#[b,s,rfl,t,k]:=r.tup;have l:=f.length;have m:=k.length;refine#[a,b,g,s,rfl,rfl,h.sq,t.sq,λz=>w.1 ?_,by simp_all,λz=>?_,λz p n=>?_]
 .rw[z]at l;exact ni.mp l.symm
 .rw[z]at m
  have:j=[]:=ni.mp m.symm
  subst this;exact q _ H (.tup i) .refl #[a,g,rfl,h,f]^by grind
 .exact q _ _ (.tup (i++j)) (A1 n) (Ce c n^f.append k) w.2.2
def Vi:E4 K .fr (λx y H Q=>∃l b c f,x=.ref l/\y=.ref b/\Rd H l^.lst c/\Rd H b^.lst f/\c.length+f.length<=sizeLine/\∀p,H p=s_->Q (.ref p)^A4 H p^.lst (c++f)) (h7 λi j P=>i.length+j.length<=sizeLine/\P^.lst (i++j)):=by
 intro U M H d e x y P Q m v n o w q;let#[i,j,rfl,rfl,w]:=Zd w;let#[a,r,rfl,_,s,g]:=n;let#[b,t,rfl,_,u,h]:=o;exact#[a,b,r,t,rfl,rfl,s,u,by rw[g.length,h.length];exact w.1,λp k=>q _ _ _ (A1 k) (Cf k^g.append h) w.2]
def J7(a:Bool)(d e:D)(P:D->Prop):Prop:=match d,e with
 |.bl i,.bl j=>P^.bl (if a then !(i==j)else i==j)
 |.int i,.int j=>P^.bl (if a then !(i==j)else i==j)
 |.str i,.str j=>P^.bl (if a then !(i==j)else i==j)
 |_,_=>False
def T6{a:Bool}{d e:D}{P:D->Prop}(w:J7 a d e P):(∃i j,d=.bl i/\e=.bl j/\P^.bl (if a then !(i==j)else i==j))\/(∃i j,d=.int i/\e=.int j/\P^.bl (if a then !(i==j)else i==j))\/∃i j,d=.str i/\e=.str j/\P^.bl (if a then !(i==j)else i==j):=by
 unfold J7 at w
 split at w
 .simp_all
 .simp_all
 .simp_all
 grind
def Jw:E4 K .sh iN^J7 u_:=by
 intro U M H d e x y P Q c f a b w q
 rcases T6 w with⟨i,j,rfl,rfl,w⟩|⟨i,j,rfl,rfl,w⟩|⟨i,j,rfl,rfl,w⟩
 .rw[a.bl,b.bl];exact#[rfl,q _ H _ .refl (by rw[Oe];rfl) w]
 .rw[a.int,b.int];exact#[rfl,q _ H _ .refl (by rw[KC];rfl) w]
 .rw[a.str.1,b.str.1];exact#[rfl,q _ H _ .refl (by rw[KA];rfl) w]
def cf:E4 K .sh iK^J7 t_:=by
 intro U M H d e x y P Q c f a b w q
 rcases T6 w with⟨i,j,rfl,rfl,w⟩|⟨i,j,rfl,rfl,w⟩|⟨i,j,rfl,rfl,w⟩
 .rw[a.bl,b.bl];exact#[rfl,q _ H _ .refl (by rw[Oe];rfl) w]
 .rw[a.int,b.int];exact#[rfl,q _ H _ .refl (by rw[KC];rfl) w]
 .rw[a.str.1,b.str.1];exact#[rfl,q _ H _ .refl (by rw[KA];rfl) w]
def Xg:D->Bool
 |.non=>t_
 |_=>u_
def QP{U M:Db->Prop}{H:Hp}{d:D}{x:V}(h:AtT K U M H d x):decide (x=.non)=Xg d:=by
 cases d with
 |non=>rw[h];rfl
 |bl b=>rw[h.bl];rfl
 |int i=>rw[h.int];rfl
 |str z=>rw[h.str.1];rfl
 |tup c=>let#[a,e,rfl,_]:=h.tup;rfl
 |lst c=>let#[a,e,rfl,_]:=h;rfl
 |dic f c=>let#[a,e,rfl,_]:=h;rfl
 |fdi f c=>let#[a,e,rfl,_]:=h;rfl
 |dit f c=>let#[a,e,rfl,_]:=h;rfl
def Az(d e:D)(P:D->Prop):Prop:=match d,e with
 |.lst a,.int i=>∃z,atI a i=P3 z/\P z
 |.tup a,.int i=>∃z,atI a i=P3 z/\P z
 |.str x,.int i=>∃c,atI x.cps.toList i=P3 c/\P^.str #[#[ c]]
 |_,_=>False
def Ze{d e:D}{P:D->Prop}(w:Az d e P):(∃a i z,d=.lst a/\e=.int i/\atI a i=P3 z/\P z)\/(∃a i z,d=.tup a/\e=.int i/\atI a i=P3 z/\P z)\/∃x i c,d=.str x/\e=.int i/\atI x.cps.toList i=P3 c/\P^.str #[#[ c]]:=by
 unfold Az at w
 split at w
 .simp_all
 .simp_all
 .simp_all
 grind
theorem Ats.atI{M:Db->Prop}{H:Hp}{a:v_ D}{b:v_ V}{i:Int}{z:D}(h:Ats K M H a b)(e:atI a i=P3 z):∃v,L2.atI b i=P3 v/\At K M H z v:=by
 unfold L2.atI at e ⊢;rw[h.length];cases q:Xf _ i with
 |none=>grind
 |some j=>
  rw[q]at e;exact h.get e
def Ai:E4 K .sh (iL K) Az:=by
 intro U M H d e x y P Q n r f g w q
 rcases Ze w with⟨o,i,z,rfl,rfl,h,w⟩|⟨o,i,z,rfl,rfl,h,w⟩|⟨x,i,c,rfl,rfl,p,w⟩
 .let#[a,j,rfl,_,k,l]:=f
  let#[v,m,b]:=l.atI h;exact .inl #[a,j,i,v,rfl,g,.inl k,m,q v H z .refl b w]
 .let#[a,j,rfl,k,l]:=f.tup
  let#[v,m,b]:=l.atI h;exact .inr^.inl #[a,j,i,v,rfl,g,k.sq,m,q v H z .refl b w]
 .exact .inr^.inr #[x,i,c,f.str.1,g,f.str.2,p,q _ H (.str _) .refl #[rfl,by show 1<=16777216;decide] w]
def cutD{b:Type}(a:v_ b)(c d:w_ Int):v_ b:=(a.drop^HT.sIx a.length 0 c).take (HT.sIx a.length a.length d - HT.sIx a.length 0 c)
def FK{R:V->D->Prop}{a:v_ V}{d:D}(h:Paired R a [d]):∃v,a=[v]/\R v d:=by
 cases h with
 |cons r t=>cases t;grind
def gu:D->w_ Nat
 |.str x=>P3 x.length
 |.tup a=>P3 a.length
 |.lst a=>P3 a.length
 |_=>s_
def EB(a:v_ D)(P:D->Prop):Prop:=∃d n,a=[d]/\gu d=P3 n/\P^.int (n:Int)
def DA:EY K .sh (λe H Q=>∃x n,e=[x]/\c9 K x H n/\Q (.int n) H) EB:=by
 intro U M H k l P Q i m j w q;let#[d,n,rfl,b,w]:=w;let#[v,rfl,c]:=FK j;refine#[v,n,rfl,?_,q _ H (.int _) .refl rfl w];cases d with
 |str z=>cases b;rw[c.str.1];exact#[c.str.2,rfl]
 |tup e=>
  cases b;let#[a,f,rfl,g,h]:=c.tup;exact .inr #[f,g.sq,h.length.symm]
 |lst e=>
  cases b;let#[a,f,rfl,_,g,h]:=c;exact .inl #[f,.inl g,h.length.symm]
 |_=>cases b
def allB:v_ D->w_^v_ Bool
 |[]=>P3 []
 |.bl b::r=>(allB r).map (b::·)
 |_::_=>s_
theorem UK{M:Db->Prop}{H:Hp}:∀{d:v_ D}{a:v_ V}{c:v_ Bool},allB d=P3 c->Ats K M H d a->a=c.map V.bl
 |[],a,c,e,h=>by cases e;exact h
 |.bl b::r,a,c,e,h=>by
  let#[v,l,f,g,i]:=h;let#[j,k,rfl]:=jx.mp e;rw[f,UK k i,g];rfl
 |.non::r,a,c,e,h=>by cases e
 |.int _::r,a,c,e,h=>by cases e
 |.str _::r,a,c,e,h=>by cases e
 |.tup _::r,a,c,e,h=>by cases e
 |.lst _::r,a,c,e,h=>by cases e
 |.dic _ _::r,a,c,e,h=>by cases e
 |.fdi _ _::r,a,c,e,h=>by cases e
 |.dit _ _::r,a,c,e,h=>by cases e
def MX(c:v_ D)(P:D->Prop):Prop:=∃a b,c=[.lst a]/\allB a=P3 b/\P^.bl^b.all id
def Lx:EY K .sh (λc H Q=>∃(p:Db) (b:v_ Bool),c=[.ref p]/\SqL K H p^b.map V.bl/\Q (.bl^b.all id) H) MX:=by
 intro U M H j k P Q d l f w q;let#[c,b,rfl,e,w]:=w;let#[v,rfl,g]:=FK f;let#[a,m,rfl,_,h,i]:=g
 have:=UK e i
 subst this;exact#[a,b,rfl,.inl h,q _ H (.bl _) .refl rfl w]
def Sg:v_ D->w_^v_ Str
 |[]=>P3 []
 |.str b::r=>(Sg r).map (b::·)
 |_::_=>s_
theorem UI{M:Db->Prop}{H:Hp}:∀{d:v_ D}{a:v_ V}{c:v_ Str},Sg d=P3 c->Ats K M H d a->a=c.map V.str
 |[],a,c,e,h=>by cases e;exact h
 |.str b::r,a,c,e,h=>by
  let#[v,l,f,g,i]:=h;let#[j,k,rfl]:=jx.mp e;rw[f,UI k i,g.1];rfl
 |.non::r,a,c,e,h=>by cases e
 |.int _::r,a,c,e,h=>by cases e
 |.bl _::r,a,c,e,h=>by cases e
 |.tup _::r,a,c,e,h=>by cases e
 |.lst _::r,a,c,e,h=>by cases e
 |.dic _ _::r,a,c,e,h=>by cases e
 |.fdi _ _::r,a,c,e,h=>by cases e
 |.dit _ _::r,a,c,e,h=>by cases e
def Lf(b:v_ D)(P:D->Prop):Prop:=match b with
 |[.lst a]=>P^.lst a
 |[.tup a]=>P^.lst a
 |_=>False
def UN:EY K .fr (λi H Q=>∃p c,i=[.ref p]/\(SqL K H p c\/SqT K H p c)/\∀l,H l=s_->Q (.ref l)^A4 H l^.lst c) Lf:=by
 intro U M H k m P Q j n h w q;unfold Lf at w
 split at w
 .let#[v,rfl,d]:=FK h
  let#[a,e,rfl,_,f,g]:=d;exact#[a,e,rfl,.inl^.inl f,λl b=>q _ _ _ (A1 b) (Cf b g) w]
 .let#[v,rfl,d]:=FK h
  let#[a,e,rfl,f,g]:=d.tup;exact#[a,e,rfl,.inr f.sq,λl b=>q _ _ _ (A1 b) (Cf b g) w]
 grind
end
def gE:D->String
 |.non=>"NoneType"
 |.bl _=>"bool"
 |.int _=>"int"
 |.str _=>"str"
 |.tup _=>"tuple"
 |.lst _=>"list"
 |.dic _ _=>"dict"
 |.fdi _ _=>"dict"
 |.dit _ _=>"dict"
def fJ(t T:String):Bool:=t==T||(t=="bool"&&T=="int")
def KU(T:String)(a:DW):DW:=λn b P=>a n b λd c=>P (.bl^fJ (gE d) T) c
structure YU (K:Frag) (T:String):Prop where
 ans:∀t∈["NoneType","bool","int","str","tuple","list","dict"],PySem.W.kitOne K (.type t)^.type T=P3^fJ t T
def Yh{K:Frag}{M U:Db->Prop}{H:Hp}{d:D}{x:V}(h:AtT K U M H d x):G2 K H x^.type^gE d:=by
 cases d with
 |non=>cases(h);exact .non
 |bl b=>cases h.bl;exact .bl b
 |int i=>cases h.int;exact .int i
 |str z=>cases h.str.1;exact .str z
 |tup e=>
  let#[a,f,rfl,c,j]:=h.tup;exact .tup c
 |lst e=>
  let#[a,f,rfl,_,c,j]:=h
  rcases c with c|⟨o,c⟩
  .exact .lst c
  .exact .frz c
 |dic g e=>
  let#[a,f,rfl,_,c,_]:=h;exact .dK c
 |fdi g e=>
  let#[a,f,rfl,#[o,_,c],_]:=h;exact .dF c
 |dit g e=>
  let#[a,f,rfl,_,c,_]:=h;exact .dT c
def Yi(d:D):gE d∈["NoneType","bool","int","str","tuple","list","dict"]:=by cases d <;>simp[gE]
def ED{X:Cx}{a:jX}{o:Kd}{l:DW}{T:String}{b:Str}{p c pos:Pos}(r:YU X.K T)(s:DE X a o l)(u:Gl X "isinstance")(x:X.mg "isinstance"=s_)(e:Gl X b)(f:X.mg b=s_)(g:bootBuiltins b=P3^.type T)
  (h:b ≠ "__name__":=by cbv) (i:(b==("__debug__":Str))=u_:=by cbv)
  (m:starEach [a,.Name b c] X.env=(u_,eval a X.env)::starEach [.Name b c] X.env:=by rfl) (j:starEach [.Name b c] X.env=[(u_,eval (.Name b c) X.env)]:=by rfl)
  (k:(backTo pos^starEach [.Name b c] X.env).any (·.1)=u_:=by rfl):DE X (.Call (.Name "isinstance" p) [a,.Name b c] [] pos) .sh^KU T l:=by
 let#[t,y,z]:=s;have A:PE X (.Name b c)^tC^.ty T:=Tf e f g rfl h i;exact#[_,EN Qm u x (by decide +kernel) (BZ y (BZ A CJ j) m) (by cbv) (by cbv) m k,λC M H n B Z P Q R w q=>z C M H n B Z _ _ R w λv D d E F G I p=>#[v,T,_,_,rfl,Yh^I.tpOf R.dom R.vM,r.ans _^Yi d,q _ D (.bl _) E F G rfl p]]
section
variable {K:Frag}{X:Cx}
def aM(d e:D)(P:D->Prop):Prop:=match d,e with
 |.int i,.int j=>P^.int (i+j)
 |.str i,.str j=>i.length+j.length<=sizeLine/\P^.str (i++j)
 |.tup i,.tup j=>i≠[]/\i.length+j.length<=sizeLine/\P^.tup (i++j)
 |.lst i,.lst j=>i.length+j.length<=sizeLine/\P^.lst (i++j)
 |_,_=>False
def eh:R2:=λx y H Q=>∃l b a c,x=.ref l/\y=.ref b/\Rd H l^.lst a/\Rd H b^.lst c/\a.length+c.length<=sizeLine/\∀p,H p=s_->Q (.ref p)^A4 H p^.lst (a++c)
def eZ:R2:=λx y H Q=>∃i j,x=.str i/\y=.str j/\i.length+j.length<=sizeLine/\Q (.str (i++j)) H
def Z6(g:Str->Str->Bool):R2:=λx y H Q=>∃i j,x=.str i/\y=.str j/\Q (.bl^g i j) H
def Wq(K:Frag):R2:=λx y H Q=>(JO λi j=>.int (i+j)) x y H Q\/eZ x y H Q\/Wp K x y H Q\/eh x y H Q
def op_addU:OpR X (binaryOp .Add)^Wq X.K:=op_add.or^(Rx).or^op_catT.or^ZF
def Oy:E4 X.K .sh (Wq X.K) aM:=λU M H d e x y P Q a b c f w q=>by
 unfold aM at w
 split at w
 .exact .inl^YK U M H _ _ x y P Q a b c f w q
 .exact .inr^.inl^Vh U M H _ _ x y P Q a b c f w q
 .exact .inr^.inr^.inl^Vg U M H _ _ x y P Q a b c f w q
 .exact .inr^.inr^.inr^Vi U M H _ _ x y P Q a b c f w λv h z g r p=>q v h z g (r.shOf a^by grind) p
 grind
def fW(d e:D)(P:D->Prop):Prop:=match d,e with
 |.int i,.int j=>P^.bl (decide (i<j))
 |.str i,.str j=>P^.bl (decide (i.cps.toList<j.cps.toList))
 |_,_=>False
def bL:R2:=λx y H Q=>(JO λi j=>.bl (decide (i<j))) x y H Q\/Z6 (λi j=>decide (i.cps.toList<j.cps.toList)) x y H Q
def op_ltU:OpR X (compareOp .Lt) bL:=op_lt.or U2
def aS:E4 X.K .sh bL fW:=λU M H d e x y P Q a b c f w q=>by
 unfold fW at w
 split at w
 .exact .inl^Ox U M H _ _ x y P Q a b c f w q
 .exact .inr^YJ U M H _ _ x y P Q a b c f w q
 grind
def QW(d e:D)(P:D->Prop):Prop:=match d,e with
 |.int i,.int j=>P^.bl (decide (i<=j))
 |.str i,.str j=>P^.bl (!(decide (j.cps.toList<i.cps.toList)))
 |_,_=>False
def eQ:R2:=λx y H Q=>(JO λi j=>.bl (decide (i<=j))) x y H Q\/Z6 (λi j=>!(decide (j.cps.toList<i.cps.toList))) x y H Q
def OF:OpR X (compareOp .LtE) eQ:=op_le.or U3
def UO:E4 X.K .sh eQ QW:=λU M H d e x y P Q a b c f w q=>by
 unfold QW at w
 split at w
 .exact .inl^Ox U M H _ _ x y P Q a b c f w q
 .exact .inr^YJ U M H _ _ x y P Q a b c f w q
 grind
def eU:R2:=JO λi j=>.bl (decide (j<i))
def LG:OpR X (compareOp .Gt) eU:=aF
def Qz:E4 X.K .sh eU (f2 λi j=>.bl (decide (j<i))):=Ox
def eV:R2:=JO λi j=>.bl (decide (j<=i))
def bn:OpR X (compareOp .GtE) eV:=aG
def fk:E4 X.K .sh eV (f2 λi j=>.bl (decide (j<=i))):=Ox
def eG:V->w_ Int->w_ Int->Hp->VK->Prop:=λx a b H Q=>∃z,x=.str z/\z.length<=sizeLine/\Q (.str^Txt.slice z a b) H
def sl_U:SlR X eG:=bE
def Nn(w:DW):DW:=λn a P=>w n a λd b=>∃i,d=.int i/\P (.int (-i)) b
def Fa{a:jX}{c:Kd}{b:DW}{pos:Pos}(h:DE X a c b):DE X (.UnaryOp .USub a pos) .sh^Nn b:=by
 let#[t,e,f]:=h;refine#[_,e9 al e,λC M H n g Z P Q R w q=>?_];refine f C M H n g Z _ _ R w λv j d k l m o p=>?_;let#[i,rfl,p]:=p;exact#[i,Ij o,q _ j (.int _) k l m rfl p]
def Got(P:jM)(w:jT)(K:Frag)(c:Str->w_ Ev)(a:jI)(x:Str)(k:Nat)(b:v_ Str)(e:Kd)(W:W2):Prop:=
 ∃f fd,CU P w K c a Fy k f fd b^Vt K e W b.length/\c x=P3^.ref f/\keepIn K^.ref f=t_/\Binds K fd b []/\∀d n P,W d n P->d.length=b.length
def Bm{e:jX}{a:v_ jX}{k:Nat}{h:v_ Str}{g:Kd}{W:W2}{x:Str}{p pos:Pos}{b:Vx}(G:Got X.prog X.w X.K X.mg X.base x k h g W)
  (i:Room k X.A) (j:Gl X x) (l:aV X (e::a) b)
  (c:(x==("__debug__":Str))=u_:=by cbv) (m:starEach (e::a) X.env=(u_,eval e X.env)::starEach a X.env:=by rfl) (d:(backTo pos^starEach a X.env).any (·.1)=u_:=by rfl):
  DE X (.Call (.Name x p) (e::a) [] pos) g (AR W b):=by
 let#[f,fd,G,n,o,q,r]:=G;exact Zp G r i j n o q l c m d
def aD(b:Nat)(g:v_ D->D):W2:=λc n P=>∃a:v_ D,a.length=b/\c=a.map .sh/\P (g a) n
def Ut{a:Nat}{g:v_ D->D}{b:v_ Slot}{n:Nat}{P:D->Nat->Prop}(h:aD a g b n P):b.length=a:=by
 let#[c,e,rfl,_]:=h
 grind
def Tu:YU K "int":=#[λt a=>by
 simp at a
 rcases a with rfl|rfl|rfl|rfl|rfl|rfl|rfl <;>kernel_rfl]
def Xe:YU K "bool":=#[λt a=>by
 simp at a
 rcases a with rfl|rfl|rfl|rfl|rfl|rfl|rfl <;>kernel_rfl]
def Tt:YU K "str":=#[λt a=>by
 simp at a
 rcases a with rfl|rfl|rfl|rfl|rfl|rfl|rfl <;>kernel_rfl]
def kit_tuple:YU K "tuple":=#[λt a=>by
 simp at a
 rcases a with rfl|rfl|rfl|rfl|rfl|rfl|rfl <;>kernel_rfl]
end
theorem Hy{b:Type}(p:b->Bool):∀l:v_ b,allB (l.map λc=>.bl^p c)=P3^l.map p
 |[]=>rfl
 |a::l=>by
  rw[ju];unfold allB;rw[Hy p l];rfl
def YD{a b:Bool}{P:D->Nat->Prop}{n:Nat}{k:(D->Nat->Prop)->Prop}(c:a=t_->P (.bl b) n->k P)(h:P (.bl (a&&b)) n):(match (.bl a:D)with|.bl t_=>k P|.bl u_=>P (.bl u_) n|_=>False):=by
 cases a with
 |false=>exact h
 |true=>grind
def Xp{P:jM}{w:jT}{K:Frag}{d:Str->w_ Ev}{a:jI}{x:Str}{st:jP}{f:Db}{fd:jp}{k:Nat}{c:v_ Str}{e:Kd}{W:W2}(F:Fun K x x st f fd)(m:d x=P3^.ref f)(b:Binds K fd c [])
  (h:∀g n P,W g n P->g.length=c.length) (ok:CU P w K d a Fy k f fd c^Vt K e W c.length):Got P w K d a x k c e W:=#[f,fd,ok,m,F.kp,b,h]
def Pn(K:Frag):Sp:=λc H Q _=>∃a b,c=[V.ref a]/\(n8 (α:=Int) b<=63/\SqL K H a^b.map V.int)/\∀d,Q (.bl t_) d
def Nv(K:Frag):Sp:=λe H Q _=>∃a b,e=[V.ref a]/\(n8 (α:=Int) b<=63/\SqL K H a^b.map V.int) /\
 ∀(c f:Db) (d:Hp),c≠f->d c=P3^.lst^b.map V.int->d f=P3^.lst [.ref c,.int 0,.int 0]->Q (.ref f) d
def fe{a:v_ Int}(h:a.length<=63):Qf (a.map V.int) s_^P3 63=a.map V.int:=by
 have e:HT.sIx (a.map V.int).length (a.map V.int).length^P3 63=a.length:=by
  rw[show(63:Int)=(63:Nat)from rfl,HT.sIx_nat,No,Nat.min_eq_right h]
 unfold Qf;rw[HT.sIx_none]
 grind
def fQ{P:jM}{w:jT}{K:Frag}{I:Str->w_ Ev}{u:jI}{st N:jP}{B:v_ jP}{f:Db}{fd:jp}{C:v_ Str}{k n0:Nat}{O:Ac}(F:Fun K "law" "law" st f fd)
  (S:Ab ("_law_script"::"_law_feed_here"::C) ["_law_script"]^AK st) (J:Bc st=N::B) (X:n0<=2 ^ 60)
  (Y:∀(n:Ev) (A:jY) (l:v_ Env) (s:Go) (H:Hp) (E:XK),Room k^A.deeper^envOfC "law" (AK st) s.heap.objs.size f n->
   PS (EG Fy P w K I u ("_law_script"::"_law_feed_here"::C) "law" (AK st) f n A l s H E).nox N (Pk (WN (Nv K) [] E0^S_ (CA 0) Yr)^JX 1))
  (Z:∀(n:Ev) (A:jY) (l:v_ Env) (s:Go) (H:Hp) (E:XK),Room k^A.deeper^envOfC "law" (AK st) s.heap.objs.size f n->
   RH (EG Fy P w K I u ("_law_script"::"_law_feed_here"::C) "law" (AK st) f n A l s H E).nox .sh B O)
  (hW:O {nx:=λ_ _=>False,rt:=λd _=>d=.bl t_} n0 (.no::.fd::T0 C.length .no)):CU P w K I u Fy (k+1) f fd ["_law_script"]^Pn K:=by
 refine F.ok S (λvs H Q E h=>?_) λn A l s H vs Q E T h=>?_
 .let#[a,L,rfl,_]:=h
  rfl
 .let#[a,L,rfl,#[U,hS],q]:=h
  let#[t,t1,t2]:=Z n A l s H E T;refine#[Ua (Pk (WN (Nv K) [] E0^S_ (CA 0) Yr)^JX 1) t,by rw[J];exact BV (Y n A l s H E T) t1,?_];refine#[_,rfl,a,L,rfl,#[U,hS],λc g G D hc W=>?_]
  have y:∀(i:Nat) (x:Slot),(Slot.no::Slot.fd::T0 C.length Slot.no)[i]?=P3 x->Slot.no=x\/(Slot.fd=x/\i=1):=by
   intro i x m
   match i,m with
   |0,m=>exact .inl^jH m
   |1,m=>exact .inr #[jH m,rfl]
   |i+2,m=>
    rw[pe,pe,nh]at m
    split at m
    .exact .inl^jH m
    .cases m
  have R:Rel K #[λb=>b=g,P3 (g,c),λb=>b=g,λb=>b=g,G,[],[]] (λb=>b=g) G n0 (.no::.fd::T0 C.length .no)^(start ("_law_script"::"_law_feed_here"::C) [V.ref a]).set 1^P3^.ref g:=by
   refine#[by simp[L2.start],λ_ z=>z,λb z=>#[_,(congrArg G z).trans W],Ext.refl _ _,λb z=>by rw[←jH z],λ_ z=>z,λ_ z=>z,λb z=>?_,λi x m=>?_,λp M=>absurd M^by simp,λi d b m _=>?_,λi x b m o _=>?_,λi j x t b m o _ _ _ _=>?_,λp M=>absurd M^by simp]
   .have e:(g,c)=b:=jH z
    subst e;exact#[0,0,L,W,D,#[D,hc],U,by cbv,by lk]
   .rcases y i x m with e|⟨e,rfl⟩
    .rw[←e];trivial
    .rw[←e]
     exact#[(g,c),by simp[L2.start],rfl]
   .rcases y i _ m with e|⟨e,_⟩ <;>cases e
   .rcases y i x m with e|⟨e,_⟩ <;>(rw[←e]at o;cases o)
   .rcases y i x m with e|⟨e,_⟩ <;>(rw[←e]at o;cases o)
  refine t2 _ _ G n0 _ _ {nx:=λ_ _=>False,rt:=λd _=>d=.bl t_} _ R #[λ_ _ _ _ _ _ z=>z.elim,λv H2 d n' _ _ r p=>?_,λ_ _ _ _ _ _ z=>z.elim,λ_ _ _ _ _ _ z=>z.elim] hW;have e:d=.bl t_:=p;subst e;have e2:v=.bl t_:=r;subst e2;exact q H2
end Dp
namespace L2
section
variable {X:Cx}
theorem CV:∀{a:v_ Ev}{b:v_ Str},StrsAre a b->Vals (b.map V.str) a
 |_,_,.nil=>.nil
 |_,_,.cons x t r=>.cons #[t,rfl]^CV r
def Wm(K:Frag):v_ V->Hp->VK->Prop:=λc H Q=>∃(p:Db) (b:v_ Str),c=[.ref p]/\SqL K H p^b.map V.str/\b.length<64/\∀(a:v_ Str) (l:Db),a.Perm b->sortedS a=t_->H l=s_->Q (.ref l)^A4 H l^.lst^a.map V.str
def Sb:DR X (.builtin "sorted")^Wm X.K:=by
 intro y s Z H A B Q I r h;let#[p,C,rfl,f,g,q]:=h;let#[u,rfl,i]:=vals1 r;cases i;let#[j,c,k,D]:=I.list f;have a:=c.length;rw[No]at a;refine sorted_strs k.isList (RQ c) (by lk) λl m n d t=>?_;let#[e,v]:=sortedAll_at _ _ _;have w:=d.length_eq;have x:=I.hok.fresh^jk _;refine#[.ref _,_,I.laid (λb o z=>sortedAll_old z) (jk _) (show ObjOk _ _ _ _ _^.lst _ from#[?_,_,e,CV n,?_]),rfl,q _ _ d t x]
 .grind
 .exact v
def Z9:R2:=λx y H Q=>∃z k,x=.str z/\y=.int k/\MulOk z k/\Q (.str^Txt.mul z k) H
def ZD:OpR X (binaryOp .Mult) Z9:=by
 intro e s Z H x y v u Q I a b h;let#[z,k,rfl,rfl,c,q]:=h;let#[t,rfl]:=a;let#[d,rfl]:=b;exact SB.mul c λd k=>#[.str _,H,I.tok _,#[_,rfl],q]
end
end L2
namespace Dp
open L2
section
variable {K:Frag}
def BI(b:v_ D)(P:D->Prop):Prop:=match b with
 |[.lst a]=>P^.tup a
 |[.tup a]=>P^.tup a
 |_=>False
def Bg:EY K .sh (λj H Q=>∃p d,j=[.ref p]/\((SqL K H p d/\∀l,H l=s_->Q (.ref l)^A4 H l^.tup d)\/(SqT K H p d/\Q (.ref p) H))) BI:=by
 intro U M H k m P Q e n h w q;unfold BI at w
 split at w
 .let#[v,rfl,f]:=FK h
  let#[a,b,rfl,_,c,g]:=f;exact#[a,b,rfl,.inl #[.inl c,λl i=>q _ _ (.tup _) (A1 i) (Ce e i g) w]]
 .let#[v,rfl,f]:=FK h
  let#[a,b,rfl,c,g]:=f.tup;exact#[a,b,rfl,.inr #[c.sq,q _ H (.tup _) .refl #[a,b,rfl,c,g] w]]
 grind
theorem Ats.strs{M:Db->Prop}{H:Hp}:∀{a:v_ Str},(∀x∈a,x.length<=sizeLine)->Ats K M H (a.map D.str)^a.map V.str
 |[],_=>rfl
 |x::r,h=>#[_,_,rfl,#[rfl,h x Rs],Ats.strs λy b=>h y^Sc _ b]
theorem Ats.strs_le{M:Db->Prop}{H:Hp}:∀{b:v_ Str}{c:v_ V},Ats K M H (b.map D.str) c->∀x∈b,x.length<=sizeLine
 |[],_,_=>λx a=>by cases a
 |y::r,c,h=>λx a=>by
  let#[v,t,e,d,f]:=h
  rcases UF.mp a with rfl|a
  .exact d.2
  .exact Ats.strs_le f x a
def Xs(d:v_ D)(P:D->Prop):Prop:=∃(c:v_ D) (b:v_ Str),d=[.lst c]/\Sg c=P3 b/\b.length<64/\∀a:v_ Str,a.Perm b->sortedS a=t_->P^.lst^a.map .str
theorem UJ:∀{c:v_ D}{a:v_ Str},Sg c=P3 a->c=a.map .str
 |[],a,h=>by cases h;rfl
 |.str b::r,a,h=>by
  let#[t,e,rfl]:=jx.mp h;rw[ju,←UJ e]
 |.non::r,a,h=>by cases h
 |.int _::r,a,h=>by cases h
 |.bl _::r,a,h=>by cases h
 |.tup _::r,a,h=>by cases h
 |.lst _::r,a,h=>by cases h
 |.dic _ _::r,a,h=>by cases h
 |.fdi _ _::r,a,h=>by cases h
 |.dit _ _::r,a,h=>by cases h
def Zv:EY K .fr (Wm K) Xs:=by
 intro U M H p r P Q h s i w q;let#[t,j,rfl,e,b,w]:=w;let#[v,rfl,c]:=FK i;let#[a,u,rfl,_,k,d]:=c
 have:=UI e d
 subst this;have m:=UJ e;subst m;exact#[a,j,rfl,.inl k,b,λn l f o g=>q _ _ _ (A1 g) (Cf g^Ats.strs λx c=>d.strs_le x^f.mem_iff.mp c)^w _ f o]
def Le(d e:D)(P:D->Prop):Prop:=match d,e with
 |.int i,.int j=>CMul i j/\P^.int (i*j)
 |.str z,.int k=>MulOk z k/\(Txt.mul z k).length<=sizeLine/\P^.str^Txt.mul z k
 |_,_=>False
def Z_:R2:=λx y H Q=>(rI CMul λi j=>.int (i*j)) x y H Q\/Z9 x y H Q
def HU{X:Cx}:OpR X (binaryOp .Mult) Z_:=op_mul.or ZD
def Lw:E4 K .sh Z_ Le:=λU M H d e x y P Q a f b c w q=>by
 unfold Le at w
 split at w
 .exact .inl^Dt U M H _ _ x y P Q a f b c w q
 .rename_i z k
  exact .inr #[z,k,b.1,c,w.1,q _ H (.str _) .refl #[rfl,w.2.1] w.2.2]
 grind
end
section
variable {X:Cx}{tg e:Expr}{es:v_ Expr}{p pos:Pos}
def gR(X:Cx)(h:v_ jX)(b:v_ D->v_ Slot->(v_ Slot->Prop)->Prop):Prop:=∃g,fz X h g/\∀(C:Fm) (M:Db->Prop) (H:Hp) (n:Nat) (a:v_ Slot) (Z:L2.St) (c:v_ D) (d:v_ V) (P:v_ Slot->Prop) (Q:L2.St->Hp->Prop),Rel X.K C M H n a Z->Ats X.K M H c d->b c a P->
 (∀e f,Rel X.K C M H n e f->P e->Q f H)->g d Z H Q
def BM:v_ D->v_ Slot->(v_ Slot->Prop)->Prop:=λa b P=>a=[]/\P b
def Aa(b:BW)(bs:v_ D->v_ Slot->(v_ Slot->Prop)->Prop):v_ D->v_ Slot->(v_ Slot->Prop)->Prop:=λa c P=>match a with
 |d::r=>b d c λe=>bs r e P
 |[]=>False
def Bj:gR X [] BM:=#[_,Tb,λC M H n a Z b c P Q R h w q=>by
 let#[rfl,w]:=w;exact#[h,q a Z R w]]
def Al{b:BW}{bs:v_ D->v_ Slot->(v_ Slot->Prop)->Prop}(c:DG X e b)(f:gR X es bs)(i:(assignEach (e::es) X.env).map (·.2)=assign e X.env::(assignEach es X.env).map (·.2):=by rfl):gR X (e::es)^Aa b bs:=by
 let#[g,j,k]:=c;let#[z,l,m]:=f;refine#[_,HN j l i,λC M H n o Z s A P Q R h w q=>?_];cases s with
 |nil=>exact w.elim
 |cons d r=>
  let#[v,a,e,t,u]:=h;exact#[v,a,e,k C M H n o Z d v _ _ R t w λB E x y=>m C M H n _ _ r a _ _ x u y q]
def Bz(k:Nat)(bs:v_ D->v_ Slot->(v_ Slot->Prop)->Prop):BW:=λd b P=>match d with
 |.tup a=>a.length=k/\bs a b P
 |_=>False
def B7{bs:v_ D->v_ Slot->(v_ Slot->Prop)->Prop}{k:Nat}{j:Nat}(f:X.calm=t_)(h:gR X es bs)(i:(assignEach es X.env).length=k:=by rfl)(b:(assignEach es X.env).findIdx? (·.1)=s_:=by rfl):DG X (.Tuple es j pos)^Bz k bs:=by
 let#[g,l,m]:=h;refine#[_,W6 f l i b,λC M H n o Z d v P Q R h w q=>?_];cases d with
 |tup r=>
  let#[a,c,rfl,s,e]:=h;exact#[a,c,rfl,s.sq,by rw[e.length];exact w.1,m C M H n o Z r c P Q R e w.2 q]
 |_=>exact w.elim
def dZ(c:DW)(b:BW):Ac:=λe n a=>c n a λd f=>b d a λg=>e.nx f g
def cO{j a:Kd}{c:DW}{b:BW}(k:DE X e a c)(l:DG X tg b)(m:a≠.tp:=by intro z;cases z)(o:swapsWithSole [tg] e pos.line X.env=pure u_:=by rfl)(q:swappedStores [tg] e X.env=pure s_:=by rfl)
  (r:(assignEach [tg] X.env).map (·.2)=[assign tg X.env]:=by rfl):DS X j (.Assign [tg] e pos)^dZ c b:=by
 let#[t,s,u]:=k;let#[g,x,y]:=l;exact#[_,K8 s x o q r,λC M H n f Z I E R L w=>u C M H n f Z _ _ R w λv h d i A B D p=>y C M h i f Z d v _ _ (R.step A B) (D.shOf R.dom m) p λJ K F G=>L.nx M h i _ _ F G]
end
end Dp
namespace L2
mutual
def RV(H:Hp):nR->V->Prop
 |.none,v=>v=.non
 |.bool b,v=>v=.bl b
 |.int i,v=>v=.int i
 |.str x,v=>v=.str x
 |.tuple xs,v=>∃a vs,v=.ref a/\H a=P3^.tup vs/\RVs H xs vs
 |.list xs,v=>∃a vs,v=.ref a/\Rd H a^.lst vs/\RVs H xs vs
 |.dict _,_=>False
def RVs(H:Hp):v_ nR->v_ V->Prop
 |[],vs=>vs=[]
 |x::xs,vs=>∃v r,vs=v::r/\RV H x v/\RVs H xs r
end
section
variable {X:Cx}{zG:v_ (Addr×Obj)}{Z:L2.St}{H:Hp}{s:Shared}
mutual
theorem RV.reads(I:Inv X zG Z H s):∀{d:nR}{v:V}{u:Ev},RV H d v->RelV v u->∃as,Reads s.heap u d as
 |.none,v,u,h,r=>by
  cases(show v=.non from h);cases(show u=jd from r);exact#[_,.none]
 |.bool b,v,u,h,r=>by
  cases(show v=.bl b from h);cases(show u=pN b from r);exact#[_,.bool b]
 |.int i,v,u,h,r=>by
  cases(show v=.int i from h);let#[t,rfl]:=r;exact#[_,.int i t]
 |.str x,v,u,h,r=>by
  cases(show v=.str x from h);let#[t,rfl]:=r;exact#[_,.str x t]
 |.tuple xs,v,u,h,r=>by
  let#[a,vs,rfl,hq,hs]:=h;cases r;let#[its,rv,#[o,e,c,n,d],_]:=I.tuple (X:=X) (xs:=vs)^.inl^.inl hq;let#[as,ra]:=RVs.reads I hs rv;exact#[_,.tuple e c d ra]
 |.list xs,v,u,h,r=>by
  let#[a,vs,rfl,hq,hs]:=h;cases r;let#[its,rv,pl,_]:=I.list (X:=X) (xs:=vs)^.inl hq;let#[o,e,c,n,d]:=pl.isList;let#[as,ra]:=RVs.reads I hs rv;exact#[_,.list e c d ra]
 |.dict _,v,u,h,r=>h.elim
theorem RVs.reads(I:Inv X zG Z H s):∀{ds:v_ nR}{vs:v_ V}{us:v_ Ev},RVs H ds vs->Vals vs us->∃as,ReadsAll s.heap us ds as
 |[],vs,us,h,r=>by
  cases(show vs=[]from h);cases r;exact#[_,.nil]
 | d::ds,vs,us,h,r=>by
  let#[v,w,rfl,h1,h2]:=h;cases r with
  |cons r1 r2=>
   let#[as,a1]:=RV.reads I h1 r1;let#[bs,a2]:=RVs.reads I h2 r2;exact#[_,.cons a1 a2]
end
end
section
variable {X:Cx}
def eW:R2:=λx y H Q=>∃d e,RV H d x/\RV H e y/\d.canLay0=t_/\e.canLay0=t_/\d.depth<=100/\Q (.bl^kE d e) H
def LH{k:Nat}(a:Room k X.A):OpR X (compareOp .Eq) eW:=by
 intro n s Z H x y v u Q I b c h;let#[d,e,f,g,i,j,o,q]:=h;let#[p,l]:=RV.reads I f b;let#[r,m]:=RV.reads I g c;have t:=a.un;have w:min _ e.depth<=d.depth:=Nat.min_le_left _ _;exact PySem.SeqAt.compareEq_reads l m i j (by lk) #[.bl _,H,I,rfl,q]
def Yz(b:Bool):R2:=λx y H Q=>∃d a,RV H d x/\(RV H (.list a) y\/RV H (.tuple a) y)/\d.canLay0=t_/\lZ a=t_/\d.depth<=100/\Q (.bl (if b then !(a.any λy=>kE y d)else a.any λy=>kE y d)) H
def LF{k:Nat}(i:Room k X.A):OpR X (compareOp .In)^Yz u_:=by
 intro o s Z H x y v u Q I j c h;let#[d,l,m,a,e,f,p,q]:=h;let#[r,g]:=RV.reads I m j;have t:=i.un;have w:min (kj l) _<=d.depth:=nC _ _
 rcases a with a|a
 .let#[n,b]:=RV.reads I a c
  exact PySem.SeqAt.in_list_reads b g f e (by lk) #[.bl _,H,I,rfl,q]
 .let#[n,b]:=RV.reads I a c
  exact PySem.SeqAt.in_tuple_reads b g f e (by lk) #[.bl _,H,I,rfl,q]
def IV{k:Nat}(i:Room k X.A):OpR X (compareOp .NotIn)^Yz t_:=by
 intro o s Z H x y v u Q I j c h;let#[d,l,m,a,e,f,p,q]:=h;let#[r,g]:=RV.reads I m j;have t:=i.un;have w:min (kj l) _<=d.depth:=nC _ _
 rcases a with a|a
 .let#[n,b]:=RV.reads I a c
  exact PySem.SeqAt.notIn_list_reads b g f e (by lk) #[.bl _,H,I,rfl,q]
 .let#[n,b]:=RV.reads I a c
  exact PySem.SeqAt.notIn_tuple_reads b g f e (by lk) #[.bl _,H,I,rfl,q]
end
end L2
namespace Dp
open L2
mutual
def toPy:D->nR
 |.non=>.none
 |.bl b=>.bool b
 |.int i=>.int i
 |.str x=>.str x
 |.tup ds=>.tuple^Bp ds
 |.lst ds=>.list^Bp ds
 |.dic _ _=>.dict []
 |.fdi _ _=>.dict []
 |.dit _ _=>.dict []
def Bp:v_ D->v_ nR
 |[]=>[]
 |d::ds=>toPy d::Bp ds
end
mutual
def HZ:D->Bool
 |.tup ds=>D_ ds
 |.lst ds=>D_ ds
 |.dic _ _=>u_
 |.fdi _ _=>u_
 |.dit _ _=>u_
 |_=>t_
def D_:v_ D->Bool
 |[]=>t_
 |d::ds=>HZ d&&D_ ds
end
def DX(a:v_ D):Bp a=a.map toPy:=by
 induction a with
 |nil=>rfl
 |cons d r b=>rw[Bp,b,ju]
section
variable {K:Frag}{M:Addr->Prop}{H:Hp}
mutual
theorem At.rv:∀{d:D}{v:V},At K M H d v->HZ d=t_->RV H (toPy d) v
 |.non,v,h,_=>h
 |.bl b,v,h,_=>h
 |.int i,v,h,_=>h
 |.str x,v,h,_=>h.1
 |.tup ds,v,h,n=>by
  let#[a,vs,e,hn,hs]:=h;exact#[a,vs,e,hn,Ats.rv hs n]
 |.lst ds,v,h,n=>by
  let#[a,vs,e,hn,hs]:=h;exact#[a,vs,e,.inl hn.2,Ats.rv hs n]
 |.dic ks ds,v,h,n=>by cases n
 |.fdi ks ds,v,h,n=>by cases n
 |.dit ks ds,v,h,n=>by cases n
theorem Ats.rv:∀{ds:v_ D}{vs:v_ V},Ats K M H ds vs->D_ ds=t_->RVs H (Bp ds) vs
 |[],vs,h,_=>h
 |d::ds,vs,h,n=>by
  let#[v,r,e,h1,h2]:=h;have n':(HZ d&&D_ ds)=t_:=n;rw[jN]at n';exact#[v,r,e,At.rv h1 n'.1,Ats.rv h2 n'.2]
end
def AtT.rv{U:Db->Prop}{d:D}{v:V}(h:AtT K U M H d v)(n:HZ d=t_):RV H (toPy d) v:=by
 cases d with
 |lst c=>
  let#[a,g,e,_,j,k]:=h;exact#[a,g,e,j,Ats.rv k n]
 |dic f c=>cases n
 |fdi f c=>cases n
 |dit f c=>cases n
 |non=>exact h
 |bl b=>exact h
 |int i=>exact h
 |str x=>exact h.1
 |tup c=>exact At.rv h n
def Cd(d:D):Prop:=HZ d=t_/\(toPy d).canLay0=t_/\(toPy d).depth<=100
def DQ(d e:D):Bool:=kE (toPy d)^toPy e
def SQ(d e:D)(P:D->Prop):Prop:=Cd d/\Cd e/\P^.bl^DQ d e
def Q0:E4 K .sh eW SQ:=λU M H d e x y P Q a f b c w q=>
 #[_,_,b.rv w.1.1,c.rv w.2.1.1,w.1.2.1,w.2.1.2.1,w.1.2.2,q _ H (.bl _) .refl rfl w.2.2]
def Eg:D->w_^v_ D
 |.lst a=>P3 a
 |.tup a=>P3 a
 |_=>s_
def MW(a:Bool)(d e:D)(P:D->Prop):Prop:=Cd d/\Cd e/\∃b,Eg e=P3 b/\P^.bl (if a then !(b.any λy=>DQ y d)else b.any λy=>DQ y d)
def Hz{c:Bool}:E4 K .sh (Yz c)^MW c:=λU M H d e x y P Q k m i j w q=>by
 let#[b,f,g,h,w]:=w;have a:∀g:v_ D,(g.map _).any (λy=>kE y _)=g.any λy=>DQ y d:=λg=>by rw[List.any_map];rfl
 cases e with
 |lst l=>
  cases h;exists _,_,i.rv b.1,.inl^j.rv f.1,b.2.1,by simpa [toPy,PyData.canLay0]using f.2.1,b.2.2;rw[DX,a];exact q _ H (.bl _) .refl rfl w
 |tup l=>
  cases h;exists _,_,i.rv b.1,.inr^j.rv f.1,b.2.1,by simpa [toPy,PyData.canLay0]using f.2.1,b.2.2;rw[DX,a];exact q _ H (.bl _) .refl rfl w
 |_=>cases h
def QV(d e:D)(P:D->Prop):Prop:=Cd d/\Cd e/\P^.bl (!DQ d e)
end
end Dp
namespace L2
def eN:R2:=λx y H Q=>∃d e,RV H d x/\RV H e y/\d.canLay0=t_/\e.canLay0=t_/\d.depth<=100/\Q (.bl (!PyData.eqv d e)) H
def LD{X:Cx}{k:Nat}(a:Room k X.A):OpR X (compareOp .NotEq) eN:=by
 intro n s Z H x y v u Q I b c h;let#[d,e,f,g,i,j,o,q]:=h;let#[p,l]:=RV.reads I f b;let#[r,m]:=RV.reads I g c;have t:=a.un;have w:min _ e.depth<=d.depth:=Nat.min_le_left _ _;exact PySem.SeqAt.compareNe_reads l m i j (by lk) #[.bl _,H,I,rfl,q]
end L2
namespace Dp
open L2
def Qy{K:Frag}:E4 K .sh eN QV:=λU M H d e x y P Q a f b c w q=>
 #[_,_,b.rv w.1.1,c.rv w.2.1.1,w.1.2.1,w.2.1.2.1,w.1.2.2,q _ H (.bl _) .refl rfl w.2.2]
end Dp
namespace L2
def kOf:Key->V
 |.inl i=>.int i
 |.inr x=>.str x
def gJ:Key->Key->Bool
 |.inl i,.inl j=>decide (i<j)
 |.inr x,.inr y=>decide (x.cps.toList<y.cps.toList)
 |_,_=>u_
def M8:Key->Key->Bool
 |.inl _,.inl _=>t_
 |.inr _,.inr _=>t_
 |_,_=>u_
def Gs:v_ Key->v_ Key->Bool
 |[],[]=>u_
 |[],_::_=>t_
 |_::_,[]=>u_
 |x::a,y::b=>if x=y then Gs a b else gJ x y
def CT:v_ Key->v_ Key->Bool
 |x::a,y::b=>M8 x y&&CT a b
 |_,_=>t_
def Xw{A:jY}{s:Go}{x y:Key}{u v:Ev}(a:RelV (kOf x) u)(b:RelV (kOf y) v):∃e,SeqAt.EqAt A s u v e/\(e=t_↔x=y):=by
 cases x with
 |inl i=>
  cases y with
  |inl j=>exact#[_,OY a b rfl rfl,by simp[kOf,fX]]
  |inr z=>exact#[_,OY a b rfl rfl,by simp[kOf,fX]]
 |inr z=>
  cases y with
  |inl j=>exact#[_,OY a b rfl rfl,by simp[kOf,fX]]
  |inr c=>exact#[_,OY a b rfl rfl,by simp[kOf,fX]]
def Wi(A:jY)(s:Go){x y:Key}{u v:Ev}(b:RelV (kOf x) u)(c:RelV (kOf y) v)(d:M8 x y=t_)(a:jM)(w:jT)(E:Ev->Go->Prop)(Q:Ev->Go->Prop)(h:Q (.bool^gJ x y) s):
  wpAny (model a w) A (richCompare .Lt u v) Q E s:=by
 cases x with
 | inl i=>
  cases y with
  |inl j=>
   let#[t,rfl]:=b;let#[e,rfl]:=c;exact pj h
  |inr z=>cases d
 | inr z=>
  cases y with
  |inl j=>cases d
  |inr f=>
   let#[t,rfl]:=b;let#[e,rfl]:=c;exact PySem.P.lt_str h
section
open PySem.SeqAt
open PySem.AutoSeq1 (wpAny_loadPart')
open PySem.MeetsSeq PySem.MeetsSeq2 PySem.MeetsSeq3
def GF(l b:Db)(items items2:Array Ev)(n n2:Nat)(dd dd2:w_ Db)(sl sl2:Array^w_ Ev)(ns ms:v_ Key)(hi:Vals (ns.map kOf) items.toList)(hj:Vals (ms.map kOf) items2.toList)(hsame:CT ns ms=t_):
  Meets (kz.«tuple.__lt__» #[[.ref l,.ref b],[]])
   (λ_ R s=>s.heap.get? l=P3 {cls:=.type "tuple",dict:=dd,data:=.seq items n,slots:=sl}/\s.heap.get? b=P3 {cls:=.type "tuple",dict:=dd2,data:=.seq items2 n2,slots:=sl2} /\
    R (.ok^.ret^.bool^Gs ns ms) s):=
 .of_wp λprog w A R s h=>by
  let#[hp,g,d,tk,os]:=s;let#[hl,hb,h]:=h
  have f2:=AutoSeq1.sub_tuple_tuple;have z1:items.size=ns.length:=by have:=hi.length;rw[No]at this;rw[this];simp
  have z2:items2.size=ms.length:=by have:=hj.length;rw[No]at this;rw[this];simp
  wp_walk using kN hl,kN hb,wpAny_forIn_list _ (λrest b s'=>b.1=s_/\s'=#[hp,g,d,tk,os]/\∃(vs ws:v_ Ev) (ns' ms':v_ Key),rest=vs.zip ws /\
   Vals (ns'.map kOf) vs/\Vals (ms'.map kOf) ws/\CT ns' ms'=t_/\ns'.length+items2.size=ms'.length+items.size/\R (.ok^.ret^.bool^Gs ns' ms') #[hp,g,d,tk,os]) _
  case turn=>
   rintro⟨y,x⟩ rest b s' ⟨hb',rfl,vs,ws,ns',ms',hz,hvi,hwi,hsm,hlen,hR⟩;cases ns' with
   |nil=>cases hvi;rw[List.zip_nil_left]at hz;cases hz
   | cons a ns'=>
    cases ms' with
    |nil=>cases hwi;rw[List.zip_nil_right]at hz;cases hz
    | cons c ms'=>
     rw[ju]at hvi hwi;cases hvi with
     | cons ra hvi'=>
      cases hwi with
      | cons rc hwi'=>
       rw[nS]at hz;injection hz with hyx hrest
       injection hyx with hy hx
       subst hy hx;have hR':R (.ok^.ret^.bool (if a=c then Gs ns' ms' else gJ a c)) #[hp,g,d,tk,os]:=hR;have hsm':(M8 a c&&CT ns' ms')=t_:=hsm;rw[jN]at hsm';simp only[jC]at hlen;let#[e,he,hiff]:=Xw (A:=A.in1) (s:=#[hp,g,d,tk,os]) ra rc;refine Ch^he prog w _ _ ?_;cases e with
       |true=>
        rw[if_pos (hiff.mp rfl)]at hR'
        wp_walk
        exact#[rfl,rfl,_,_,_,_,hrest,hvi',hwi',hsm'.2,by lk,hR']
       |false=>
        rw[if_neg λq=>absurd (hiff.mpr q) jR]at hR';have hri:=Wi A.in1 #[hp,g,d,tk,os] ra rc hsm'.1 prog w
        wp_walk using hri
        exact#[_,rfl,by simpa using hR']
  case fin=>
   rintro⟨b1,b2⟩ s' ⟨hb',rfl,vs,ws,ns',ms',hz,hvi,hwi,hsm,hlen,hR⟩;simp only at hb';subst hb'
   have hv:Gs ns' ms'=decide (items.size<items2.size):=by
    cases ns' with
    | nil=>
     cases ms' with
     |nil=>
      simp only[kW]at hlen;exact(decide_eq_false^by lk).symm
     |cons c u=>
      simp only[kW,jC]at hlen;exact(decide_eq_true^by lk).symm
    | cons a t=>
     cases ms' with
     |nil=>
      simp only[kW,jC]at hlen;exact(decide_eq_false^by lk).symm
     |cons c u=>
      rw[ju]at hvi hwi;cases hvi;cases hwi;rw[nS]at hz;cases hz
   rw[hv]at hR
   wp_walk
   exact#[_,rfl,by simpa [Builtin.Tuple.tupleCompareSizes]using hR]
  case h=>
   exact#[rfl,rfl,items.toList,items2.toList,ns,ms,rfl,hi,hj,hsame,by lk,h]
end
section
variable {X:Cx}
def eO(K:Frag):R2:=λx y H Q=>∃a b c d,x=.ref a/\y=.ref b/\SqT K H a^c.map kOf/\SqT K H b^d.map kOf/\CT c d=t_/\Q (.bl^Gs c d) H
def bi(m:X.A.units<cLine):OpR X (compareOp .Lt)^eO X.K:=by
 intro T s Z H x y v u Q I o p h;let#[a,b,r,t,rfl,rfl,w,z,d,q]:=h;cases o;cases p;let#[B,C,D,_]:=I.tuple w;let#[i,E,G,_]:=I.tuple z;let#[#[J,L,j,M],k,N,n,O]:=id D;let#[#[l,P,e,R],c,f,S,g]:=id G;subst N O f g
 exact richCompare_meets_room (op:=.Lt) #[_,k,rfl] #[_,c,rfl] PySem.F.slot_tuple_lt PySem.F.entry_tuple_lt (PySem.F.args_tuple_lt_2 _ _) (GF a b _ _ n S L _ M _ r t C E d)
  #[k,c,#[(λx=>nomatch x),#[.bl _,H,I,rfl,q]]] m
end
def ItAt(a:Bool)(h:jI)(it l:Db)(k:Nat):Prop:=match a with
 |true=>h.IsListIter it l k
 |false=>h.IsTupleIter it l k
def SqAt(b:Bool)(h:jI)(l:Db)(a:Array Ev):Prop:=match b with
 |true=>h.IsList l a
 |false=>h.IsTuple l a
section
variable {κ:Bool}{h h':Heap}{it l b:Addr}{k:Nat}{items:Array Value}
def ItAt.mv(x:ItAt κ h it l k)(e:∀o,h.get? it=P3 o->h'.get? it=P3 o):ItAt κ h' it l k:=by
 cases κ with
 |true=>let#[o,a,r]:=x;exact#[o,e o a,r]
 |false=>let#[o,a,r]:=x;exact#[o,e o a,r]
def SqAt.mv(x:SqAt κ h l items)(e:∀o,h.get? l=P3 o->h'.get? l=P3 o):SqAt κ h' l items:=by
 cases κ with
 |true=>let#[o,a,r]:=x;exact#[o,e o a,r]
 |false=>let#[o,a,r]:=x;exact#[o,e o a,r]
def ItAt.eb(x:ItAt κ h it l k)(a:pq b h h')(n:it≠b):ItAt κ h' it l k:=x.mv λo e=>a it o n e
def SqAt.eb(x:SqAt κ h l items)(a:pq b h h')(n:l≠b):SqAt κ h' l items:=x.mv λo e=>a l o n e
def ItAt.lies(x:ItAt κ h it l k):∃o,h.get? it=P3 o/\∀v,o.data≠.cell v:=by
 cases κ with
 |true=>let#[o,a,_,d]:=x;simp_all
 |false=>let#[o,a,_,d]:=x;simp_all
def SqAt.lies(x:SqAt κ h l items):∃o,h.get? l=P3 o:=by
 cases κ with
 |true=>let#[o,a,_]:=x;grind
 |false=>let#[o,a,_]:=x;grind
end
section
variable {prog:Program}{w:World}{A:Around}{E:Value->Shared->Prop}{s:Shared}
def F4{f:Bool}{c l:Db}{i:Nat}{a:Array Ev}{x:Ev}{Q:Ev->Go->Prop}(d:ItAt f s.heap c l i)(n:SqAt f s.heap l a)(hx:a[i]?=P3 x)
  (p:∀h,ItAt f h c l (i+1)->lz c s.heap h->Q x {s with heap:=h}):wpAny (model prog w) A (kc^.ref c) Q E s:=by
 cases f with
 |true=>exact wpAny_nextOf_list_item d n hx p
 |false=>
  have b:s.heap.IsTupleIter c l i:=d;have j:s.heap.IsTuple l a:=n;let#[o,g,r,e]:=id b;let#[t,k,_,u,m]:=j
  unfold kc;refine Ch^kI (name:=lE "__next__") b.typeIs mF^kY mF b.typeIs o5 ?_^om _;show wpAny (model prog w) _ (field (.ref c) 0 >>=_) _ _ s;refine Ch (jf g e (x:=.ref l) rfl ?_)
  show wpAny (model prog w) _ (if(jE l==jd)=t_ then _ else _) _ _ s;rw[if_neg (show ¬((jE l==jd)=t_)from jR)]
  show wpAny (model prog w) _ (field (.ref c) 1 >>=_) _ _ s;refine Ch (jf g e (x:=.int i 0) rfl ?_)
  show wpAny (model prog w) _ (seqItems?^.ref l >>=_) _ _ s;refine Ch^k7 k m ?_;simp only[mx,hx]
  refine Ch^ln g e (by simp)^Re #[x,rfl,Re^p _ (show Heap.IsTupleIter _ c l (i+1)from ?_) (og ..)];exact#[_,jr _ g^m8^lG e _,(Obj.cls_mapFields ..).trans r,by(rw[lG e];simp[rawInt])]
def Hj{g:Bool}{f l:Db}{i:Nat}{b:Array Ev}{Q:Ev->Go->Prop}(r:A.handled=s_)(d:ItAt g s.heap f l i)(t:SqAt g s.heap l b)(hx:b[i]?=s_)
  (u:∀h e,pq f s.heap h->(∃o,h.get? e=P3 o/\o.cls=.type "StopIteration")->E (.ref e) {s with heap:=h}):wpAny (model prog w) A (kc^.ref f) Q E s:=by
 cases g with
 |true=>exact wpAny_nextOf_list_end r d t hx u
 |false=>
  have c:=d;have j:s.heap.IsTuple l b:=t;let#[o,k,y,n]:=id c;let#[z,p,_,B,q]:=j
  refine Ch^kI c.typeIs mF^kY mF c.typeIs o5 ?_^om _;show wpAny (model prog w) _ (field (.ref f) 0 >>=_) _ _ s;refine Ch (jf k n (x:=.ref l) rfl ?_)
  refine Ch (jf k n (x:=.int i 0) rfl ?_);refine Ch^k7 p q ?_;simp only[mx,hx]
  refine Ch^nE^Ch^ln k n (by simp) ?_;refine Ch ?_;refine Ch (m:=firstArgMember _ _)^k6 (a:=jd) (by first|rfl|omega) ?_;refine j1 ?_^by size_fits
  simp only[raiseNew];refine Ch^wpAny_handled ?_;first|grind|rw[r]
  refine Ch^Re^wpAny_throw ?_;exact u _ _ (((og ..).extBut.push _).push _) #[_,XV _ rfl,rfl]
structure dL (z TI TO i1 i2 l1 l2:Db):Prop where
 TIz:TI≠z
 TOz:TO≠z
 i1z:i1≠z
 i2z:i2≠z
 TOi1:TO≠i1
 TOi2:TO≠i2
 i12:i1≠i2
 l1z:l1≠z
 l1TO:l1≠TO
 l1i1:l1≠i1
 l1i2:l1≠i2
 l2z:l2≠z
 l2TO:l2≠TO
 l2i1:l2≠i1
 l2i2:l2≠i2
def Vz{S T:Bool}{z TI TO p q J K:Db}{k:Nat}{xs ys:Array Ev}{x y a b:Ev}{Q:Ev->Go->Prop}(D:dL z TI TO p q J K)
  (L:mz s.heap z TI TO .none) (W:lH s.heap TI (.ref p)^.ref q) (X:lH s.heap TO a b) (h1:ItAt S s.heap p J k) (h2:ItAt T s.heap q K k) (Y:SqAt S s.heap J xs) (Z:SqAt T s.heap K ys) (hx:xs[k]?=P3 x) (hy:ys[k]?=P3 y)
  (hQ:∀r,mz r z TI TO^rawInt s.heap.objs.size->lH r TO x y->ItAt S r p J (k+1)->ItAt T r q K (k+1)->lH r s.heap.objs.size x y->r.objs.size=s.heap.objs.size+1->(∀c o,c≠z->c≠TO->c≠p->c≠q->s.heap.get? c=P3 o->r.get? c=P3 o)->Q (.ref s.heap.objs.size) {s with heap:=r}):
  wpAny (model prog w) A (kz.«zip.__next__» #[[.ref z],[]]) (λa0 s'=>∃v,a0=.done^.ret v/\Q v s') E s:=by
 show wpAny (model prog w) A (field (.ref z) 2 >>=_) _ _ _;refine Ch (jf L rfl (x:=.bool u_) rfl ?_)
 show wpAny (model prog w) A (field (.ref z) 3 >>=_) _ _ _;refine Ch (jf L rfl (x:=.ref TI) rfl ?_);refine Ch (k7 W rfl ?_)
 show wpAny (model prog w) A (lK^.ref z >>=_) _ _ _;refine Ch ?_;unfold lK
 refine Ch (jf L rfl (x:=.none) rfl (Re ?_));simp only[if_true];refine Ch^nE ?_;refine Ch (jf L rfl (x:=.ref TO) rfl ?_)
 refine Ch^l9 L (by simp) λha C d=>?_;replace C:mz ha z TI TO .ellipsis:=C;refine Ch ?_;simp only[List.zipIdx_cons,List.zipIdx_nil,nP,List.forIn_nil]
 refine Ch^Ch^oB ?_;show wpAny (model prog w) _ (kc^.ref p >>=_) _ _ _
 refine Ch^F4 (h1.eb d.extBut D.i1z) (Y.eb d.extBut D.l1z) hx λhb a1 h=>Re ?_;have t:lH hb TO a b:=h.extBut _ _ D.TOi1^d.extBut _ _ D.TOz X;refine Ch (k7 t rfl ?_);refine Ch (oS t λhc j i=>?_)
 replace j:lH hc TO x b:=j;refine Ch^mq^Re ?_;refine Ch^Ch^oB ?_;show wpAny (model prog w) _ (kc^.ref q >>=_) _ _ _
 refine Ch^F4 (((h2.eb d.extBut D.i2z).eb h.extBut D.i12.symm).eb i.extBut D.TOi2.symm) (((Z.eb d.extBut D.l2z).eb h.extBut D.l2i1).eb i.extBut D.l2TO) hy λhd a2 l=>Re ?_;have u:lH hd TO x b:=l.extBut _ _ D.TOi2 j;refine Ch (k7 u rfl ?_);refine Ch (oS u λf g m=>?_)
 replace g:lH f TO x y:=g;refine Ch^mq^Re^Re ?_;refine Ch (k7 g rfl ?_);refine Ch^wpAny_newTuple ?_
 have M:f.objs.size=s.heap.objs.size:=by rw[m.1,l.1,i.1,h.1,d.1]
 have N:mz f z TI TO .ellipsis:=m.extBut _ _ D.TOz.symm^l.extBut _ _ D.i2z.symm^i.extBut _ _ D.TOz.symm^h.extBut _ _ D.i1z.symm C;have a3:∀c o,c≠z->c≠TO->c≠p->c≠q->s.heap.get? c=P3 o->f.get? c=P3 o:=λc o F U c3 c4 e=>m.extBut _ _ U^l.extBut _ _ c4^i.extBut _ _ U^h.extBut _ _ c3^d.extBut _ _ F e;have a4:ItAt S f p J (k+1):=((a1.eb i.extBut D.TOi1.symm).eb l.extBut D.i12).eb m.extBut D.TOi1.symm;have a5:ItAt T f q K (k+1):=a2.eb m.extBut D.TOi2.symm;have B:z<f.objs.size:=Uf N;show wpAny (model prog w) _ (nU (.ref z)^.ref f.objs.size >>=_) _ _ _;refine Ch ?_;unfold nU
 have a6:mz (f.push {cls:=.type "tuple",data:=.seq #[ x,y]}) z TI TO .ellipsis:=FM _ N;refine Ch^l9 a6 (by simp) λhg G H=>?_;replace G:mz hg z TI TO^rawInt f.objs.size:=G;refine l9 G (by simp) λO n I=>?_;replace n:mz O z TI TO^rawInt f.objs.size:=n;have V:∀c o,c≠z->f.get? c=P3 o->O.get? c=P3 o:=λc o F e=>I.extBut _ _ F^H.extBut _ _ F^FM _ e;have P:lH O f.objs.size x y:=I.extBut _ _ (lS B)^H.extBut _ _ (lS B) (XV _ rfl);have R:O.objs.size=f.objs.size+1:=by rw[I.1,H.1,ku]
 rw[M]at n P R;refine Re #[_,rfl,?_];show Q (.ref f.objs.size) _;rw[M]
 exact hQ O n (V _ _ D.TOz g) (a4.mv λo e=>V _ o D.i1z e) (a5.mv λo e=>V _ o D.i2z e) P R λc o F U c3 c4 e=>V c o F^a3 c o F U c3 c4 e
def Yd{U V:Bool}{z TI TO p q G H:Db}{k:Nat}{I J:Array Ev}{a b:Ev}{Q:Fin->Go->Prop}(W:A.handled=s_)(D:dL z TI TO p q G H)
  (r:mz s.heap z TI TO .none) (K:lH s.heap TI (.ref p)^.ref q) (L:lH s.heap TO a b) (X:ItAt U s.heap p G k) (h2:ItAt V s.heap q H k) (t:SqAt U s.heap G I) (M:SqAt V s.heap H J) (u:I[k]?=s_\/J[k]?=s_)
  (Y:∀N e,(∀c o,c≠z->c≠TO->c≠p->c≠q->s.heap.get? c=P3 o->N.get? c=P3 o)->(∃o,N.get? e=P3 o/\o.cls=.type "StopIteration")->E (.ref e) {s with heap:=N}):
  wpAny (model prog w) A (kz.«zip.__next__» #[[.ref z],[]]) Q E s:=by
 show wpAny (model prog w) A (field (.ref z) 2 >>=_) _ _ _;refine Ch (jf r rfl (x:=.bool u_) rfl ?_)
 show wpAny (model prog w) A (field (.ref z) 3 >>=_) _ _ _;refine Ch (jf r rfl (x:=.ref TI) rfl ?_);refine Ch (k7 K rfl ?_)
 show wpAny (model prog w) A (lK^.ref z >>=_) _ _ _;refine Ch ?_;unfold lK
 refine Ch (jf r rfl (x:=.none) rfl (Re ?_));simp only[if_true];refine Ch^nE ?_;refine Ch (jf r rfl (x:=.ref TO) rfl ?_)
 refine Ch^l9 r (by simp) λha l d=>?_;replace l:mz ha z TI TO .ellipsis:=l;refine Ch ?_;simp only[List.zipIdx_cons,List.zipIdx_nil,nP,List.forIn_nil]
 refine Ch^Ch^oB ?_;show wpAny (model prog w) _ (kc^.ref p >>=_) _ _ _
 cases O:I[k]? with
 |none=>
  refine Ch^Hj W (X.eb d.extBut D.i1z) (t.eb d.extBut D.l1z) O λP e f R=>?_;let#[S,g,j]:=R;have v:mz P z TI TO .ellipsis:=f _ _ D.i1z.symm l;have n:e≠z:=λx=>by subst x;rw[v]at g;cases g;simp at j
  exact l9 v (by simp) λZ _ i=>Y Z e (λc o y _ T _ x=>i.extBut _ _ y^f _ _ T^d.extBut _ _ y x) #[S,i.extBut _ _ n g,j]
 | some x=>
  have hy:J[k]?=s_:=by
   rcases u with h|h
   .rw[O]at h;cases h
   .exact h
  refine Ch^F4 (X.eb d.extBut D.i1z) (t.eb d.extBut D.l1z) O λP a1 f=>Re ?_;have m:lH P TO a b:=f.extBut _ _ D.TOi1^d.extBut _ _ D.TOz L;refine Ch (k7 m rfl ?_);refine Ch^oS m λZ a0 i=>?_
  refine Ch^mq^Re ?_;refine Ch^Ch^oB ?_;show wpAny (model prog w) _ (kc^.ref q >>=_) _ _ _
  refine Ch^Hj W (((h2.eb d.extBut D.i2z).eb f.extBut D.i12.symm).eb i.extBut D.TOi2.symm) (((M.eb d.extBut D.l2z).eb f.extBut D.l2i1).eb i.extBut D.l2TO) hy λhd e B R=>?_;let#[S,g,j]:=R;have C:mz hd z TI TO .ellipsis:=B _ _ D.i2z.symm^i.extBut _ _ D.TOz.symm^f.extBut _ _ D.i1z.symm l;have n:e≠z:=λx=>by subst x;rw[C]at g;cases g;simp at j
  exact l9 C (by simp) λhf _ F=>Y hf e (λc o y c2 T c4 x=>F.extBut _ _ y^B _ _ c4^i.extBut _ _ c2^f.extBut _ _ T^d.extBut _ _ y x) #[S,F.extBut _ _ n g,j]
end
def cD(a:Bool):String:=match a with
 |true=>"list_iterator"
 |false=>"tuple_iterator"
def JW(a:Bool)(l:Db):Obj:={cls:=.type^cD a,data:=.fields #[ .ref l,.int 0 0]}
abbrev zA(a:Bool)(h:jI)(b:Db):jI:=h.push^JW a b
abbrev zB(a b:Bool)(h:jI)(c d:Db):jI:=(zA a h c).push^JW b d
abbrev zC(a c:Bool)(h:jI)(b d:Db):jI:=(zB a c h b d).push {cls:=.type "tuple",data:=.seq #[ .ref h.objs.size,.ref (zA a h b).objs.size]}
abbrev zD(a b:Bool)(h:jI)(c d:Db):jI:=(zC a b h c d).push {cls:=.type "tuple",data:=.seq #[ .none,.none]}
abbrev zE(a b:Bool)(h:jI)(c d:Db):jI:=(zD a b h c d).push {cls:=.type "zip",data:=.fields #[ .none,.bool u_,.bool u_,.ref (zB a b h c d).objs.size,.ref (zC a b h c d).objs.size]}
def ZK(zX zW:Bool)(l1 l2:Db)(xs ys:Array Ev):Meets (kz.«zip.__new__» #[[.type "zip",.ref l1,.ref l2],[]])
  (λ_ R s=>SqAt zX s.heap l1 xs/\SqAt zW s.heap l2 ys/\R (.ok^.ret^.ref (zD zX zW s.heap l1 l2).objs.size) {s with heap:=zE zX zW s.heap l1 l2}):=
 .of_wp λprog w A R s h=>by
  let#[hp,g,d,tk,os]:=s;let#[hl1,hl2,h]:=h
  have hsub:=sub_zip;have hL2:SqAt zW (zA zX hp l1) l2 ys:=hl2.mv λo e=>FM _ e;cases zX with
  | true=>
   have g1:pw (mr #[hp,g,d,tk,os]) l1 xs:=hl1;cases zW with
   |true=>
    have g2:pw (mr #[hp.push {cls:=.type "list_iterator",data:=.fields #[ .ref l1,.int 0 0]},g,d,tk,os]) l2 ys:=hL2
    wp_walk using k9 g1,k9 g2
    exact#[_,rfl,h]
   |false=>
    have g2:pZ (mr #[hp.push {cls:=.type "list_iterator",data:=.fields #[ .ref l1,.int 0 0]},g,d,tk,os]) l2 ys:=hL2
    wp_walk using k9 g1,lD g2
    exact#[_,rfl,h]
  | false=>
   have g1:pZ (mr #[hp,g,d,tk,os]) l1 xs:=hl1;cases zW with
   |true=>
    have g2:pw (mr #[hp.push {cls:=.type "tuple_iterator",data:=.fields #[ .ref l1,.int 0 0]},g,d,tk,os]) l2 ys:=hL2
    wp_walk using lD g1,k9 g2
    exact#[_,rfl,h]
   |false=>
    have g2:pZ (mr #[hp.push {cls:=.type "tuple_iterator",data:=.fields #[ .ref l1,.int 0 0]},g,d,tk,os]) l2 ys:=hL2
    wp_walk using lD g1,lD g2
    exact#[_,rfl,h]
def LX(a:Bool)(h:jI)(l:Db):ItAt a (h.push^JW a l) h.objs.size l 0:=by
 cases a with
 |true=>exact#[_,XV _ rfl,rfl,rfl]
 |false=>exact#[_,XV _ rfl,rfl,rfl]
section
variable {prog:Program}{w:World}{A:Around}{E:Value->Shared->Prop}{s:Shared}
def Oj{b f:Bool}{a d:Db}{t u:Array Ev}{Q:Ev->Go->Prop}(i:SqAt b s.heap a t)(j:SqAt f s.heap d u)
  (h:∀g,mz g (s.heap.objs.size+4) (s.heap.objs.size+2) (s.heap.objs.size+3) .none->lH g (s.heap.objs.size+2) (.ref s.heap.objs.size)^.ref (s.heap.objs.size+1)->lH g (s.heap.objs.size+3) .none .none->
   ItAt b g s.heap.objs.size a 0->ItAt f g (s.heap.objs.size+1) d 0->(∀c o,s.heap.get? c=P3 o->g.get? c=P3 o)->Q (.ref (s.heap.objs.size+4)) {s with heap:=g}):
  wpAny (model prog w) A (call (.type "zip") [.ref a,.ref d]) Q E s:=by
 refine callType_new F.called_zip (by cbv) (F.typeCall_zip_2 _ _) (F.newCall_zip_2 _ _) (λk=>F.args_object_init_3 k _ _) F.entry_zip_new (ZK b f a d t u) #[i,j,?_];have l:(zA b s.heap a).objs.size=s.heap.objs.size+1:=ku ..;have m:(zB b f s.heap a d).objs.size=s.heap.objs.size+2:=by rw[ku,l]
 have n:(zC b f s.heap a d).objs.size=s.heap.objs.size+3:=by rw[ku,m]
 have p:(zD b f s.heap a d).objs.size=s.heap.objs.size+4:=by rw[ku,n]
 have q:(zE b f s.heap a d).get? (zD b f s.heap a d).objs.size=P3 _:=XV _ rfl;have v:(zE b f s.heap a d).get? (zC b f s.heap a d).objs.size=P3 _:=FM _ (XV _ rfl);have x:(zE b f s.heap a d).get? (zB b f s.heap a d).objs.size=P3 _:=FM _^FM _ (XV _ rfl);have y:ItAt f (zE b f s.heap a d) (zA b s.heap a).objs.size d 0:=(LX f (zA b s.heap a) d).mv λo e=>FM _^FM _^FM _ e;have z:ItAt b (zE b f s.heap a d) s.heap.objs.size a 0:=(LX b s.heap a).mv λo e=>FM _^FM _^FM _^FM _ e;rw[p]at q;rw[n]at v;rw[m]at x;rw[l]at y;have r:=h (zE b f s.heap a d) (by rw[mz,q,m,n]) (by rw[lH,x,l]) v z y λc o e=>FM _^FM _^FM _^FM _^FM _ e;exists#[_,by rw[p];exact q,rfl];rw[p];exact r
def MU{i j:Bool}{z TI TO e f g h:Db}{k:Nat}{q r:Array Ev}{x y a b:Ev}{Q:w_ Ev->Go->Prop}(D:dL z TI TO e f g h)
  (t:mz s.heap z TI TO .none) (l:lH s.heap TI (.ref e)^.ref f) (m:lH s.heap TO a b) (v:ItAt i s.heap e g k) (B:ItAt j s.heap f h k) (n:SqAt i s.heap g q) (p:SqAt j s.heap h r) (hx:q[k]?=P3 x) (C:r[k]?=P3 y)
  (G:∀d,mz d z TI TO^rawInt s.heap.objs.size->lH d TO x y->ItAt i d e g (k+1)->ItAt j d f h (k+1)->lH d s.heap.objs.size x y->d.objs.size=s.heap.objs.size+1->(∀c o,c≠z->c≠TO->c≠e->c≠f->s.heap.get? c=P3 o->d.get? c=P3 o)->Q (P3^.ref s.heap.objs.size) {s with heap:=d}):
  wpAny (model prog w) A (pyNext^.ref z) Q E s:=by
 have u:s.TypeIs (.ref z) "zip":=#[_,t,rfl];unfold pyNext
 exact Ch (lf (kI (name:=lE "__next__") u oU (kY oU u F.entry_zip_next
  (Vz D t l m v B n p hx C λd H I J K L M N=>Re^G d H I J K L M N) (F.args_zip_next_1 _))))
def OP{r t:Bool}{z TI TO g h i j:Db}{k:Nat}{u v:Array Ev}{a b:Ev}{Q:w_ Ev->Go->Prop}(B:A.handled=s_)(D:dL z TI TO g h i j)
  (x:mz s.heap z TI TO .none) (l:lH s.heap TI (.ref g)^.ref h) (m:lH s.heap TO a b) (C:ItAt r s.heap g i k) (G:ItAt t s.heap h j k) (n:SqAt r s.heap i u) (p:SqAt t s.heap j v) (f:u[k]?=s_\/v[k]?=s_)
  (H:∀q,(∀c o,c≠z->c≠TO->c≠g->c≠h->s.heap.get? c=P3 o->q.get? c=P3 o)->Q s_ {s with heap:=q}):wpAny (model prog w) A (pyNext^.ref z) Q E s:=by
 have y:s.TypeIs (.ref z) "zip":=#[_,x,rfl];unfold pyNext;refine Ch^lf^kI (name:=lE "__next__") y oU^kY oU y F.entry_zip_next (Yd B D x l m C G n p f λq e I J=>?_)^F.args_zip_next_1 _;let#[o,K,L]:=J;exact Ch^nF (T:="StopIteration") (b:=t_) #[o,K,L] isSubtype_stop^Re^H _ I
end
section
variable {X:Cx}{zG:v_ (Addr×Obj)}{Z:L2.St}{H:Hp}{s:Shared}{h':Heap}
def Inv.turnedL{t':Nat}{ch:v_ Db}(I:Inv X zG Z H s)(d:∀b∈ch,Fx X zG H b)(k:∀b o,b∉ch->s.heap.get? b=P3 o->h'.get? b=P3 o):Inv X zG Z H {s with heap:=h',toks:=t'}:=by
 have f:∀b u,H b=P3 u->b∉ch:=λb u e z=>by rw[(d b z).1]at e;cases e
 refine I.step (λb g=>?_) (λb o _ _ a e _=>k b o a e) (λb o _ _ a e _=>#[_,k b o a e]) (λ_ _ _ _ n=>n) (λb o a e=>#[o,k b o a e]) (λ_ _ e=>e) (λ_ _ _ e=>e) (λb y e=>#[#[],by rw[e];simp]) (λm h=>?_) (λb u e=>(I.hok b u e).stay (λc v a q=>k c v (a.elim (λz=>by grind) λz=>f c _ z) q) (λ_ q=>q) λ_ _ q=>q) I.bare
 .let#[A,i,B,j,l,p]:=d b g
  exact#[j,i,l,p]
 .let#[o,t,w,x,r]:=h
  exact#[o,t,w,k _ o (λz=>(d _ z).2.1 rfl) x,r]
def Inv.turnLaid{t':Nat}{ch:v_ Db}{a:Db}{o:HO}(I:Inv X zG Z H s)(h:∀b∈ch,Fx X zG H b)(k:∀b o,b∉ch->s.heap.get? b=P3 o->h'.get? b=P3 o)(j:s.heap.objs.size<=a)(new:ObjOk X.prog X.w (A4 H a o) h' a o):
  Inv X zG Z (A4 H a o) {s with heap:=h',toks:=t'}:=by
 have i:∀b u,H b=P3 u->b∉ch:=λb u e z=>by rw[(h b z).1]at e;cases e
 have l:H a=s_:=I.hok.fresh j;have f:∀b u,H b=P3 u->A4 H a o b=P3 u:=λb u e=>by rw[AW^A6 e l];exact e
 refine I.step (g':=s.gens) (d':=s.drawn) (ch:=ch) (λb g=>?_) (λb o _ _ d e _=>k b o d e) (λb o _ _ d e _=>#[o.slots,k b o d e]) (λb u _ e n=>?_) (λb o d e=>#[o,k b o d e]) (λb p e=>f _ _ e) (λb o u e=>f _ _ e) (λb F e=>#[#[],by rw[f _ _ e];simp]) (λm t=>?_) (λb u e=>?_) I.bare
 .let#[G,x,J,y,A,B]:=h b g
  exact#[y,x,A,B]
 .rw[AW^jL^jW (Uf e) j];exact n
 .let#[o,C,D,E,r]:=t
  exact#[o,C,D,k _ o (λz=>(h _ z).2.1 rfl) E,r]
 .by_cases g:b=a
  .subst g;rw[Ah]at e;cases e;exact new
  .rw[AW g]at e
   exact(I.hok b u e).stay (λc v d q=>k c v (d.elim (λz=>by grind) λz=>i c _ z) q) (λc q=>f _ _ q) λc p q=>f _ _ q
end
def SqK(c:Bool)(K:Frag)(H:Hp)(a:Db)(b:v_ V):Prop:=match c with
 |true=>SqL K H a b
 |false=>SqT K H a b
def SqK.at{c:Bool}{X:Cx}{e:v_ (Db×Obj)}{Z:L2.St}{H:Hp}{s:Go}{a:Db}{d:v_ V}(I:Inv X e Z H s)(h:SqK c X.K H a d):∃b:v_ Ev,Vals d b/\SqAt c s.heap a b.toArray:=by
 cases c with
 |true=>let#[b,r,f,_]:=I.list h;exact#[_,r,f.isList]
 |false=>let#[b,r,p,_]:=I.tuple h;exact#[_,r,p]
def dN (K:Frag) (e f:Bool) (a b:Db) (c d:v_ V):It:=
  #[λi H=>SqK e K H a c ∧ SqK f K H b d ∧ i < c.length ∧ i < d.length,λi H x g=>∃ T p q,x=.ref T ∧ H T=s_ ∧ g=A4 H T^.tup [p,q] ∧ c[i]?=P3 p ∧ d[i]?=P3 q,
   λi H=>SqK e K H a c ∧ SqK f K H b d ∧ (c.length ≤ i ∨ d.length ≤ i)]
structure fo (zX zW:Bool) (z TI TO i1 i2 a b:Db) (k:Nat) (h:jI):Prop where
 z:mz h z TI TO .none
 ti:lH h TI (.ref i1) (.ref i2)
 to:∃a b,lH h TO a b
 i1:ItAt zX h i1 a k
 i2:ItAt zW h i2 b k
def WF{P:jM}{w:jT}{K:Frag}{es:v_ jX}{j:Nat}{pos:Pos}(zX zW:Bool)(z TI TO g l a b:Db)(xs ys:v_ V)(D:dL z TI TO g l a b)(B:TI∉[z,TO,g,l]):
  Turn P w K (.Tuple es j pos) (dN K zX zW a b xs ys) [z,TI,TO,g,l] z (fo zX zW z TI TO g l a b) where
 mem:=by simp
 obj:=λi h d c f=>by
  simp only[UF,jO,or_false]at f
  rcases f with rfl|rfl|rfl|rfl|rfl
  .exact#[_,d.z,λv q=>by cases q]
  .exact#[_,d.ti,λv q=>by cases q]
  .let#[a,b,e]:=d.to
   exact#[_,e,λv q=>by cases q]
  .exact d.i1.lies
  .exact d.i2.lies
 keep:=λi h h' d k=>by
  let#[p,q,e]:=d.to;exact#[k z (by simp) _ d.z,k TI (by simp) _ d.ti,#[p,q,k TO (by simp) _ e],d.i1.mv λo e=>k g (by simp) o e,d.i2.mv λo e=>k l (by simp) o e]
 item:=by
  intro X C F G f i zG s Z H E I r d J;subst C F G;let#[L,M,m,hj]:=J;let#[us,N,O]:=L.at I;let#[ws,R,S]:=M.at I;let#[u,hu,ru]:=N.get^On m;let#[v,hv,rv]:=R.get^On hj;let#[p,q,e]:=d.to;refine MU D d.z d.ti e d.i1 d.i2 O S (x:=u) (y:=v) (by simpa using hu) (by simpa using hv) λh' a1 a2 a3 a4 a5 a6 a7=>#[_,rfl,?_];refine wpAny_letOwnedTupleGo_zip a1 λT b1 n=>?_;have hT:H s.heap.objs.size=s_:=I.hok.fresh^Op _
  have t:∀c o,c∉[z,TO,g,l]->s.heap.get? c=P3 o->T.get? c=P3 o:=λc o f e=>by
   simp only[UF,jO,or_false,not_or]at f;exact n.extBut _ _ f.1^a7 c o f.1 f.2.1 f.2.2.1 f.2.2.2 e
  have I2:Inv X zG Z (A4 H s.heap.objs.size^.tup [xs[i],ys[i]]) {s with heap:=T}:=by
   refine I.turnLaid (t':=s.toks) (ch:=[z,TO,g,l]) (λc f=>r c ?_) t (Op _) ?_
   .simp only[UF,jO,or_false]at f ⊢
    rcases f with rfl|rfl|rfl|rfl <;>simp
   .have nT:s.heap.objs.size≠z:=lS^Uf d.z
    exact#[by show 2<=sizeLine;decide,[u,v],.cons ru^.cons rv .nil,#[_,n.extBut _ _ nT a5,rfl,_,rfl,rfl,rfl]]
  have U:lH T TI (.ref g)^.ref l:=t _ _ B d.ti;refine#[.ref s.heap.objs.size,_,I2,rfl,#[_,_,_,rfl,hT,rfl,On m,On hj],#[b1,U,#[_,_,n.extBut _ _ D.TOz a2],a3.eb n.extBut D.i1z,a4.eb n.extBut D.i2z],λc f=>?_];have W:H c=s_:=(r c f).1
  have Y:c≠s.heap.objs.size:=λz=>by
   obtain⟨o,ho,_⟩:∃o,s.heap.get? c=P3 o/\True:=by
    simp only[UF,jO,or_false]at f
    rcases f with rfl|rfl|rfl|rfl|rfl
    .exact#[_,d.z,trivial]
    .exact#[_,d.ti,trivial]
    .exact#[_,e,trivial]
    .let#[o,q,_]:=d.i1.lies;exact#[o,q,trivial]
    .let#[o,q,_]:=d.i2.lies;exact#[o,q,trivial]
   rw[z]at ho;exact j7 _^Uf ho
  rw[AW Y];exact W
 done:=by
  intro X C F G f i zG s Z H E I r d J;subst C F G;let#[L,M,m]:=J;let#[us,N,O]:=L.at I;let#[ws,R,S]:=M.at I;let#[p,q,e]:=d.to;have l1:=N.length;have l2:=R.length;refine OP (I.ok.hd f) D d.z d.ti e d.i1 d.i2 O S (m.imp (λm=>by simp;lk) λm=>by simp;lk) λh' t=>#[rfl,?_];refine I.turnedL (t':=s.toks) (ch:=[z,TO,g,l]) (λc f=>r c ?_) λc o f e=>?_
  .simp only[UF,jO,or_false]at f ⊢
   rcases f with rfl|rfl|rfl|rfl <;>simp
  .simp only[UF,jO,or_false,not_or]at f
   exact t c o f.1 f.2.1 f.2.2.1 f.2.2.2 e
 self:=λA i s Q E d h=>wpAny_pyIter_zip d.z h
section
variable {X:Cx}
def ac(n a b:Nat)(c:a<n)(d:b<n):dL (n+4) (n+2) (n+3) n (n+1) a b:=by
 constructor <;>(grind)
def aa(n:Nat):(n+2)∉[n+4,n+3,n,n+1]:=by
 grind
def af(n c:Nat)(h:c∈[n+4,n+2,n+3,n,n+1]):n<=c:=by
 grind
def gz(K:Frag)(h:TA):TI:=λZ H R=>h Z H λi c=>∃d e a b f g,i=[.ref a,.ref b]/\SqK d K c a f/\SqK e K c b g/\R (dN K d e a b f g) c
def W3{m f:jX}{G:v_ jX}{j:Nat}{g:Pos}{y:TA}{p pos:Pos}(J:Gl X "zip")(L:X.mg "zip"=s_)(M:PA X [m,f] y)(N:starEach [m,f] X.env=[(u_,eval m X.env),(u_,eval f X.env)]:=by rfl)(i:starEach [f] X.env=[(u_,eval f X.env)]:=by rfl):
  PI X (.Tuple G j g) (.Call (.Name "zip" p) [m,f] [] pos) (gz X.K y):=by
 intro O s Z H R I h;refine Call_ (DF I J L boot_zip^jw (thn (M pos O s Z H _ I h) λP d #[vs,Q,k,S,n]=>?_) (by rw[N,i])^by rw[i];rfl);let#[z,A,a,b,B,C,e,T,U,q]:=n;subst e;let#[u,v,rfl,V,W]:=vals2 S;cases V;cases W;let#[P,Y,n]:=T.at k;let#[ws,a0,E]:=U.at k;have la:a<d.heap.objs.size:=by let#[o,e]:=n.lies;exact Uf e
 have lb:b<d.heap.objs.size:=by let#[o,e]:=E.lies;exact Uf e
 refine Oj n E λh' F r t w x hk=>?_;refine wpAny_pyIter_zip F ?_;have D:=ac d.heap.objs.size a b la lb;refine#[d.heap.objs.size+4,[d.heap.objs.size+4,d.heap.objs.size+2,d.heap.objs.size+3,d.heap.objs.size,d.heap.objs.size+1],_,dN X.K z A a b B C,Q,rfl,k.kept (t':=d.toks) hk,WF z A _ _ _ _ _ a b B C D^aa d.heap.objs.size,#[F,r,#[_,_,t],w,x],λc hc=>?_,q];have l:d.heap.objs.size<=c:=af d.heap.objs.size c hc;exact k.fpOk l^k.hok.fresh l
end
end L2
namespace Dp
open L2
def EH(a b:v_ D):v_ D:=nW (λd e=>.tup [d,e]) a b
section
variable {K:Frag}
def Nx{U g M:Db->Prop}{H:Hp}{d:D}{v:V}{l:v_ D}(h:AtT K g M H d v)(e:Eg d=P3 l)(m:∀a,U a->g a)(s:∀a,g a->M a):∃p a c,v=.ref a/\Ats K M H l c/\∀i f,Pres M H i f->Ext U H f->SqK p K f a c:=by
 cases d with
 |lst q=>
  cases e;let#[a,c,j,n,b,k]:=h;refine#[t_,a,c,j,k,λi f _ ex=>?_]
  rcases b with b|⟨o,b⟩
  .exact .inl^.inl^ex.keep b λz=>n^m a z
  .exact .inl^.inr #[o,ex.keep b λz=>n^m a z]
 |tup q=>
  cases e;let#[a,c,j,b,k]:=h;exact#[u_,a,c,j,k,λi f r _=>(b.pres r).sq]
 |_=>cases e
def RT{M:Db->Prop}{H:Hp}{d:D}{v:V}{l:v_ D}(h:At K M H d v)(e:Eg d=P3 l):∃m a b,v=.ref a/\Ats K M H l b/\∀f c,Pres M H f c->SqK m K c a b:=by
 cases d with
 |lst n=>
  cases e;let#[a,b,g,i,j]:=h;exact#[t_,a,b,g,j,λf c k=>(i.pres k).sq]
 |tup n=>
  cases e;let#[a,b,g,i,j]:=h;exact#[u_,a,b,g,j,λf c k=>(i.pres k).sq]
 |_=>cases e
def KJ{M:Db->Prop}{H:Hp}{l m:Bool}{a b:Db}{f g:v_ V}{h j:v_ D}(u:Ats K M H h f)(v:Ats K M H j g){i:Nat}{r:Db->Prop}{c:Hp}(w:Pres M H r c)(z:SqK l K c a f)(A:SqK m K c b g)(s:∀a,r a->∃o,c a=P3 o):
  (∀d,(EH h j)[i]?=P3 d->(dN K l m a b f g).go i c/\∀x H2,(dN K l m a b f g).yld i c x H2->Grow c H2/\At K r H2 d x)/\((EH h j).length<=i->(dN K l m a b f g).stop i c):=by
 have P:=u.length;have Q:=v.length;refine#[λd e=>?_,λF=>#[z,A,?_]]
 .unfold EH at e
  rw[oI]at e;cases k:h[i]? with
  |none=>rw[k]at e;simp at e
  | some G=>
   cases n:j[i]? with
   |none=>rw[k,n]at e;simp at e
   |some I=>
    rw[k,n]at e;have t:D.tup [G,I]=d:=jH e;have R:i<h.length:=(ZB.mp k).1;have S:i<j.length:=(ZB.mp n).1;refine#[#[z,A,by lk,by lk],λx H2 y=>?_];let#[T,p,q,rfl,B,rfl,J,L]:=y;let#[U,C,N]:=(u.pres w).get k;let#[W,E,O]:=(v.pres w).get n;rw[J]at C;rw[L]at E;cases C;cases E;subst t;exact#[A1 B,Ce s B #[p,[q],rfl,N,q,[],rfl,O,rfl]]
 .unfold EH at F
  grind
end
section
variable {X:Cx}{e1 e2:Expr}{es:v_ Expr}{j:Nat}{tpos p pos:Pos}{ws:Ea}
def Ye(ws:Ea):Ea:=λn c P=>ws n c λf g=>∃d e a b,f=[d,e]/\Eg d=P3 a/\Eg e=P3 b/\P (EH a b) g
def Zk(z:Gl X "zip")(A:X.mg "zip"=s_)(B:aX X [e1,e2] ws)(D:starEach [e1,e2] X.env=[(u_,eval e1 X.env),(u_,eval e2 X.env)]:=by rfl)(c:starEach [e2] X.env=[(u_,eval e2 X.env)]:=by rfl):
  dG X (.Tuple es j tpos) (.Call (.Name "zip" p) [e1,e2] [] pos) (Ye ws):=by
 let#[t,E,F]:=B;refine#[_,W3 z A E D c,λC M H n G Z P W R w q=>?_];refine F C M H n G Z _ _ R w λY f ds I m o J p=>?_;let#[d,e,xs,ys,rfl,K,L,p]:=p;cases J with
 | cons r g=>
  cases g with
  |cons N g=>
   cases g;have s:=R.step m o;let#[O,a,Q,rfl,S,u]:=Nx (U:=C.U) r K R.uV s.vM;let#[T,b,h,rfl,V,v]:=Nx (U:=C.U) N L R.uV s.vM;refine#[O,T,a,b,Q,h,rfl,u M f (Pres.refl _ _)^Ext.refl _ _,v M f (Pres.refl _ _)^Ext.refl _ _,q _ f _ I m o (λi x y k ex l=>KJ S V k (u x y k ex) (v x y k ex) l) p]
def cP(x:Gl X "zip")(y:X.mg "zip"=s_)(z:aW X [e1,e2] ws)(A:starEach [e1,e2] X.env=[(u_,eval e1 X.env),(u_,eval e2 X.env)]:=by rfl)(c:starEach [e2] X.env=[(u_,eval e2 X.env)]:=by rfl):
  DI X (.Tuple es j tpos) (.Call (.Name "zip" p) [e1,e2] [] pos) (Ye ws):=by
 let#[t,B,D]:=z;refine#[_,W3 x y B A c,λC M H n E Z P W R w q=>?_];refine D C M H n E Z _ _ R w λY f ds F G I g p=>?_;let#[d,e,xs,ys,rfl,J,K,p]:=p;let#[v,r,rfl,g,v',L,rfl,N,O]:=g;cases(show L=[]from O);let#[Q,a,S,rfl,T,m]:=RT g J;let#[U,b,h,rfl,V,o]:=RT N K;exact#[Q,U,a,b,S,h,rfl,m M f^Pres.refl _ _,o M f^Pres.refl _ _,q _ f _ F G I (λi s u k l=>KJ T V k (m s u k) (o s u k) l) p]
def gw:D->w_ Key
 |.int i=>P3^.inl i
 |.str x=>P3^.inr x
 |_=>s_
def JU:v_ D->w_^v_ Key
 |[]=>P3 []
 |d::a=>match gw d,JU a with
  |some k,P3 b=>P3 (k::b)
  |_,_=>s_
theorem Hd{K:Frag}{M:Db->Prop}{H:Hp}:∀{c:v_ D}{a:v_ V}{b:v_ Key},JU c=P3 b->Ats K M H c a->a=b.map kOf
 |[],a,b,e,h=>by cases e;exact h
 | d::c,a,b,e,h=>by
  let#[v,r,e1,l,m]:=h;unfold JU at e
  split at e
  .rename_i k n f g
   cases e;rw[e1,Hd g m]
   congr 1
   cases d with
   |int i=>cases f;exact l
   |str x=>cases f;exact l.1
   |_=>cases f
  .cases e
def FV(d e:D)(P:D->Prop):Prop:=match d,e with
 |.int i,.int j=>P^.bl (decide (i<j))
 |.str i,.str j=>P^.bl (decide (i.cps.toList<j.cps.toList))
 |.tup c,.tup f=>∃a b,JU c=P3 a/\JU f=P3 b/\CT a b=t_/\P^.bl^Gs a b
 |_,_=>False
def eP(K:Frag):R2:=λx y H Q=>bL x y H Q\/eO K x y H Q
def FO{k:Nat}(a:Room k X.A):OpR X (compareOp .Lt)^eP X.K:=op_ltU.or^bi a.units0
def Jj:E4 X.K .sh (eP X.K) FV:=λU M H d e x y P Q c h f g w q=>by
 unfold FV at w
 split at w
 .exact .inl^aS U M H _ _ x y P Q c h f g w q
 .exact .inl^aS U M H _ _ x y P Q c h f g w q
 .let#[i,k,l,m,n,w]:=w
  let#[a,u,rfl,o,r]:=f.tup;let#[b,v,rfl,s,t]:=g.tup;have e1:=Hd l r;have e2:=Hd m t;subst e1 e2;exact .inr #[a,b,i,k,rfl,rfl,o.sq,s.sq,n,q _ H (.bl _) .refl rfl w]
 grind
end
end Dp
namespace L2
section
variable {prog:Program}{w:World}{A:Around}{E:Value->Shared->Prop}{s:Shared}
def Pc{t f:Db}{a:Array Ev}{k l:Ev}{b e:w_ Int}{Q:Ev->Go->Prop}(c:nc s.heap t a)(n:s.heap.IsSliceOf f k l .none)(p:oO k b)(q:oO l e)
  (o:HT.sIx a.size 0 b=0/\HT.sIx a.size a.size e=a.size) (h:Q (.ref t) s):wpAny (model prog w) A (getItem (.ref t)^.ref f) Q E s:=by
 let#[r,g,i,u]:=id n;have j:s.TypeIs (.ref f) "slice":=#[r,g,i];unfold getItem
 (try with_reducible refine jn ?_);(first|refine Ch^Re ?_|skip)
 refine Ch^pE c.typeIs (by cbv)^Ch^kI (name:=lE "__getitem__") c.typeIs jg^kY jg c.typeIs oa ?_^o4 _ _;show wpAny (model prog w) _ (nH^.ref t >>=_) _ _ s;refine Ch^tupleItemsOf_ c^Ch^l7 j ?_;rw[if_pos^by cbv]
 refine Ch^HT.sliceApplied_gen n p q ?_;have d:(((HT.sIx a.size 0 b:Nat):Int)==0&&(1:Int)==1&&(HT.sIx a.size a.size e - HT.sIx a.size 0 b)==a.size)=t_:=by rw[o.1,o.2];simp
 show wpAny (model prog w) _ (if(((HT.sIx a.size 0 b:Nat):Int)==0&&(1:Int)==1&&(HT.sIx a.size a.size e - HT.sIx a.size 0 b)==a.size)=t_ then _ else _) _ _ s;rw[if_pos d];refine Ch (m:=o_ _) ?_;unfold o_;refine Ch^l7 c.typeIs^Re ?_;show wpAny (model prog w) _ (if((md "tuple"==md "tuple")=t_)then _ else _) _ _ s;rw[if_pos^by cbv]
 first
  |grind
  |exact Ch^nE^Re #[_,rfl,Re h]
  |grind
theorem Lc{b c:Type}{f g:b->w_ c}:∀{l:v_ b},(∀a∈l,f a=g a)->l.filterMap f=l.filterMap g
 |[],_=>rfl
 |a::l,h=>by
  rw[mW,mW,h a Rs,Lc λx d=>h x^Sc _ d]
def WY(l:v_ Ev):∀(n:Nat),n<=l.length->((je n).filterMap fun(k:Nat)=>l[n - 1 - k]?)=(l.take n).reverse:=by
 intro n
 induction n with
 |zero=>intro _;simp
 | succ n b=>
  intro h;have a:n<l.length:=h;rw[pk,mW];have c:l[n+1 - 1 - 0]?=P3 l[n]:=by rw[show n+1 - 1 - 0=n by lk,On a]
  simp only[c];rw[o0]
  have d:((fun(k:Nat)=>l[n+1 - 1 - k]?)∘Nat.succ)=fun(k:Nat)=>l[n - 1 - k]?:=by
   grind
  rw[d,b^by lk,List.take_add_one,On a,List.reverse_append];rfl
def HL(a:Array Ev):((je a.size).filterMap fun(k:Nat)=>a[(((a.size:Int) - 1)+(k:Int)*(-1)).toNat]?).toArray=a.toList.reverse.toArray:=by
 have h:=WY a.toList _^Op _;rw[oC]at h
 have e:(je a.size).filterMap (fun(k:Nat)=>a[((a.size - 1)+(k:Int)*(-1)).toNat]?)=(je a.toList.length).filterMap λk=>a.toList[a.toList.length - 1 - k]?:=by
  refine Lc λk b=>?_;rw[show((a.size - 1)+(k:Int)*(-1)).toNat=a.size - 1 - k by lk];simp
 rw[e,h]
def Qu{c:Db}{t:Tok}{n:Nat}{Q:Int×Int×Nat->Go->Prop}(e:s.heap.IsSliceOf c .none .none^.int (-1) t)(h:Q ((n:Int) - 1,-1,n) s):wpAny (model prog w) A (o9 (.ref c)^pure (n:Int)) Q E s:=by
 let#[k,a,f,b]:=id e;refine Ch^Ch (jf a b (x:=.none) rfl (Ch (jf a b (x:=.none) rfl (Ch (jf a b (x:=.int (-1) t) rfl (Re ?_))))));refine Ch^HT.slicePart_ (IsPart.int (-1) t) ?_;rw[if_neg^by cbv];show wpAny (model prog w) _ (match mI s_ s_ (-1) (n:Int)with|(d,g)=>pure (d,(-1:Int),lA d g (-1))) _ _ s;have i:mI s_ s_ (-1) (n:Int)=((n:Int) - 1,-1):=rfl;rw[i]
 have j:lA ((n:Int) - 1) (-1) (-1)=n:=by
  unfold lA
  grind
 show wpAny (model prog w) _ (pure _) _ _ s;rw[j];exact Re h
def UY{t e:Db}{a:Array Ev}{n:Tok}{Q:Ev->Go->Prop}(d:nc s.heap t a)(l:s.heap.IsSliceOf e .none .none^.int (-1) n)(f:a.size<=sizeLine)
  (h:Q (.ref s.heap.objs.size) {s with heap:=s.heap.push {cls:=.type "tuple",data:=.seq a.toList.reverse.toArray}}):wpAny (model prog w) A (getItem (.ref t)^.ref e) Q E s:=by
 let#[o,g,i,p]:=id l;have j:s.TypeIs (.ref e) "slice":=#[o,g,i]
 have c:sizeOk^.seq a.toList.reverse.toArray:=by
  show a.toList.reverse.toArray.size<=sizeLine
  simpa using f
 unfold getItem
 (try with_reducible refine jn ?_);(first|refine Ch^Re ?_|skip)
 refine Ch^pE d.typeIs (by cbv)^Ch^kI (name:=lE "__getitem__") d.typeIs jg^kY jg d.typeIs oa ?_^o4 _ _;show wpAny (model prog w) _ (nH^.ref t >>=_) _ _ s;refine Ch^tupleItemsOf_ d^Ch^l7 j ?_;rw[if_pos^by cbv]
 refine Ch^Qu l ?_;have k:¬(((a.size:Int) - 1==0&&(-1:Int)==1&&a.size==a.size)=t_):=by simp
 show wpAny (model prog w) _ (if((a.size:Int) - 1==0&&(-1:Int)==1&&a.size==a.size)=t_ then _ else _) _ _ s;rw[if_neg k,HL]
 first
  |exact Ch (m:=lF _)^j1 (Re #[_,rfl,Re h]) c
  |omega
  |grind
  |grind
def MV(a:Array Ev):slicePick a s_ s_^P3 (-1)=a.toList.reverse.toArray:=by
 unfold slicePick;have b:sliceBounds s_ s_ (P3 (-1)) _=((a.size:Int) - 1,-1,-1):=rfl;rw[b];simp only[sliceRange];rw[←HL,o0]
 congr 1
 have c:(if -1 > 0 then if(a.size:Int) - 1 < -1 then(-1 - ((a.size:Int) - 1)+-1 - 1) / -1 else 0 else if(a.size:Int) - 1 > -1 then((a.size:Int) - 1 - -1 - -1 - 1) / - -1 else 0).toNat=a.size:=by
  grind
 rw[c];refine Lc λk _=>?_
 grind
end
section
variable {X:Cx}{e st:Expr}{te tst:TE}{pos p2:Pos}
def gp(K:Frag):V->Hp->VK->Prop:=λx H Q=>(∃a b,x=.ref a/\SqL K H a b/\∀p,H p=s_->Q (.ref p)^A4 H p^.lst b.reverse)\/∃a b,x=.ref a/\SqT K H a b/\∀p,H p=s_->Q (.ref p)^A4 H p^.tup b.reverse
def gf(K:Frag)(te tst:TE):TE:=λZ H Q=>te Z H λx a=>tst Z a λi H2=>i=.int (-1)/\gp K x H2 Q
def bc(C:PE X e te)(k:PE X st tst):PE X (.Subscript e (.Slice s_ s_ (P3 st) p2) pos)^gf X.K te tst:=by
 intro j s Z H Q I h;refine Subscript_^thn (C j s Z H _ I h) λv D #[x,E,F,y,G]=>?_;refine wpAny_Slice ?_;rw[evalPart_none,evalPart_some];refine Re^Re^thn (k j D Z E _ F G) λN c #[i,J,L,M,l]=>?_;let#[rfl,l]:=l;let#[t,rfl]:=M;have d:Inv X j Z J {c with heap:=c.heap.push {cls:=.type "slice",data:=.fields #[ .none,.none,.int (-1) t]}}:=L.kept (t':=c.toks) λb z q=>FM _ q;have B:({c with heap:=c.heap.push {cls:=.type "slice",data:=.fields #[ .none,.none,.int (-1) t]}}:Go).heap.IsSliceOf c.heap.objs.size .none .none^.int (-1) t:=qO ..;show wpAny (model X.prog X.w) X.A (subscriptTail e (.Slice s_ s_ (P3 st) p2) v^.ref c.heap.objs.size) (EP X j Z Q) X.xe {c with heap:=c.heap.push {cls:=.type "slice",data:=.fields #[ .none,.none,.int (-1) t]}}
 rcases l with⟨a,m,rfl,n,q⟩|⟨a,m,rfl,n,q⟩
 .cases y
  let#[p,r,f,u]:=d.list n;have g:=r.length;refine tail_any (ops:=[.ref a,.ref c.heap.objs.size]) f.isList.typeIs pF.lookup ?_ (by with_unfolding_all rfl);refine wpAny_getItem_list_slice f.isList B .none .none (.int (-1) t) (by cbv) ?_ (by rw[f8];lk);rw[MV];refine#[.ref _,_,d.laid (t':=c.toks) (o:=.lst m.reverse) (λb z q=>FM _ q) (Op _) ?_,rfl,q _^d.hok.fresh^Op _];exact#[by rw[kG];exact u,_,0,r.reverse,XV _ rfl]
 .cases y
  let#[p,r,f,u]:=d.tuple n;have g:=r.length;refine tail_any (ops:=[.ref a,.ref c.heap.objs.size]) f.typeIs jg.lookup ?_ (by with_unfolding_all rfl);refine UY f B (by rw[f8];lk) ?_;refine#[.ref _,_,d.laid (t':=c.toks) (o:=.tup m.reverse) (λb z q=>FM _ q) (Op _) ?_,rfl,q _^d.hok.fresh^Op _];exact#[by rw[kG];exact u,_,r.reverse,IsTupN.new _ _]
def Z7(K:Frag):V->w_ Int->w_ Int->Hp->VK->Prop:=λx c d H Q=>∃a b,x=.ref a/\SqT K H a b/\(HT.sIx b.length 0 c=0/\HT.sIx b.length b.length d=b.length)/\Q (.ref a) H
def Yt:SlR X^Z7 X.K:=by
 intro k s Z H x v l m n o p Q I d e f g h;let#[a,t,rfl,i,u,q]:=h;cases d;let#[j,r,b,w]:=I.tuple i;have c:=r.length.symm;exact#[_,_,jg.lookup,b.typeIs,Pc b e f g (by grind) #[.ref a,H,I,rfl,q]]
end
section
variable {X:Cx}
def Wo(K:Frag):R2:=λx y H Q=>∃a b c,x=.ref a/\y=.ref b/\SqT K H a []/\SqT K H b c/\Q (.ref b) H
def XI:OpR X (binaryOp .Add)^Wo X.K:=by
 intro M s Z H x y v u Q I l m h;let#[a,b,N,rfl,rfl,o,p,q]:=h;cases l;cases m;let#[r,t,w,_]:=I.tuple o;let#[g,O,z,_]:=I.tuple p;cases t;let#[#[A,B,i,C],j,D,n,E]:=id w;let#[#[k,G,d,J],c,e,L,f]:=id z;subst D E e f;exact concat_meets #[_,j,rfl] #[_,c,rfl] pS seq_tuple_add PySem.F.slot_tuple_add PySem.F.entry_tuple_add (PySem.F.args_tuple_add_2 _ _) (tuple_addW0 a b _ _ n L B _ C _^by simp) #[j,c,#[.ref b,H,I,rfl,q]]
def bI(b:Bool):Int:=if b=t_ then 1 else 0
def gH(g:Int->Int->Int):R2:=λx y H Q=>∃k j,x=.bl k/\y=.int j/\Q (.int^g (bI k) j) H
def iM(g:Int->Int->Int):R2:=λx y H Q=>∃i k,x=.int i/\y=.bl k/\Q (.int^g i^bI k) H
def op_add_bi:OpR X (binaryOp .Add) (gH λi j=>i+j):=by
 intro c s Z H x y v u Q I a b h;let#[k,j,rfl,rfl,q]:=h;cases a;let#[t,rfl]:=b;exact PySem.IntBool.add_bool_int #[.int _,H,I.tok _,#[_,rfl],q]
def op_sub_bi:OpR X (binaryOp .Sub) (gH λi j=>i - j):=by
 intro c s Z H x y v u Q I a b h;let#[k,j,rfl,rfl,q]:=h;cases a;let#[t,rfl]:=b;exact PySem.IntBool.sub_bool_int #[.int _,H,I.tok _,#[_,rfl],q]
def Uz:OpR X (binaryOp .Sub) (iM λi j=>i - j):=by
 intro c s Z H x y v u Q I a b h;let#[i,k,rfl,rfl,q]:=h;let#[t,rfl]:=a;cases b;exact PySem.IntBool.sub_int_bool #[.int _,H,I.tok _,#[_,rfl],q]
def eT(c:Bool):R2:=λx y H Q=>∃a b,x=.bl a/\y=.bl b/\Q (.bl (if c then !(a==b)else a==b)) H
def bj:OpR X (compareOp .Is)^eT u_:=by
 intro e s Z H x y v u Q I c d h;let#[a,b,rfl,rfl,q]:=h;cases c;cases d;exact is_bool #[.bl _,H,I,rfl,q]
end
end L2
namespace Dp
open L2
section
variable {K:Frag}{X:Cx}
def A5(d e:D)(P:D->Prop):Prop:=match d,e with
 |.int i,.int j=>P^.int (i+j)
 |.bl k,.int j=>P^.int (bI k+j)
 |.str i,.str j=>i.length+j.length<=sizeLine/\P^.str (i++j)
 |.tup i,.tup j=>i.length+j.length<=sizeLine/\P^.tup (i++j)
 |.lst i,.lst j=>i.length+j.length<=sizeLine/\P^.lst (i++j)
 |_,_=>False
def aC(K:Frag):R2:=λx y H Q=>Wq K x y H Q\/(gH λi j=>i+j) x y H Q\/Wo K x y H Q
def Aw:OpR X (binaryOp .Add)^aC X.K:=op_addU.or^op_add_bi.or XI
def A8:E4 X.K .sh (aC X.K) A5:=λU M H d e x y P Q c h f g w q=>by
 unfold A5 at w
 split at w
 .exact .inl^Oy U M H (.int _) (.int _) x y P Q c h f g w q
 .rename_i k j
  exact .inr^.inl #[k,j,f,g,q _ H (.int _) .refl rfl w]
 .exact .inl^Oy U M H _ (.str _) x y P Q c h f g w q
 .rename_i i j
  cases i with
  |nil=>
   let#[a,r,rfl,n,o]:=f.tup;let#[b,l,rfl,m,p]:=g.tup;cases(o);exact .inr^.inr #[a,b,l,rfl,rfl,n.sq,m.sq,q _ H (.tup j) .refl #[b,l,rfl,m,p]^by grind]
  |cons s i=>exact .inl^Oy U M H _ (.tup j) x y P Q c h f g #[(by grind),w] q
 .exact .inl^Oy U M H (.lst _) (.lst _) x y P Q c h f g w q
 grind
def GW(d e:D)(P:D->Prop):Prop:=match d,e with
 |.int i,.int j=>P^.int (i - j)
 |.bl k,.int j=>P^.int (bI k - j)
 |.int i,.bl k=>P^.int (i - bI k)
 |_,_=>False
def Z5:R2:=λx y H Q=>(JO λi j=>.int (i - j)) x y H Q\/(gH λi j=>i - j) x y H Q\/(iM λi j=>i - j) x y H Q
def D4:OpR X (binaryOp .Sub) Z5:=op_sub.or^op_sub_bi.or Uz
def Fs:E4 K .sh Z5 GW:=λU M H d e x y P Q a f b c w q=>by
 unfold GW at w
 split at w
 .exact .inl^YK U M H _ _ x y P Q a f b c w q
 .rename_i k j
  exact .inr^.inl #[k,j,b,c,q _ H (.int _) .refl rfl w]
 .rename_i i k
  exact .inr^.inr #[i,k,b,c,q _ H (.int _) .refl rfl w]
 grind
def cG(c:Bool)(d e:D)(P:D->Prop):Prop:=match d,e with
 |.bl a,.bl b=>P^.bl (if c then !(a==b)else a==b)
 |_,_=>False
def fj{c:Bool}:E4 K .sh (eT c)^cG c:=λU M H d e x y P Q f i g h w q=>by
 unfold cG at w
 split at w
 .rename_i a b
  exact#[a,b,g,h,q _ H (.bl _) .refl rfl w]
 grind
def Co(d:D)(a b:w_ Int)(P:D->Prop):Prop:=match d with
 |.str z=>P^.str^Txt.slice z a b
 |.lst c=>P^.lst^cutD c a b
 |.tup c=>P^.tup^cutD c a b
 |_=>False
def eK(K:Frag):V->w_ Int->w_ Int->Hp->VK->Prop:=λx a b H Q=>eG x a b H Q\/eJ K x a b H Q\/eI K x a b H Q\/Z7 K x a b H Q
def E7:SlR X^eK X.K:=sl_U.or^sl_list.or^sl_tup.or Yt
def UE{M:Db->Prop}{H:Hp}{a:v_ D}{b:v_ V}(c d:w_ Int)(h:Ats K M H a b):Ats K M H (cutD a c d)^Qf b c d:=by
 unfold cutD Qf;rw[h.length];exact(h.drop _).take _
def Cr:iT K .sh (eK K) Co:=by
 intro U M H d x c f P Q h n i w q;unfold Co at w
 split at w
 .rename_i z
  exact .inl #[z,i.str.1,i.str.2,q _ H (.str^Txt.slice z c f) .refl #[rfl,jJ (Txt.slice_le z c f) i.str.2] w]
 .rename_i l
  let#[a,b,rfl,_,j,g]:=i;exact .inr^.inl #[a,b,rfl,.inl j,λp k=>q _ _ (.lst _) (A1 k) ((Cf (U:=U) k^UE c f g).shOf h^by grind) w]
 .rename_i l
  let#[a,b,rfl,j,g]:=i.tup
  by_cases m:HT.sIx b.length 0 c=0/\HT.sIx b.length b.length f=b.length
  .refine .inr^.inr^.inr #[a,b,rfl,j.sq,m,?_]
   have e:cutD l c f=l:=by
    unfold cutD;rw[←g.length,m.1,m.2,p8,Nat.sub_zero,g.length,oC]
   rw[e]at w;exact q _ H (.tup l) .refl #[a,b,rfl,j,g] w
  .exact .inr^.inr^.inl #[a,b,rfl,j.sq,m,λp k=>q _ _ (.tup _) (A1 k) (Ce h k^UE c f g) w]
 grind
def Yf(f a:DW):DW:=λn c P=>f n c λd g=>a g c λi e=>i=.int (-1)/\match d with
 |.lst b=>P (.lst b.reverse) e
 |.tup b=>P (.tup b.reverse) e
 |_=>False
def SV{a st:jX}{F m:Kd}{B c:DW}{pos b:Pos}(e:DE X a F B)(o:DE X st m c):DE X (.Subscript a (.Slice s_ s_ (P3 st) b) pos) .sh^Yf B c:=by
 let#[t,G,I]:=e;let#[u,J,L]:=o;refine#[_,bc G J,λC M H n D Z P Q R w q=>?_];refine I C M H n D Z _ _ R w λv N d O r S T p=>?_;have s:=R.step r S;have W:=T.tpOf R.dom R.vM;refine L C M N O D Z _ _ s p λi H2 z E f x Y b=>?_;have h:=s.step f x;have j:=W.pres (s.pres f) f R.uV;let#[rfl,b]:=b;exists Ij Y;cases d with
 |lst y=>
  let#[a,k,rfl,_,e,A]:=j;refine .inl #[a,k,rfl,.inl e,λp l=>?_];have g:Grow H2^A4 H2 p^.lst k.reverse:=A1 l;exact q _ _ (.lst y.reverse) E ((r.trans f).trans g.ext) (x.grow g) ((Cf (U:=C.V) l A.reverse).shOf h.dom^by intro z;cases z) b
 |tup y=>
  let#[a,k,rfl,e,A]:=j.tup;refine .inr #[a,k,rfl,e.sq,λp l=>?_];have g:Grow H2^A4 H2 p^.tup k.reverse:=A1 l;exact q _ _ (.tup y.reverse) E ((r.trans f).trans g.ext) (x.grow g) (Ce h.dom l A.reverse) b
 |_=>exact b.elim
end
end Dp
namespace Nt
open L2 Dp
def Bn:W2:=λa n P=>∃m:Int,a=[.fd,.sh^.int m]/\1<=m/\m<1073741824/\1<=n/\∀r:Int,0<=r->r<m->P (.int r) (n - 1)
def cs(x:Str):v_ Nat:=x.cps.toList
def cZ{x y:Str}(h:cs x=cs y):x=y:=by
 let#[a]:=x;unfold cs at h
 simp_all
def SI(x:Str):Prop:=1<=x.length/\x.length<=8/\∀c∈cs x,97<=c/\c<=122
def rising(a:v_ Str):Prop:=a.Pairwise λx y=>cs x<cs y
def XR(a b:v_ Nat):ltCps a b=decide (a<b):=ltCps_eq a b
theorem JR:∀(l:v_ Str) (p:Str),risingS p l=t_->(p::l).Pairwise λa b=>¬cs b<cs a
 |[],p,_=>pf _ _
 |x::r,p,h=>by
  have c:(!ltCps _ _&&risingS x r)=t_:=h;rw[jN,Bool.not_eq_true',XR,decide_eq_false_iff_not]at c;have e:=JR r x c.2;refine kM.mpr #[λy d=>?_,e]
  rcases UF.mp d with rfl|d
  .exact c.1
  .exact List.le_trans c.1^(kM.mp e).1 y d
def MA{l:v_ Str}(h:sortedS l=t_)(nd:l.Nodup):rising l:=by
 have c:l.Pairwise λa b=>¬cs b<cs a:=by
  cases l with
  |nil=>simp_all
  |cons x r=>exact JR r x h
 exact(c.and nd).imp λ{a b} #[d,e]=>mL λf=>e^cZ^List.le_antisymm d f
def FH(a:Int)(n:Nat):(GB a n).length=n:=by unfold GB;grind
def Ku{a:Int}{n:Nat}{d:D}(h:d∈GB a n):∃k:Nat,k<n/\d=.int (a+k):=by
 let#[k,b,rfl]:=TM.mp h;exact#[k,lP.mp b,rfl]
end Nt
namespace L2
def bq{K:Frag}:PySem.W.specialIn K (.builtin "object.__class__") "__get__"=P3^P3^.builtin "getset_descriptor.__get__":=by kernel_rfl
def XJ{K:Frag}:PySem.W.takesIn K^.builtin "object.__class__"=P3 t_:=by kernel_rfl
section
variable {K:Frag}{nm n1 n2:Str}{C U D U':Addr}
def XC.hd(c:XC K nm C U):PySem.W.hasDictIn K C=t_:=by
 let#[a,b,_,d,_]:=c.cls;unfold PySem.W.hasDictIn
 grind
def XC.mro(c:XC K nm C U)(v:Ev):PySem.W.mroIn K C v=P3^(jE C::jE U::C4).contains v:=by
 let#[d,a,b,_]:=c.cls;unfold PySem.W.mroIn;rw[a,Option.bind_some,b];rfl
def XC.name(c:XC K n1 C U)(d:XC K n2 C U'):n1=n2:=by
 let#[f,g,_,_,h]:=c.cls;let#[a,b,_,_,e]:=d.cls
 grind
def XC.nameU(c:XC K n1 C U)(d:XC K n2 U U'):n2="ThinError":=by
 let#[q,N,i,j,b,k,f,l,m,n,o,p,r,s,e]:=c.up;let#[g,a,_,_,h]:=d.cls;unfold PySem.W.clsIn at a;rw[e]at a
 grind
def XC.ty(c:XC K nm C U):(PySem.W.clsIn K C).isSome=t_/\PySem.W.typeIn K^.ref C=P3^.type "type":=by
 let#[q,N,d,f,a,g,b,h,i,j,k,l,m,e]:=c.obj;refine#[by unfold PySem.W.clsIn;rw[e];rfl,?_];unfold PySem.W.typeIn
 simp_all
def XC.kit(c:XC K n1 C U)(d:XC K n2 D U')(h:n2 ≠ "ThinError"):PySem.W.kitOne K (.ref C)^.ref D=P3 (decide (n1=n2)):=by
 unfold PySem.W.kitOne
 by_cases e:C=D
 .subst e
  rw[c.name d];simp
 .have a:n1≠n2:=λz=>by
   subst z;have q:=c.at_.symm.trans d.at_
   grind
  have b:U≠D:=λz=>by subst z;exact h^c.nameU d
  rw[if_neg^by simp[e]];show(if((PySem.W.clsIn K D).isSome&&PySem.W.typeIn K _==P3 _)=t_ then PySem.W.subIn K _ _ else s_)=_;rw[if_pos^by rw[d.ty.1,d.ty.2];rfl];show PySem.W.mroIn K C^.ref D=_;rw[c.mro,Je]
  grind
def XC.kitV(c:XC K n1 C U):PySem.W.kitOne K (.ref C)^.type "ValueError"=P3 t_:=by
 show PySem.W.mroIn K C _=_;rw[c.mro];simp[C4]
end
section
variable {prog:Program}{w:World}{A:Around}{E:Value->Shared->Prop}{s:Shared}{K:Frag}{nm name:Str}{x C U:Addr}{ox:Obj}{od:w_ Obj}{tk:Tok}{fill expr:Bool}
def Zz{Q:Ev->Go->Prop}(X:K.In s.heap)(c:XC K nm C U)(I:PySem.W.InstAt s.heap x ox C od)
  (h:wpAny (model prog w) A.in1 (kz.«object.__getattribute__» #[[.ref x,.str name tk],[]]) (λa d=>match a with|.done (.ret v)=>wpAny (model prog w) A (handedOut v) Q E d|_=>False) (λ_ _=>False) s):
  wpAny (model prog w) A (getAttrBy (.ref x) (.str name tk) fill expr) Q E s:=by
 have e:=PySem.F.excAttr_ValueError;have f:(mZ "BaseException.__getattribute__"==mZ "object.__getattribute__")=u_:=by decide +kernel
 have i:(onTheHeap^jE C&&mZ "BaseException.__getattribute__"==mZ "object.__getattribute__")=u_:=by rw[f];rfl
 have g:(expr&&onTheHeap^mZ "BaseException.__getattribute__")=u_:=by cases expr <;>rfl
 have b:PySem.W.Looks (model prog w) s.heap (isInstance (.ref x)^.type "BaseException") t_:=by
  refine I.type.andThen^PySem.W.looks_mroIn X ?_;rw[c.mro];simp[C4]
 refine jn^Ch^I.type.here^Ch^(PySem.W.looks_findIn X c.ga).here ?_;show wpAny _ _ (if(onTheHeap^jE C&&mZ _==mZ _)=t_ then _ else getAttrByItsOwn _ _ _ _ _ _) _ _ _;refine Ch^(PySem.W.looks_findIn X c.gt).here^Ch^lf^jn ?_;unfold callGetattribute boundAndCalled;rw[g,e.ga.bind^.ref x];refine Ch^Re^lU^mJ e.ga.plain PySem.F.entry_bexc_ga^@PySem.W.check_slot (model prog w) _ _ s _ "BaseException" "__getattribute__" (.ref x) [.str name tk] [] _ (by decide +kernel) (by decide +kernel) b (PySem.F.args_bexc_ga _ _)^jh h (λa d z=>?_) λ_ _ z=>z.elim
 rcases a with(_|_|_|_)|_ <;>first|exact z|exact z.elim
def ag{v:Ev}{Q:Ev->Go->Prop}(X:K.In s.heap)(c:XC K nm C U)(I:PySem.W.InstAt s.heap x ox C od)(a:PySem.W.findObj K C od name=P3^.value v)(b:PySem.W.handedIn v=t_)(h:Q v {s with toks:=s.toks+1}):
  wpAny (model prog w) A (getAttr (.ref x) name expr) Q E s:=by
 refine Ch^wpAny_mkText^Zz X c I ?_;refine Ch^Re^Ch^Re^Ch^PySem.W.Looks.here I.type^Ch^PySem.W.Looks.here (PySem.W.looks_find X I a)^Re ?_;show wpAny _ _ _ _ _ _;rw[PySem.W.handedOut_of b];exact Re h
def V0{g a v:Ev}{Q:w_ Ev->Go->Prop}(X:K.In s.heap)(c:XC K nm C U)(I:PySem.W.InstAt s.heap x ox C od)(b:PySem.W.findObj K C od name=P3^.bind g a)(d:PySem.W.handedIn v=t_)
  (h:∀{A:jY}{R:Ev->Go->Prop},R v {s with toks:=s.toks+1}->wpAny (model prog w) A (call g [a,.ref x,.ref C]) R (λ_ _=>False) {s with toks:=s.toks+1}) (q:Q (P3 v) {s with toks:=s.toks+1}):
  wpAny (model prog w) A (getAttr? (.ref x) name) Q E s:=by
 refine Ch^wpAny_mkText^Ch^lf^Zz X c I ?_;unfold kz.«object.__getattribute__»;refine Ch^Re^Ch^Re^Ch^PySem.W.Looks.here I.type^Ch^PySem.W.Looks.here (PySem.W.looks_find X I b) ?_;refine Ch^jn^h^Re ?_;show wpAny _ _ _ _ _ _;rw[PySem.W.handedOut_of d];exact Re^Re q
end
section
variable {K:Frag}{nm:Str}{C U:Addr}
def XC.kitX{a:Db}(c:XC K nm C U):PySem.W.KitX K (.ref a) (.ref C) (λh=>∃i b,PySem.W.InstAt h a i C b) where
 ty:=λ_ _ _ #[_,_,I]=>I.type
 it:=λ_ _ X _=>by
  let#[q,N,l,m,d,o,f,p,t,u,v,x,y,e]:=c.obj;intro L M O P k q;exact Ch (wpAny_loadPart (k _ _^X _ _ e)^Re q)
 ne:=λh tp B D n R X g=>by
  let#[q,N,l,m,d,o,f,p,t,u,v,x,y,e]:=c.obj;refine ji.mpr λz=>?_;have F:C=tp:=Value.ref.inj^beq_iff_eq.mp z;subst F;have S:=congrArg Obj.data^jH^(X _ _ e).symm.trans g
  grind
 ca:=λ{j w A E Q s} X J k=>by
  let#[i,b,I]:=J
  have G:PySem.W.findObj K C b "__class__"=P3^.bind (.builtin "getset_descriptor.__get__")^.builtin "object.__class__":=by
   let#[T,H,_]:=c.cls;unfold PySem.W.findObj;rw[H,c.ca];simp[bq,XJ]
  exact V0 X c I G rfl (λr=>lU^PySem.W.class_get X I (c.mro _) r) k
end
section
variable {X:Cx}{zG:v_ (Addr×Obj)}{Z:St}{H:Hp}{s:Shared}{a C U d:Addr}{dx:w_ Addr}{u:HO}{nm f:Str}{fs:v_ (Str×V)}{v:V}{A:Around}{E:Value->Shared->Prop}
def XT.inst(e:XT C dx a u)(I:Inv X zG Z H s)(g:H a=P3 u)(hd:∀d,dx=P3 d->∃o,s.heap.get? d=P3 o):∃h b,PySem.W.InstAt s.heap a h C b:=by
 let#[j,k,rfl,l]:=e;let#[c,_]:=(I.hok a _ g);cases dx with
 |none=>exact#[_,s_,c,rfl,rfl,trivial]
 |some d=>
  let#[o,i]:=hd d rfl;exact#[_,P3 o,c,rfl,rfl,i]
def ZX{b:Bool}{Q:Ev->Go->Prop}(I:Inv X zG Z H s)(i:H a=P3 u)(j:XT C (P3 d) a u)(k:H d=P3^.ext^XF d m)(c:XC X.K nm C U)(n:G3 X.K C f)(l:m.lookup f=P3 v)
  (h:∀u e,Inv X zG Z H e->RelV v u->Q u e):wpAny (model X.prog X.w) A (getAttr (.ref a) f b) Q E s:=by
 let#[z,B,rfl,D]:=j;let#[o,_]:=(I.hok a _ i);let#[#[F,p,r,G,_],_]:=(I.hok d _ k);let#[J,q,t]:=NK p;let#[x,y,g]:=RelO.some_of (by rw[←l];exact r f);exact ag I.kIn c #[o,rfl,rfl,q] (PySem.W.findObj_own c.hd n rfl (by rw[t,y])) (VS g)^h x _ (I.tok _) g
end
def ig(K:Frag)(e:TE)(f:Str):TE:=λZ H Q=>e Z H λx b=>∃a C U d u g c v,x=.ref a/\b a=P3 u/\XT C (P3 d) a u/\b d=P3^.ext^XF d c/\XC K g C U/\G3 K C f/\c.lookup f=P3 v/\Q v b
section
variable {X:Cx}{e:Expr}{f:Str}{pos:Pos}{ta:TE}
def e8(b:PE X e ta)(g:attributeBase e f X.env^eval e X.env=eval e X.env):PE X (.Attribute e f pos)^ig X.K ta f:=by
 intro w s Z H Q I h;refine Zr g^thn (b _ s Z H _ I h) λu y #[x,i,j,k,a,C,U,d,z,A,B,v,ex,m,o,p,c,n,l,q]=>?_;subst ex;obtain rfl:u=jE a:=k;exact ZX j m o p c n l λD E r t=>#[v,i,r,t,q]
def Ql:DR X (.builtin "isinstance") (λi H Q=>∃a C U g u j y c b,i=[.ref a,y]/\H a=P3 u/\XT C g a u/\(∀d,g=P3 d->∃k,H d=P3^.ext^XF d k)/\XC X.K j C U/\(y=.ty c/\PySem.W.kitOne X.K (.ref C)^.type c=P3 b\/∃D,y=.ref D/\PySem.W.kitOne X.K (.ref C)^.ref D=P3 b)/\Q (.bl b) H):=by
 intro F s Z H i G Q I r h;let#[a,C,U,g,u,j,y,c,b,rfl,p,t,v,l,x,q]:=h;let#[z,m,rfl,A,n]:=vals2 r;cases(show z=jE a from A)
 have J:=t.inst I p λd e=>by
  let#[k,B]:=v d e;let#[#[L,#[o,_,_,M,_],_],_]:=(show ObjOk X.prog X.w H s.heap d _ from I.hok d _ B)
  grind
 rcases x with⟨rfl,e⟩|⟨D,rfl,e⟩
 .cases(show m=md c from n)
  exact PySem.W.kia_one l.kitX I.kIn J e (by grind) λE=>#[.bl b,H,I.tok _,rfl,q]
 .cases(show m=jE D from n)
  exact PySem.W.kia_one l.kitX I.kIn J e (by grind) λE=>#[.bl b,H,I.tok _,rfl,q]
end
end L2
namespace Dp
open L2
def iQ(M:Db->Prop)(H:Hp)(a:w_ Db)(b:v_ Str)(c:v_ V):Prop:=a=s_/\b=[]/\c=[]\/∃d,a=P3 d/\¬M d/\H d=P3^.ext^XF d^b.zip c
abbrev PX:=Str->v_ Str->v_ D->Nat->Prop
abbrev WX:=v_ Slot->Nat->(D->Nat->Prop)->PX->Prop
def LiftX(K:Frag)(F:w_ (Db×Db))(U M:Db->Prop)(H:Hp)(h:PX)(E:XK):Prop:=∀d C i b c e f a g,Ext U H a->FeedC K F M a g->XC K d C i->iQ M a f b e->b.length=c.length->Ats K M a c e->h d b c g->E (.ref C) f a
def gn(K:Frag)(h:Kd)(W:WX)(i:Nat):Sp:=λb H Q E=>b.length=i/\∃(F:w_ (Db×Db)) (U c M:Db->Prop) (n:Nat) (e:v_ Slot) (P:D->Nat->Prop) (f:PX),c5 K F U c M H n e b/\W e n P f /\
 (∀v a d g,Ext U H a->FeedC K F M a g->VR K c M H a h v d->P d g->Q v a)/\LiftX K F U M H f E
section
variable {K:Frag}{C:Fm}{M:Addr->Prop}{H:Hp}{n:Nat}{ρ:v_ Slot}{Z:L2.St}
def Rel.setS(R:Rel K C M H n ρ Z){i:Nat}{s:Slot}{o:w_ V}(x:s.owns=u_)(y:∀d,s≠.br d)(h:SlotOk K C.F C.V M H s o):Rel K C M H n (ρ.set i s)^Z.set i o:=by
 have b:∀(j:Nat) (t:Slot),(ρ.set i s)[j]?=P3 t->t.owns=t_->ρ[j]?=P3 t/\((Z.set i o)[j]?).getD s_=(Z[j]?).getD s_:=λj t q w=>by
  rcases FC q with⟨_,_,rfl⟩|⟨f,q⟩
  .rw[x]at w;cases w
  .exact#[q,Gk f]
 refine#[by rw[mB,mB];exact R.len,R.sub,R.dom,R.ext,R.fU,R.uV,R.vM,R.feed,λj s q=>?_,R.pin,λj e a q c=>?_,λj s a q o c=>?_,λj k s t a g m c r u v=>?_,λp z=>?_]
 .rcases FC q with⟨rfl,A,rfl⟩|⟨f,q⟩
  .rw[RS^by rw[←R.len];exact A]
   exact h
  .rw[Gk f]
   exact R.sl j s q
 .rcases FC q with⟨_,_,e⟩|⟨f,q⟩
  .exact absurd e.symm^y _
  .rw[Gk f]at c
   exact R.br0 j e a q c
 .let#[g,e]:=b j s q o
  rw[e]at c;exact R.new j s a g o c
 .let#[B,D]:=b j s g m
  let#[E,l]:=b k t c r;rw[D]at u;rw[l]at v;exact R.two j k s t a B m E r u v
 .let#[G,I,J,L]:=R.kept p z
  refine#[G,I,J,λj e q=>?_];let#[g,l]:=b j _ q rfl;rw[l];exact L j e g
end
def dR(c:Fm->Prop)(X:Cx)(d:Kd)(st:jP)(w:Ac):Prop:=∃t,PS X st t/\∀(C:Fm) (M:Db->Prop) (H:Hp) (n:Nat) (a:v_ Slot) (Z:L2.St) (b:E2) (E:Ends),c C->Rel X.K C M H n a Z->IC X.K C d b E->w b n a->t E Z H
def RG(c:Fm->Prop)(X:Cx)(d:Kd)(st:v_ jP)(w:Ac):Prop:=∃t,PSs X st t/\∀(C:Fm) (M:Db->Prop) (H:Hp) (n:Nat) (a:v_ Slot) (Z:L2.St) (b:E2) (E:Ends),c C->Rel X.K C M H n a Z->IC X.K C d b E->w b n a->t E Z H
section
variable {Φ:Fm->Prop}{X:Cx}{κ:Kd}{st:Stmt}{rest:v_ Stmt}{u v:Ac}{wA:IE}{c:Expr}{pos p:Pos}
def cM(h:DS X κ st u):dR Φ X κ st u:=let #[t,a,b]:=h;#[t,a,λC M H n c Z d E _=>b C M H n c Z d E]
def OZ(h:RH X κ rest u):RG Φ X κ rest u:=let #[t,a,b]:=h;#[t,a,λC M H n c Z d E _=>b C M H n c Z d E]
def Io(d:dR Φ X κ st u)(e:RG Φ X κ rest v):RG Φ X κ (st::rest)^Ae u v:=by
 let#[t,f,g]:=d;let#[j,h,i]:=e;exact#[_,BV f h,λC M H n a Z b E c R L w=>g C M H n a Z {b with nx:=v b} _ c R #[λM H n a Z R w=>i C M H n a Z b E c R L w,L.rt,L.bk,L.ct] w]
def EU(a:dR Φ X κ st u):RG Φ X κ [st] u:=by
 let#[t,b,c]:=a;exact#[t,C5 b,c]
def SR{a b:v_ jP}(k:DT X c wA)(l:RG Φ X κ a u)(m:RG Φ X κ b v):dR Φ X κ (.If c a b pos)^BC wA u v:=by
 let#[t,o,q]:=k;let#[A,r,s]:=l;let#[x,y,z]:=m;refine#[_,TX o r y,λC M H n d Z e E f R L w=>?_];refine q C M H n d Z _ _ R w λb g h i j p=>?_;cases b with
 |true=>exact s C M g h d Z e E f (R.step i j) L p
 |false=>exact z C M g h d Z e E f (R.step i j) L p
end
def f_(P:jM)(w:jT)(K:Frag)(b:Str->w_ Ev)(a:jI)(c:Str)(d:v_ Str)(k:Nat):Prop:=∃C U,XC K c C U/\b c=P3^.ref C /\
 ((d=[]/\PySem.W.findIn K (.ref C) "__init__"=P3^P3^.builtin "ValueError.__init__")\/∃e g f fd h i j,d=[e,g]/\PySem.W.findIn K (.ref C) "__init__"=P3^P3^.ref f/\PySem.W.typeIn K^.ref f=P3^.type "function"/\CU P w K b a Fy k f fd [h,i,j]^Ke C e g/\Binds K fd [h,i,j] [])
def Nm(d:Str)(a:v_ Str)(b:Ea):E2->PX->Nat->v_ Slot->Prop:=λ_ e n g=>b n g λc f=>(a=[]/\c.length<=100/\e d [] [] f)\/(a.length=2/\c.length=2/\e d a c f)
abbrev Ya:=E2->PX->Nat->v_ Slot->Prop
def gA(X:Cx)(d:Kd)(st:jP)(w:Ya):Prop:=∃t,c6 X st t/\∀(C:Fm) (M:Db->Prop) (H:Hp) (n:Nat) (a:v_ Slot) (Z:L2.St) (b:E2) (E:Ends) (R:XK) (c:PX),Rel X.K C M H n a Z->IC X.K C d b E->LiftX X.K C.F C.U M H c R->w b c n a->t E R Z H
def YV(X:Cx)(d:Kd)(st:v_ jP)(w:Ya):Prop:=∃t,Vo X st t/\∀(C:Fm) (M:Db->Prop) (H:Hp) (n:Nat) (a:v_ Slot) (Z:L2.St) (b:E2) (E:Ends) (R:XK) (c:PX),Rel X.K C M H n a Z->IC X.K C d b E->LiftX X.K C.F C.U M H c R->w b c n a->t E R Z H
def LiftX.step{K:Frag}{F:w_ (Db×Db)}{U M:Db->Prop}{H a:Hp}{b:PX}{E:XK}(h:LiftX K F U M H b E)(e:Ext U H a):LiftX K F U M a b E:=λc C d f g i j k l m=>h c C d f g i j k l^e.trans m
section
variable {X:Cx}{κ:Kd}{st:Stmt}{u v:Ya}{c e:Expr}{es:v_ Expr}{pos cpos p:Pos}{nm:Str}{ks:v_ Str}{k:Nat}{was:Ea}
def cL{u:Ac}(h:DS X κ st u):gA X κ st (λc _=>u c):=let #[t,a,b]:=h;#[_,bR a,λC M H n d Z c E R e r l _=>b C M H n d Z c E r l]
def QY(a:gA X κ st u):YV X κ [st] u:=by
 let#[t,b,c]:=a;exact#[t,Wx b,c]
def V6:Ya:=λa _ n b=>a.nx n b
def X1:YV X κ [] V6:=#[_,Y2 Jz,λC M H n a Z b E R c r l _ w=>l.nx M H n a Z r w]
def Im(G:f_ X.prog X.w X.K X.mg X.base nm ks k)(D:Room (k+1) X.A)(I:Gl X nm)(ha:aW X (e::es) was)(a:(nm==("__debug__":Str))=u_:=by cbv)(J:starEach (e::es) X.env=(u_,eval e X.env)::starEach es X.env:=by rfl)(b:(backTo cpos^starEach es X.env).any (·.1)=u_:=by rfl)
  (c:(e::es).length<=sizeLine:=by cbv):gA X κ (.Raise (P3^.Call (.Name nm p) (e::es) [] cpos) s_ pos)^Nm nm ks was:=by
 let#[C,U,h,N,G]:=G;let#[t,O,P]:=ha
 rcases G with⟨rfl,s⟩|⟨Q,S,f,fd,p0,p1,p2,rfl,s,hf,F,hb⟩
 .refine#[_,Ro h s D.hd I N O a J b,λC0 M H n u Z D2 E R Pr r L l w=>?_]
  refine P C0 M H n u Z _ _ r w λT V W x i j m p=>?_
  rcases p with⟨_,c,p⟩|⟨z,_⟩
  .exact#[by rw[m.length,PySem.sizeLine_eq];lk,l nm C U [] [] [] s_ V x i j h (.inl #[rfl,rfl,rfl]) rfl rfl p]
  .cases z
 .refine#[_,Rn h s hf F hb D I N O a J b,λC0 M H n u Z D2 E R Pr r L l w=>?_]
  refine P C0 M H n u Z _ _ r w λT V W x i j m p=>?_
  rcases p with⟨z,_⟩|⟨_,c,p⟩
  .cases z
  .have Y:=m.length
   rw[c]at Y
   match T,Y with
   | [y,B],_=>
    refine#[y,B,rfl,λd hd=>?_];have g:=A1 (o:=.ext^XF d [(Q,y),(S,B)]) hd
    have nd:¬M d:=λz=>by
     let#[o,q]:=(r.step i j).dom d z;rw[hd]at q;cases q
    exact l nm C U [Q,S] W [y,B] (P3 d) _ x (i.trans g.ext) (j.grow g) h (.inr #[d,rfl,nd,Ah]) c.symm (m.pres g.pres) p
def Gy{R:XK}{j:Fm->Prop}{b:PX}{k:w_ (Db×Db)}{l m:Db->Prop}{o:Hp}{w:Ya}(hx:JA (Vr X.prog X.w) X R)(q:LiftX X.K k l m o b R)(c:∀C,j C->C.F=k/\C.U=l/\C.M0=m/\C.H0=o)(h:gA X κ st w):dR j X κ st (λg=>w g b):=by
 let#[t,s,u]:=h;refine#[_,Uu hx s,λC M H n x Z g E y r L w=>?_];let#[rfl,rfl,rfl,rfl]:=c C y;refine u C M H n x Z g E R b r L (λnm A B ks D G I i J e f N xd O P p=>?_) w;have a:Pres M i _ i:=Pres.less r.sub;refine q nm A B ks D G I i J (r.ext.trans e) (f.pres a λ_ _ _ z=>z) N ?_ O (P.pres a) p
 rcases xd with z|⟨d,Q,S,T⟩
 .exact .inl z
 .exact .inr #[d,Q,λz=>S^r.sub d z,T]
def iY(X:Cx)(e:jX)(κ:Kd)(w:Nat->v_ Slot->(D->Nat->Prop)->PX->Prop):Prop:=∃t,iD X e t/\∀(C:Fm) (M:Db->Prop) (H:Hp) (n:Nat) (b:v_ Slot) (Z:L2.St) (P:D->Nat->Prop) (Q:VK) (R:XK) (c:PX),Rel X.K C M H n b Z->LiftX X.K C.F C.U M H c R->w n b P c->
 (∀v a d f,Ext C.U H a->FeedC X.K C.F M a f->VR X.K C.V M H a κ v d->P d f->Q v a)->t R Z H Q
def dB(P:jM)(w:jT)(K:Frag)(c:Str->w_ Ev)(a:jI)(x:Str)(k:Nat)(b:v_ Str)(κ:Kd)(W:WX):Prop:=
 ∃f fd,CU P w K c a (Vr P w) k f fd b^gn K κ W b.length/\c x=P3^.ref f/\keepIn K^.ref f=t_/\Binds K fd b []/\∀d n P e,W d n P e->d.length=b.length
def V9(W:WX)(was:Vx):Nat->v_ Slot->(D->Nat->Prop)->PX->Prop:=λn a P b=>was n a λc d=>W c d P b
def X5{m:v_ Str}{h:Kd}{W:WX}{x:Str}{was:Vx}(G:dB X.prog X.w X.K X.mg X.base x k m h W)(o:Room k X.A)(s:Gl X x)(u:aV X (e::es) was)
  (c:(x==("__debug__":Str))=u_:=by cbv) (y:starEach (e::es) X.env=(u_,eval e X.env)::starEach es X.env:=by rfl) (g:(backTo pos^starEach es X.env).any (·.1)=u_:=by rfl):
  iY X (.Call (.Name x p) (e::es) [] pos) h (V9 W was):=by
 let#[f,fd,G,z,B,D,E]:=G;let#[t,F,I]:=u;refine#[_,W7 G o s z B D F c y g,λC M H n J Z P Q R L r l w q=>?_];refine I C M H n J Z _ _ r w λvs H1 N O a i j p=>?_;have b:=r.step a i;exact#[(Paired.length j).trans^E _ _ _ _ p,_,_,_,M,O,N,P,L,#[b.dom,b.fU,b.uV,b.vM,i,j],p,λv H2 d S T U V Y=>q v H2 d S (a.trans T) U (VR.back a V) Y,l.step a]
abbrev dE:=E2->Str->v_ Str->v_ D->Nat->v_ Slot->Prop
def DH(X:Cx)(κ:Kd)(g:v_ nJ)(w:dE):Prop:=∃t,PH X g t/\∀(C:Fm) (M:Db->Prop) (H:Hp) (n:Nat) (b:v_ Slot) (Z:L2.St) (c:E2) (E:Ends) (nm:Str) (d h:Db) (ks:v_ Str) (a:v_ D) (e:v_ V) (f:w_ Db),
 Rel X.K C M H n b Z->IC X.K C κ c E->XC X.K nm d h->iQ M H f ks e->ks.length=a.length->Ats X.K M H a e->w c nm ks a n b->t E d f Z H
def dU(c:Ya)(d:dE):Ac:=λa n b=>c a (λnm ks e f=>d a nm ks e f b) n b
def cN{a:v_ jP}{b:nJ}{c:v_ nJ}{h:Ya}{i:dE}(d:X.stack=X.env::X.outer)(g:X.env.frame=P3 X.env.locals)(hx:∀e s,X.xe e s->False)(m:YV X κ a h)(o:DH X κ (b::c) i):
  DS X κ (.Try a (b::c) [] [] pos) (dU h i):=by
 let#[t,q,u]:=m;let#[K,x,y]:=o;exact#[_,bS d g hx q x,λC M H n j Z k E r L w=>u C M H n j Z k E _ _ r L (λnm l z ks A B D F G e f I xd J c p=>#[l,rfl,y C M F G j Z k E nm l z ks A B D (r.step e f) L I xd J c p]) w]
def V7:dE:=λ_ _ _ _ _ _=>False
def cR:DH X κ [] V7:=#[_,bW,λ_ _ _ _ _ _ _ _ _ _ _ _ _ _ _ _ _ _ _ _ _ w=>w.elim]
def V8(e:Str)(i:Nat)(h:Db->Ac)(j:dE):dE:=λb nm ks f n g=>if nm=e\/e="ThinError" then ∀a,h a {nx:=λc d=>b.nx c^d.set i .no,rt:=b.rt,bk:=λc d=>b.bk c^d.set i .no,ct:=λc d=>b.ct c^d.set i .no} n^g.set i^.ex a nm ks f else j b nm ks f n g
def Zl{i:Nat}{f y:Str}{h:jP}{b:v_ jP}{x:v_ nJ}{J:Db}{O:Db->Ac}{Y:dE}{np:Pos}(hN:X.N.Nodup)(hi:X.N[i]?=P3 y)(hl:X.env.scope.names.lookup y=P3 .local)(hg:Gl X f)(hm:X.mg f=P3^.ref J)(hK:nsIn X.K mainGlobals f=P3^P3^.ref J)
  (P:f="ThinError"/\dQ X.K J\/f ≠ "ThinError"/\∃U,XC X.K f J U) (Q:X.stack=X.env::X.outer) (R:X.env.frame=P3 X.env.locals)
  (S:∀a,RH (X.hush^X.A.mark^P3^.ref a) κ (h::b)^O a) (hr:DH X κ x Y) (hd:(f==("__debug__":Str))=u_:=by cbv):
  DH X κ (.ExceptHandler (P3^.Name f np) (P3 y) (h::b) pos::x) (V8 f i O Y):=by
 let#[th,b1,b2]:=hr;have T:∀a,∃t,PSs (X.hush^X.A.mark^P3^.ref a) (h::b) t/\∀(C:Fm) (M:Db->Prop) (H:Hp) (n:Nat) (B:v_ Slot) (Z:L2.St) (k:E2) (E:Ends),Rel X.K C M H n B Z->IC X.K C κ k E->O a k n B->t E Z H:=S;refine#[_,Y8 (ts:=λa=>(T a).choose) hN hi hl hg hm (P.elim (λz=>z.2) fun#[_,U,c]=>c.isX) Q R (λa=>(T a).choose_spec.1) b1 hd,λC M H n B Z k E nm Cc V ks ds vs dx r L m xd D x w=>#[nm,V,m,?_]];unfold V8 at w
 by_cases e:nm=f\/f="ThinError"
 .rw [if_pos e]at w
  refine .inl #[?_,λa u fa xt=>?_]
  .rcases P with⟨z,_⟩|⟨z,U,c⟩
   .subst z
    have q:=m.atU.symm.trans hK;cases q;exact .inr rfl
   .rcases e with e|e
    .subst e
     have q:=m.at_.symm.trans hK;cases q;exact .inl rfl
    .exact absurd e z
  .have g:Grow H^A4 H a u:=A1 fa
   have r1:=r.step (g.ext)^r.feed.grow g;have na:¬M a:=λz=>by let#[o,q]:=r.dom a z;rw[fa]at q;cases q
   have nd:∀{d:Db}{o:HO},H d=P3 o->A4 H a u d=P3 o:=λ{d o} q=>g.all d o q;refine(T a).choose_spec.2 C M (A4 H a u) n (B.set i^.ex a nm ks ds) _ {nx:=λj l=>k.nx j^l.set i .no,rt:=k.rt,bk:=λj l=>k.bk j^l.set i .no,ct:=λj l=>k.ct j^l.set i .no} _ (r1.setS rfl (λ_ z=>by cases z) #[rfl,Cc,V,dx,u,vs,m,#[na,Ah],xt,?_,D,x.pres g.pres]) #[λF G j l zZ I q=>?_,L.rt,λF G j l zZ I q=>?_,λF G j l zZ I q=>?_]^w a
   .rcases xd with z|⟨d,W,n1,h1⟩
    .exact .inl z
    .exact .inr #[d,W,n1,nd h1]
   .exact L.nx F G j _ _ (I.setS (s:=.no) rfl (λ_ z=>by cases z) trivial) q
   .exact L.bk F G j _ _ (I.setS (s:=.no) rfl (λ_ z=>by cases z) trivial) q
   .exact L.ct F G j _ _ (I.setS (s:=.no) rfl (λ_ z=>by cases z) trivial) q
 .rw[if_neg e]at w
  have W:nm≠f:=λz=>e^.inl z;have e2:f ≠ "ThinError":=λz=>e^.inr z
  rcases P with⟨z,_⟩|⟨_,U,c⟩
  .exact absurd z e2
  .refine .inr #[λz=>?_,λz=>?_,b2 C M H n B Z k E nm Cc V ks ds vs dx r L m xd D x w]
   .subst z
    exact W^m.name c
   .subst z
    exact e2^m.nameU c
end
end Dp
namespace L2
def HX(A:jY)(H:Hp):Prop:=∃a C b u,A.handled=P3^.ref a/\H a=P3 u/\XT C b a u
structure iR (P:jM) (w:jT) (K:Frag) (tg:jX) (J:It) (fp:List Db) (it:Db) (tn:Nat->jI->Prop):Prop where
 mem:it∈fp
 obj:∀i h,tn i h->∀b∈fp,∃o,h.get? b=P3 o/\∀v,o.data≠.cell v
 keep:∀i h h',tn i h->(∀b∈fp,∀o,h.get? b=P3 o->h'.get? b=P3 o)->tn i h'
 item:∀(X:Cx),X.prog=P->X.w=w->X.K=K->HX X.A X.H₀->∀(i:Nat) (zG:List (Db×Obj)) (s:Go) (Z:St) (H:Hp) (E:Ev->Go->Prop),Inv X zG Z H s->(∀b∈fp,Fx X zG H b)->tn i s.heap->J.go i H->
  wpAny (model P w) X.A (pyNext^.ref it) (λr s1=>∃u,r=P3 u /\
   wpAny (model P w) X.A (letOwnedTupleGo tg (.ref it) u) (λ_ s2=>∃x H',Inv X zG Z H' s2/\RelV x u/\J.yld i H x H'/\tn (i+1) s2.heap/\∀b∈fp,H' b=s_) E s1) E s
 done:∀(X:Cx),X.prog=P->X.w=w->X.K=K->HX X.A X.H₀->∀(i:Nat) (zG:List (Db×Obj)) (s:Go) (Z:St) (H:Hp) (E:Ev->Go->Prop),Inv X zG Z H s->(∀b∈fp,Fx X zG H b)->tn i s.heap->J.stop i H->
  wpAny (model P w) X.A (pyNext^.ref it) (λr s1=>r=s_/\Inv X zG Z H s1) E s
 self:∀(A:jY) (i:Nat) (s:Go) (Q:Ev->Go->Prop) (E:Ev->Go->Prop),tn i s.heap->Q (.ref it) s->wpAny (model P w) A (pyIter^.ref it) Q E s
end L2
namespace Dp
open L2
end Dp
namespace L2
structure RoomH (k:Nat) (A:jY):Prop where
 dp:A.depth+3*k+5<recursionLimit
 un:A.units+16*k+200<cLine
 gd:A.guards=P3 []
def RoomH.mono{j k:Nat}{A:jY}(r:RoomH k A)(h:j<=k):RoomH j A:=#[by have:=r.dp;lk,by have:=r.un;lk,r.gd]
def RoomH.room{k:Nat}{A:jY}(r:RoomH k A):Room k {A with handled:=s_}:=#[rfl,r.dp,r.un,r.gd]
def Room.held{k:Nat}{A:jY}(r:Room k A)(e:w_ Ev):RoomH k^A.mark e:=#[r.dp,r.un,r.gd]
def RoomH.deeper{k:Nat}{A:jY}(r:RoomH (k+1) A)(a:Env):RoomH k^A.deeper a:=let q:=r.room.deeper a;#[q.dp,q.un,q.gd]
structure RF (P:jM) (w:jT) (K:Frag) (mg:Str->Option Ev) (base:jI) (k:Nat) (f:Db) (fd:jp) (ps:List Str) (sp:Sp):Prop where
 len:∀vs H Q E,sp vs H Q E->vs.length=ps.length
 run:∀(A:jY) (outer:List Env) (s:Go) (H:Hp) (args:Args) (us:List Ev) (vs:List V) (Q:VK) (E:XK),RoomH k A->HX A H->Env0 P w K mg base A outer s H->oj s fd args^ps.zip us->Vals vs us->sp vs H Q E->
  codeAny (model P w) A (.call (.ref f) args) (CR Fy outer P w H s Q E) s
def Fun.okH{P:jM}{w:jT}{K:Frag}{B:Str->w_ Ev}{g:jI}{x a:Str}{st:jP}{f:Db}{fd:jp}{N G:v_ Str}{k:Nat}{M:Sp}(F:Fun K x a st f fd)(S:Ab N G^AK st)(len:∀j H Q E,M j H Q E->j.length=G.length)
  (m:∀(d:Ev) (A:jY) (c:v_ Env) (s:Go) (H:Hp) (j:v_ V) (Q:VK) (E:XK),RoomH k^A.deeper^envOfC a (AK st) s.heap.objs.size f d->HX A H->M j H Q E->
   ∃t,PSs ((EG Fy P w K B g N a (AK st) f d A c s H E).hush^A.deeper^envOfC a (AK st) s.heap.objs.size f d) (Bc st) t/\t {nx:=λ_ l=>Q .non l,rt:=Q} (start N j) H):RF P w K B g (k+1) f fd G M:=by
 let#[oc,od,kV,a0,pm,an,d,ct,a1,rfl,lk,O]:=F.ex;refine#[len,λA c s H Y us j Q E Z hx i hb r C=>?_];have hl:=len _ _ _ _ C;have KX:K.In s.heap:=i.mod.kin.keeps λb o e=>(i.bs b o e).1;have R:s.heap.NoLimit:=i.mod.nolimit.keeps λb o e=>(i.bs b o e).1
 have p:∀y∈G.zip us,(AK st).names.lookup y.1=P3 .local\/((AK st).names.lookup y.1=P3 .cell/\((cellsFrom (s.heap.objs.size+1) (AK st).names []).lookup y.1).isSome=t_):=fun#[n,v] hy=>by
  rcases S.par n (nO hy).1 with q|q
  .exact .inl q
  .exact .inr #[q,PySem.W.cellsFrom_some _ _ _^.inl q]
 refine codeAny_call_function Z.room.depth (KX _ _ lk) rfl S.co S.gen rfl (PySem.W.codeRec_of KX O) (hb _ _ _ _ ?_);refine o8 S.kind p λa2 he T x1=>?_;subst he;refine#[R.keeps x1.toInCall.keep,codeAny_func ?_];let#[t,ht,hq]:=m d A c s H j Q E (Z.deeper _) hx C;have I0:Inv (EG Fy P w K B g N a (AK st) f d {A with handled:=s_} c s H E) [] (start N j) H T:=NR S rfl #[i.frames,i.mod,i.bs,i.bsz,i.funs,i.frf,i.hok,i.bare] hl r x1;have I:Inv ((EG Fy P w K B g N a (AK st) f d A c s H E).hush^A.deeper^envOfC a (AK st) s.heap.objs.size f d) [] (start N j) H T:=I0.hush (A:=A.deeper^envOfC a (AK st) s.heap.objs.size f d)^qD i.frames;refine jh (ht [] T (start N j) H _ I hq) (λfl U z=>?_) λe U z=>jt z
 have D:∀{L:St}{l:Hp}{v:V}{u:Ev},Inv ((EG Fy P w K B g N a (AK st) f d A c s H E).hush^A.deeper^envOfC a (AK st) s.heap.objs.size f d) [] L l U->RelV v u->Q v l->CE c P w H s Q u U:=
  λ{L l v u} J X q=>#[v,l,J.os,J.bare,J.base,J.hok,X,q]
 cases fl with
 |ret u=>
  let#[v,L,l,J,X,q]:=z;exact D J X q
 |next=>
  let#[L,l,J,q]:=z;exact D (v:=V.non) (u:=jd) J rfl q
 |brk=>
  let#[_,_,_,q]:=z;exact jt q
 |cont=>
  let#[_,_,_,q]:=z;exact jt q
section
variable {X:Cx}{k:Nat}{f:Addr}{fd:FuncData}{ps:v_ Str}{sp:Sp}{x:Str}{p pos:Pos}{e:Expr}{es:v_ Expr}{t:TA}
def bA(A:jY)(sp:Sp)(t:TA):TE:=λZ H Q=>t Z H λb a=>HX A a/\sp b a Q E0
def XA(F:RF X.prog X.w X.K X.mg X.base k f fd ps sp)(l:RoomH k X.A)(m:Gl X x)(n:X.mg x=P3^.ref f)(o:keepIn X.K^.ref f=t_)(v:Binds X.K fd ps [])
  (y:PA X (e::es) t) (d:(x==("__debug__":Str))=u_:=by cbv) (z:starEach (e::es) X.env=(u_,eval e X.env)::starEach es X.env:=by rfl) (g:(backTo pos^starEach es X.env).any (·.1)=u_:=by rfl):
  PE X (.Call (.Name x p) (e::es) [] pos) (bA X.A sp t):=by
 intro B s Z H Q I h;refine jq^D7 I m n ?_ d;refine PySem.W.callWith_K (h₀:=X.base) I.ok.mod.kin o (thn (y pos B s Z H _ I h) λa i #[j,C,c,r,D,q]=>#[c.kIn,?_]) z g;have E:(a++[]).length=ps.length:=by rw[jZ,←r.length];exact F.len _ _ _ _ q
 have G:Vals j (a++[]):=by grind
 refine lU^mQ (F.run X.A X.stack i C #[a,[]] (a++[]) j Q E0 l D c.env0 (v i a c.kIn E) G q) λr L b=>?_;cases r with
 |error e=>exact jt b
 |ok J=>
  cases J with
  |ret u=>exact c.after b
  |next=>exact jt b
  |brk=>exact jt b
  |cont=>exact jt b
end
end L2
namespace Dp
open L2
section
variable {X:Cx}{e:Expr}{es:v_ Expr}{p p1 p2 pos:Pos}{i:Nat}{x f nm:Str}{κ:Kd}
def WB(i:Nat):Nat->v_ Slot->(Slot->Nat->Prop)->Prop:=λn b P=>match b[i]? with
 |some (.ex a nm c d)=>P (.ex a nm c d) n
 |_=>False
def fc(i:Nat){x:Str}{pos:Pos}(d:X.N[i]?=P3 x:=by rfl)(e:Vw X.env.scope x:=by first|exact TW rfl|exact jy (TW rfl)|exact jy (jy rfl))(b:(x==("__debug__":Str))=u_:=by cbv)
  (c:(x==("__classdict__":Str))=u_:=by cbv):gB X (.Name x pos)^WB i:=by
 refine#[_,FJ d e b c,λC M H n l Z P Q R w q=>?_];unfold WB at w
 split at w
 .rename_i a nm g h b
  let#[j,k]:=R.sl i _ b;exact#[_,getD_some j,q _ H (.ex a nm g h) n (Ext.refl _ _) R.feed #[#[rfl,k],rfl] w]
 grind
def gC(i:Nat)(f:Str):DW:=λn a P=>match a[i]? with
 |some (.ex _ _ b c)=>∃d,(b.zip c).lookup f=P3 d/\P d n
 |_=>False
theorem KL{K:Frag}{M:Db->Prop}{H:Hp}{f:Str}{d:D}:∀{b:v_ Str}{c:v_ D}{a:v_ V},Ats K M H c a->(b.zip c).lookup f=P3 d->∃v,(b.zip a).lookup f=P3 v/\At K M H d v
 |[],c,a,h,e=>by simp at e
 |k::b,[],a,h,e=>by simp at e
 |k::b,j::c,a,h,e=>by
  let#[v,r,rfl,l,g]:=h;rw[nS,lj]at e ⊢
  split at e
  .grind
  .exact KL g e
def aP(j:f∈(["word","number","row"]:v_ Str))(o:X.N[i]?=P3 x:=by rfl)(c:Vw X.env.scope x:=by first|exact TW rfl|exact jy (TW rfl)|exact jy (jy rfl))(e:(x==("__debug__":Str))=u_:=by cbv)
  (g:(x==("__classdict__":Str))=u_:=by cbv) (r:attributeBase (.Name x p) f X.env^eval (.Name x p) X.env=eval (.Name x p) X.env:=by rfl):DE X (.Attribute (.Name x p) f pos) .sh^gC i f:=by
 refine#[_,e8 (FJ o c e g) r,λC M H n E Z P Q R w q=>?_];unfold gC at w
 split at w
 .rename_i a nm F G e
  let#[d,l,w]:=w;let#[s,k,U,I,u,J,b,#[m,t],y,z,L,A]:=R.sl i _ e
  rcases z with⟨_,rfl,_⟩|⟨B,rfl,O,h⟩
  .simp at l
  .let#[v,D,c]:=KL A l
   have m:G3 X.K k f:=by
    simp only[UF,jO,or_false]at j
    rcases j with rfl|rfl|rfl
    .exact b.nw
    .exact b.nn
    .exact b.nr
   exact#[.ref a,getD_some s,a,k,U,B,u,nm,_,v,rfl,t,y,h,b,m,D,q v H d n (Ext.refl _ _) R.feed c w]
 .exact w.elim
def Nl(i:Nat)(a:Str):DW:=λn b P=>match b[i]? with
 |some (.ex _ nm _ _)=>P (.bl (decide (nm=a))) n
 |_=>False
def V4(i:Nat):DW:=λn a P=>match a[i]? with
 |some (.ex _ _ _ _)=>P (.bl t_) n
 |_=>False
def G0{b:Str}{D U:Db}(t:b ≠ "ThinError")(xd:XC X.K b D U)(c:Gl X b)(e:X.mg b=P3^.ref D)(y:Gl X "isinstance")(A:X.mg "isinstance"=s_)(B:X.N[i]?=P3 x:=by rfl)(E:Vw X.env.scope x:=by first|exact TW rfl|exact jy (TW rfl)|exact jy (jy rfl))(g:(x==("__debug__":Str))=u_:=by cbv)
  (h:(x==("__classdict__":Str))=u_:=by cbv) (j:(b==("__debug__":Str))=u_:=by cbv) (o:starEach [.Name x p1,.Name b p2] X.env=(u_,eval (.Name x p1) X.env)::starEach [.Name b p2] X.env:=by rfl) (k:starEach [.Name b p2] X.env=[(u_,eval (.Name b p2) X.env)]:=by rfl) (l:(backTo pos^starEach [.Name b p2] X.env).any (·.1)=u_:=by rfl):
  DE X (.Call (.Name "isinstance" p) [.Name x p1,.Name b p2] [] pos) .sh (Nl i b):=by
 refine#[_,EN Ql y A (by decide +kernel) (BZ (FJ B E g h) (BZ (Y9 (v:=.ref D) c e rfl j) CJ k) o) (by cbv) (by cbv) o l,λC M H n T Z P Q R w q=>?_];unfold Nl at w
 split at w
 .rename_i a nm V W g
  let#[F,G,I,J,u,Y,r,#[na,L],O,S,hl,hs]:=R.sl i _ g;refine#[.ref a,getD_some F,a,G,I,J,u,nm,.ref D,"",_,rfl,L,O,λd s=>?_,r,.inr #[D,rfl,r.kit xd t],q _ H (.bl _) n (Ext.refl _ _) R.feed rfl w]
  rcases S with⟨z,_⟩|⟨dd,z,_,m⟩
  .grind
  .rw[z]at s;cases s;exact#[_,m]
 grind
def Zn(c:Gl X "ValueError")(e:X.mg "ValueError"=s_)(r:Gl X "isinstance")(s:X.mg "isinstance"=s_)(t:X.N[i]?=P3 x:=by rfl)(y:Vw X.env.scope x:=by first|exact TW rfl|exact jy (TW rfl)|exact jy (jy rfl))(g:(x==("__debug__":Str))=u_:=by cbv)
  (h:(x==("__classdict__":Str))=u_:=by cbv) (m:starEach [.Name x p1,.Name "ValueError" p2] X.env=(u_,eval (.Name x p1) X.env)::starEach [.Name "ValueError" p2] X.env:=by rfl) (j:starEach [.Name "ValueError" p2] X.env=[(u_,eval (.Name "ValueError" p2) X.env)]:=by rfl) (k:(backTo pos^starEach [.Name "ValueError" p2] X.env).any (·.1)=u_:=by rfl):
  DE X (.Call (.Name "isinstance" p) [.Name x p1,.Name "ValueError" p2] [] pos) .sh (V4 i):=by
 refine#[_,EN Ql r s (by decide +kernel) (BZ (FJ t y g h) (BZ (Tf (v:=.ty "ValueError") c e PyProof.Rows.Boot.«ValueError» rfl) CJ j) m) (by cbv) (by cbv) m k,λC M H n J Z P Q R w q=>?_];unfold V4 at w
 split at w
 .rename_i a nm K L g
  let#[A,B,D,E,u,O,o,#[S,F],G,I,T,U]:=R.sl i _ g;refine#[.ref a,getD_some A,a,B,D,E,u,nm,.ty "ValueError","ValueError",t_,rfl,F,G,λd b=>?_,o,.inl #[rfl,o.kitV],q _ H (.bl _) n (Ext.refl _ _) R.feed rfl w]
  rcases I with⟨z,_⟩|⟨V,z,_,l⟩
  .rw[z]at b;cases b
  .rw[z]at b;cases b;exact#[_,l]
 .exact w.elim
def dC(P:jM)(w:jT)(K:Frag)(c:Str->w_ Ev)(a:jI)(x:Str)(k:Nat)(b:v_ Str)(κ:Kd)(W:W2):Prop:=
 ∃f fd,RF P w K c a k f fd b^Vt K κ W b.length/\c x=P3^.ref f/\keepIn K^.ref f=t_/\Binds K fd b []/\∀d n P,W d n P->d.length=b.length
def V_(a:Db)(i:Nat)(W:W2)(b:Vx):DW:=λn c P=>(∃nm d e,c[i]?=P3^.ex a nm d e)/\b n c λg h=>W g h P
def X9{a:Db}(i:Nat){k:Nat}{r:v_ Str}{W:W2}{b:Vx}(s:X.A.handled=P3^.ref a)(G:dC X.prog X.w X.K X.mg X.base x k r κ W)(y:RoomH k X.A)(z:Gl X x)(g:aV X (e::es) b)
  (h:(x==("__debug__":Str))=u_:=by cbv) (B:starEach (e::es) X.env=(u_,eval e X.env)::starEach es X.env:=by rfl) (j:(backTo pos^starEach es X.env).any (·.1)=u_:=by rfl):
  DE X (.Call (.Name x p) (e::es) [] pos) κ (V_ a i W b):=by
 let#[f,fd,G,D,E,I,J]:=G;let#[t,L,N]:=g;refine#[_,XA G y z D E I L h B j,λC M H n O Z P Q R w q=>?_];let#[#[nm,ks,ds,S],w]:=w;refine N C M H n O Z _ _ R w λvs H1 T Y l m o p=>?_;have c:=R.step l m;let#[ea,Cc,U',dx,u,a0,xc,#[na,g],xt,_]:=c.sl i _ S;refine#[#[a,Cc,dx,u,s,g,xt],(Paired.length o).trans^J _ _ _ p,C.F,C.U,C.V,M,Y,T,P,#[c.dom,c.fU,c.uV,c.vM,m,o],p,λv H2 d n2 e2 f2 r2 p2=>?_];exact q v H2 d n2 (l.trans e2) f2 (VR.back l r2) p2
end
def hU{P:jM}{w:jT}{K:Frag}{u:Str->w_ Ev}{e:jI}{x b:Str}{st:jP}{f:Db}{fd:jp}{N g:v_ Str}{k:Nat}{l:Kd}{W:W2}{y:Ac}(F:Fun K x b st f fd)(S:Ab N g^AK st)(D:g.length<=N.length)
  (G:∀(c:Ev) (A:jY) (a:v_ Env) (s:Go) (H:Hp) (E:XK),RoomH k^A.deeper^envOfC b (AK st) s.heap.objs.size f c->HX A H->RH ((EG Fy P w K u e N b (AK st) f c A a s H E).hush^A.deeper^envOfC b (AK st) s.heap.objs.size f c) l (Bc st) y)
  (hW:∀j n i,j.length=g.length->W j n i->y {nx:=λn _=>l=.sh/\i .non n,rt:=i} n (j++T0 (N.length - g.length) .no)):
  RF P w K u e (k+1) f fd g (Vt K l W g.length):=by
 refine F.okH S (λB H Q E h=>h.1) λc A a s H B Q E I J h=>?_;let#[hl,L,U,O,M,n,j,i,C,hw,q]:=h;let#[t,T,V]:=G c A a s H E I J;exists t,T;have el:B.length=j.length:=Paired.length C.2.2.2.2.2;have R:=IS (N:=N) C (by lk);refine V #[M,L,U,O,H,[],[]] M H n _ _ {nx:=λn _=>l=.sh/\i .non n,rt:=i} _ R #[λM1 m o zS zK r p=>?_,λv m d o X Y Z p=>q v m d o X Y Z p,λ_ _ _ _ _ _ z=>z.elim,λ_ _ _ _ _ _ z=>z.elim] ?_
 .let#[hk,p]:=p
  subst hk;exact q .non m .non o r.ext (r.feed.pres (Pres.less r.sub) λ_ _ _ z=>z) rfl p
 grind
def fnX{P:jM}{w:jT}{K:Frag}{G:Str->w_ Ev}{e:jI}{x a:Str}{st:jP}{f:Db}{fd:jp}{N i:v_ Str}{k:Nat}{m:Kd}{W:WX}{wb:PX->Ac}(F:Fun K x a st f fd)(S:Ab N i^AK st)(J:i.length<=N.length)
  (L:∀(c:Ev) (A:jY) (b:v_ Env) (s:Go) (H:Hp) (E:XK) (g:PX) (o:w_ (Db×Db)) (U M:Db->Prop),LiftX K o U M H g E->Room k^A.deeper^envOfC a (AK st) s.heap.objs.size f c->
   RG (λC=>C.F=o/\C.U=U/\C.M0=M/\C.H0=H) (EG (Vr P w) P w K G e N a (AK st) f c A b s H E) m (Bc st) (wb g))
  (hW:∀r n j g,r.length=i.length->W r n j g->wb g {nx:=λn _=>m=.sh/\j .non n,rt:=j} n (r++T0 (N.length - i.length) .no)):
  CU P w K G e (Vr P w) (k+1) f fd i (gn K m W i.length):=by
 let#[oc,od,kV,O,pm,an,c,ct,T,rfl,V,u]:=F.ex;refine aI V u S (λX H Q E h=>h.1) λA b s H X Q E Y h=>?_;let#[hl,o,U,V',M,n,r,j,g,I,hw,q,l]:=h;let#[t,Z,t2]:=L c A _ s H E g o U M l Y;exists t,Z;have el:=Paired.length I.2.2.2.2.2;have R:=IS (N:=N) I (by lk);refine t2 _ M H n _ _ {nx:=λn _=>m=.sh/\j .non n,rt:=j} _ #[rfl,rfl,rfl,rfl] R #[λM1 y B zS zK D p=>?_,λv y d B e1 f1 r1 p=>q v y d B e1 f1 r1 p,λ_ _ _ _ _ _ z=>z.elim,λ_ _ _ _ _ _ z=>z.elim] ?_
 .let#[hk,p]:=p
  subst hk;exact q .non y .non B D.ext (D.feed.pres (Pres.less D.sub) λ_ _ _ z=>z) rfl p
 grind
end Dp
namespace So
open PySem.W
section
variable {O:KeyOrd}{key:Nat->O.α}{N:Nat}{cmp:Nat->Nat->(Bool->Shared->Prop)->Shared->Prop}{s:Shared}{p p0:Array Nat}
def KN(O:KeyOrd)(key:Nat->O.α)(p:Array Nat)(i:Nat):O.α:=key^p.getD i 0
def Srt(O:KeyOrd)(key:Nat->O.α)(p:Array Nat)(k:Nat):Prop:=∀i j,i<=j->j<k->O.kle (KN O key p i)^KN O key p j
def f6(O:KeyOrd)(key:Nat->O.α)(p:Array Nat)(k:Nat):Prop:=∀i j,i<=j->j<k->O.kle (KN O key p j)^KN O key p i
def aZ(O:KeyOrd)(key:Nat->O.α)(N:Nat)(cmp:Nat->Nat->(Bool->Go->Prop)->Go->Prop)(s:Go):Prop:=∀(i j:Nat) (C:Bool->Go->Prop),i<N->j<N->C (O.blt (key i)^key j) s->cmp i j C s
def Bd(N:Nat)(p:Array Nat):Prop:=0<N/\∀x∈p,x<N
def ZY(p:Array Nat)(i:Nat):p.getD i 0=(p[i]?).getD 0:=by
 simp
def Bd.get(h:Bd N p)(i:Nat):p.getD i 0<N:=by
 rw[ZY];cases e:p[i]? with
 |none=>exact h.1
 |some x=>exact h.2 x^Array.mem_of_getElem? e
def Bd.perm{a:Array Nat}(h:Bd N p)(b:a.Perm p):Bd N a:=#[h.1,λx c=>h.2 x^b.mem_iff.mp c]
def Fw{p q:Array Nat}{i j:Nat}(h:p[i]?=q[j]?):KN O key p i=KN O key q j:=by
 unfold KN
 simp_all
def Ni{a d:Nat}(f:a<p.size)(hd:d<=a)(k:Nat):
  KN O key (bubble p a d) k=if k=a - d then KN O key p a else if a - d<k/\k<=a then KN O key p (k - 1)else KN O key p k:=by
 have e:=getElem?_bubble f d hd k
 by_cases b:k=a - d
 .rw[if_pos b]at e ⊢;exact Fw e
 .rw[if_neg b]at e ⊢
  by_cases c:a - d<k/\k<=a
  .rw[if_pos c]at e ⊢;exact Fw e
  .rw[if_neg c]at e ⊢;exact Fw e
def JB{i j:Nat}(b:j<=p.size)(k:Nat):KN O key (kas_rev p i j) k=if i<=k/\k<j then KN O key p (i+j - 1 - k)else KN O key p k:=by
 have e:=getElem?_mirror_all (i:=i) b k
 by_cases a:i<=k/\k<j
 .rw[if_pos a]at e ⊢;exact Fw e
 .rw[if_neg a]at e ⊢;exact Fw e
def B4{i j:Nat}(a:j<=p.size)(b:∀k,i<=k->k<j->KN O key p k=KN O key p (j - 1))(k:Nat):KN O key (kas_rev p i j) k=KN O key p k:=by
 rw[JB a]
 grind
def CZ(p:Array Nat)(i j:Nat):(kas_rev p i j).Perm p:=mirror_perm _ _ _ _
def yes{c:Type}{a b:KasT c}{Q:c->Go->Prop}(h:a.kasWp cmp Q s):(if t_=t_ then a else b).kasWp cmp Q s:=by grind
def no{c:Type}{b a:KasT c}{Q:c->Go->Prop}(h:a.kasWp cmp Q s):(if u_=t_ then b else a).kasWp cmp Q s:=by grind
theorem Se(q:aZ O key N cmp s)(d:Bd N p){nrem:Nat}{G:Nat->Go->Prop}:∀(f n:Nat),1<=n->n+f=nrem->Srt O key p n->
  (∀m,n<=m->m<=nrem->Srt O key p m->(m=nrem\/O.klt (KN O key p m)^KN O key p (m - 1))->G m s)->(kas_asc p f n).kasWp cmp G s
 |0,n,_,e,b,h=>h n (Op _) (by lk) b^.inl^by lk
 | f+1,n,w,e,b,h=>by
  show cmp (p.getD n 0) (p.getD (n - 1) 0) (λc r=>(if c=t_ then KasT.ret n else kas_asc p f (n+1)).kasWp cmp G r) s;refine q _ _ _ (d.get n) (d.get _) ?_;cases a:O.blt (key^p.getD n 0)^key^p.getD (n - 1) 0 with
  |true=>exact yes^h n (Op _) (by lk) b^.inr a
  | false=>
   refine no^Se q d f (n+1) (by lk) (by lk) (λi j g x=>?_) λm y t u v=>h m (by lk) t u v
   by_cases k:j<n
   .exact b i j g k
   .have l:j=n:=by lk
    subst l
    by_cases o:i=j
    .subst o;exact lB _
    .exact oE (b i (j - 1) (by lk)^by lk) a
theorem J_(D:aZ O key N cmp s){l:Nat}{G:Array Nat×Nat×Nat->Go->Prop}:∀(f:Nat) (p:Array Nat) (n q:Nat),p.Perm p0->Bd N p->l<=p.size->1<=n->n+f=l->f6 O key p n->q+1<=n->
  (∀i,n - (q+1)<=i->i<n->KN O key p i=KN O key p (n - 1))->
  (∀g m v,g.Perm p0->Bd N g->g.size=p.size->n<=m->m<=l->f6 O key g m->v+1<=m->(∀i,m - (v+1)<=i->i<m->KN O key g i=KN O key g (m - 1))->G (g,m,v) s)->(kas_desc f p n q).kasWp cmp G s
 |0,p,n,q,C,u,Q,Y,e,x,R,E,h=>h p n q C u rfl (Op _) (by lk) x R E
 | f+1,p,n,q,C,u,Q,Y,e,x,R,E,h=>by
  show cmp (p.getD n 0) (p.getD (n - 1) 0) (λc S=>(if c=t_ then(if q > 0 then kas_desc f (kas_rev p (n - (q+1)) n) (n+1) 0 else kas_desc f p (n+1) 0)
   else .ask (p.getD (n - 1) 0) (p.getD n 0) λd=>if d=t_ then .ret (p,n,q)else kas_desc f p (n+1) (q+1)).kasWp cmp G S) s
  refine D _ _ _ (u.get n) (u.get _) ?_;cases o:O.blt (key^p.getD n 0)^key^p.getD (n - 1) 0 with
  | true=>
   have Z:O.klt (KN O key p n)^KN O key p (n - 1):=o
   have r:∀T:Array Nat,(∀k,KN O key T k=KN O key p k)->f6 O key T (n+1):=by
    intro T W i j y hj;rw[W,W]
    by_cases z:j<n
    .exact x i j y z
    .have A:j=n:=by lk
     subst A
     by_cases B:i=j
     .subst B;exact lB _
     .exact oE (nj Z)^x i (j - 1) (by lk)^by lk
   refine yes ?_;have U:n<=p.size:=by lk
   by_cases F:q > 0
   .rw[if_pos F]
    refine J_ D f _ (n+1) 0 ((CZ _ _ _).trans C) (u.perm^CZ _ _ _) (by rw[kas_rev_size];exact Q) (by lk) (by lk) (r _^B4 U E) (by lk) (λi a b=>by congr 1;lk) λg m v H I J X K L M P=>h g m v H I (J.trans^kas_rev_size _ _) (by lk) K L M P
   .rw[if_neg F]
    exact J_ D f _ (n+1) 0 C u Q (by lk) (by lk) (r _ λ_=>rfl) (by lk) (λi a b=>by congr 1;lk) λg m v H I J X K L M P=>h g m v H I J (by lk) K L M P
  | false=>
   refine no ?_;show cmp (p.getD (n - 1) 0) (p.getD n 0) (λd S=>(if d=t_ then KasT.ret (p,n,q)else kas_desc f p (n+1) (q+1)).kasWp cmp G S) s;refine D _ _ _ (u.get _) (u.get n) ?_;cases t:O.blt (key^p.getD (n - 1) 0)^key^p.getD n 0 with
   |true=>exact yes (h p n q C u rfl (Op _) (by lk) x R E)
   | false=>
    have w:KN O key p n=KN O key p (n - 1):=qL (O:=O) t o;refine no^J_ D f p (n+1) (q+1) C u Q (by lk) (by lk) (λi j y hj=>?_) (by lk) (λi a b=>?_) λg m v H I J X K L M P=>h g m v H I J (by lk) K L M P
    .by_cases z:j<n
     .exact x i j y z
     .have A:j=n:=by lk
      subst A
      by_cases B:i=j
      .subst B;exact lB _
      .rw[w];exact x i (j - 1) (by lk)^by lk
    .rw[show n+1 - 1=n by lk]
     by_cases V:i=n
     .subst V;rfl
     .rw[w];exact E i (by lk)^by lk
def Pj(e:aZ O key N cmp s){n a:Nat}{G:Nat×Array Nat->Go->Prop}(f:p.Perm p0)(d:Bd N p)(r:a<=p.size)(g:1<=n)(t:n<=a)(k:f6 O key p n)
  (h:∀m b,b.Perm p0->Bd N b->b.size=p.size->1<=m->m<=a->Srt O key b m->G (m,b) s):(kas_tail3 n a p).kasWp cmp G s:=by
 unfold kas_tail3;rw[KasT.kasWp_bind];have c:n<=p.size:=by lk
 refine Se e (d.perm^CZ _ _ _) _ n g (by lk) (λi j l u=>?_) λm v o q _=>h m _ ((CZ _ _ _).trans f) (d.perm^CZ _ _ _) (kas_rev_size _ _) (by lk) o q;rw[JB c,JB c,if_pos^by lk,if_pos^by lk];exact k _ _ (by lk)^by lk
def Jc(k:aZ O key N cmp s){n c:Nat}{G:Nat×Array Nat->Go->Prop}(E:p.Perm p0)(F:Bd N p)(H:c<=p.size)(K:n+1<=c)(I:f6 O key p (n+1))
  (h:∀m d,d.Perm p0->Bd N d->d.size=p.size->1<=m->m<=c->Srt O key d m->G (m,d) s):(kas_descPart n c p).kasWp cmp G s:=by
 unfold kas_descPart;rw[KasT.kasWp_bind];refine J_ (p0:=p0) k (c - (n+1)) p (n+1) 0 E F H (by lk) (by lk) I (by lk) (λi a b=>by grind) λd m l y z A L B C M D=>?_;have f:m<=d.size:=by lk
 show(if l > 0 then kas_tail3 m c^kas_rev d (m - (l+1)) m else kas_tail3 m c d).kasWp cmp G s
 by_cases g:l > 0
 .rw[if_pos g]
  refine Pj k ((CZ _ _ _).trans y) (z.perm^CZ _ _ _) (by rw[kas_rev_size];lk) (by lk) B (λi j o J=>?_) λq e r t u v w x=>h q e r t (u.trans^(kas_rev_size _ _).trans A) v w x;rw[B4 f D,B4 f D];exact C i j o J
 .rw[if_neg g]
  exact Pj k y z (by lk) (by lk) B C λq e r t u v w x=>h q e r t (u.trans A) v w x
def X_(y:aZ O key N cmp s){nrem:Nat}{G:Nat×Array Nat->Go->Prop}(z:p.Perm p0)(e:Bd N p)(H:nrem<=p.size)(W:1<=nrem)
  (h:∀m o,o.Perm p0->Bd N o->o.size=p.size->1<=m->m<=nrem->Srt O key o m->G (m,o) s):(kas_count nrem p).kasWp cmp G s:=by
 unfold kas_count;rw[KasT.kasWp_bind];refine Se (nrem:=nrem) y e (nrem - 1) 1 (Op _) (by lk) (λi j q I=>by have:i=j:=(by lk);subst this;exact lB _) λn r t b A=>?_
 by_cases f:n=nrem
 .rw[if_pos^by simpa using f]
  exact h n p z e rfl r t b
 .rw [if_neg^by simpa using f]
  have u:O.klt (KN O key p n)^KN O key p (n - 1):=A.resolve_left f
  by_cases v:n > 1
  .rw[if_pos v]
   show cmp (p.getD 0 0) (p.getD (n - 1) 0) (λc J=>(if c=t_ then KasT.ret (n,p)else kas_descPart n nrem^kas_rev p 0 n).kasWp cmp G J) s;refine y _ _ _ (e.get _) (e.get _) ?_;cases g:O.blt (key^p.getD 0 0)^key^p.getD (n - 1) 0 with
   |true=>exact yes (h n p z e rfl r t b)
   | false=>
    have d:O.kle (KN O key p (n - 1))^KN O key p 0:=g;have w:n<=p.size:=by lk
    have a:∀k,0<=k->k<n->KN O key p k=KN O key p (n - 1):=by
     intro k _ K;have L:=b 0 k (by lk) K;have M:=b k (n - 1) (by lk) (by lk);exact qL M^oE d L
    refine no^Jc y ((CZ _ _ _).trans z) (e.perm^CZ _ _ _) (by rw[kas_rev_size];exact H) (by lk) (λi j q I=>?_) λP B Q R S T U V=>h P B Q R (S.trans^kas_rev_size _ _) T U V;rw[B4 w a,B4 w a]
    by_cases C:j<n
    .rw[a i (by lk)^by lk,a j (by lk) C];exact lB _
    .have D:j=n:=by lk
     subst D
     by_cases l:i=j
     .subst l;exact lB _
     .rw[a i (by lk)^by lk];exact nj u
  .rw[if_neg v]
   have x:n=1:=by lk
   subst x;refine Jc y z e H (by lk) (λi j q I=>?_) h
   by_cases l:i=j
   .subst l;exact lB _
   .have E:i=0:=by lk
    have F:j=1:=by lk
    subst E;subst F
    exact nj u
theorem K_(m:aZ O key N cmp s)(g:Bd N p){k:Nat}(j:Srt O key p k){G:Nat->Go->Prop}
  (h:∀l,l<=k->(∀i,i<l->O.kle (KN O key p i)^KN O key p k)->(∀i,l<=i->i<k->O.klt (KN O key p k)^KN O key p i)->G l s):∀(f l r:Nat),l<=r->r<=k->r - l<=f->
  (∀i,i<l->O.kle (KN O key p i)^KN O key p k)->(∀i,r<=i->i<k->O.klt (KN O key p k)^KN O key p i)->(kas_place p k f l r).kasWp cmp G s
 |0,l,r,n,d,t,b,c=>by
  have:l=r:=by lk
  subst this;exact h l d b c
 | f+1,l,r,n,d,t,b,c=>by
  unfold kas_place
  by_cases e:l≥r
  .rw[if_pos e]
   have:l=r:=by lk
   subst this;exact h l d b c
  .rw[if_neg e]
   refine m _ _ _ (g.get _) (g.get _) ?_;cases a:O.blt (key^p.getD k 0)^key^p.getD ((l+r) / 2) 0 with
   |true=>
    have o:O.klt (KN O key p k)^KN O key p ((l+r) / 2):=a;exact yes^K_ m g j h f l ((l+r) / 2) (by lk) (by lk) (by lk) b λi q u=>KeyOrd.klt_of_klt_of_kle o^j _ _ q u
   |false=>
    have o:O.kle (KN O key p ((l+r) / 2))^KN O key p k:=a;exact no^K_ m g j h f ((l+r) / 2+1) r (by lk) (by lk) (by lk) (λi q=>oE (j i ((l+r) / 2) (by lk)^by lk) o) c
theorem Fc(y:aZ O key N cmp s){n:Nat}{G:Array Nat->Go->Prop}(h:∀r,r.Perm p0->Srt O key r n->G r s):∀(f:Nat) (p:Array Nat) (k:Nat),p.Perm p0->Bd N p->n<=p.size->k+f=n->Srt O key p k->(kas_bin f p k).kasWp cmp G s
 |0,p,k,t,u,z,e,d=>h p t^by rw[←e];exact d
 | f+1,p,k,t,u,z,e,d=>by
  rw[show kas_bin (f+1) p k=(kas_place p k k 0 k).bind λl=>kas_bin f (bubble p k (k - l)) (k+1)from rfl,KasT.kasWp_bind];refine K_ y u d (λl A v w=>?_) k 0 k (eq _) (Op _) (by lk) (λi B=>by lk) λi a b=>by lk
  have g:k<p.size:=by lk
  refine Fc y h f _ (k+1) ((bubble_perm _ _ _).trans t) (u.perm^bubble_perm _ _ _) (by rw[bubble_size];exact z) (by lk) λi j x C=>?_;rw[Ni g^by lk,Ni g^by lk,show k - (k - l)=l by lk]
  by_cases m:i=l
  .rw[if_pos m]
   by_cases c:j=l
   .rw[if_pos c];exact lB _
   .rw[if_neg c,if_pos^by lk]
    exact nj^w (j - 1) (by lk)^by lk
  .rw [if_neg m]
   by_cases o:l<i/\i<=k
   .rw[if_pos o,if_neg^by lk,if_pos^by lk]
    exact d (i - 1) (j - 1) (by lk)^by lk
   .rw[if_neg o]
    by_cases c:j=l
    .rw[if_pos c];exact v i^by lk
    .rw[if_neg c]
     by_cases q:l<j/\j<=k
     .rw[if_pos q]
      exact d i (j - 1) (by lk)^by lk
     .rw[if_neg q]
      exact d i j x^by lk
def sort_ok{n:Nat}(b:1<=n)(c:aZ O key n cmp s){G:Array Nat->Go->Prop}(h:∀p,p.Perm^jc^je n->Srt O key p n->G p s):(kas_sort n).kasWp cmp G s:=by
 unfold kas_sort;rw[KasT.kasWp_bind];have f:Bd n^jc^je n:=#[b,λx k=>by grind];have g:(jc^je n).size=n:=by simp
 refine X_ c (ph _) f (by lk) b λm d e i l o q j=>?_
 by_cases a:m<n
 .rw[if_pos a,show max m 1=m by lk]
  exact Fc c h _ d m e i (by lk) (by lk) j
 .rw[if_neg a]
  exact h d e^by grind
end
end So
namespace L2
open PySem.W
def bv:Key->Key->Bool
 |.inl i,.inl j=>decide (i<j)
 |.inr x,.inr y=>decide (x.cps.toList<y.cps.toList)
 |.inl _,.inr _=>t_
 |.inr _,.inl _=>u_
def Bw:v_ Key->v_ Key->Bool
 |[],[]=>u_
 |[],_::_=>t_
 |_::_,[]=>u_
 |x::a,y::b=>if x=y then Bw a b else bv x y
theorem SE:∀x:Key,bv x x=u_
 |.inl i=>decide_eq_false^Int.lt_irrefl i
 |.inr x=>decide_eq_false^mP _
theorem VE:∀x y z:Key,bv x y=t_->bv y z=t_->bv x z=t_
 |.inl i,.inl j,.inl k,a,b=>decide_eq_true^Int.lt_trans (of_decide_eq_true a)^of_decide_eq_true b
 |.inr i,.inr j,.inr k,a,b=>decide_eq_true^List.lt_trans (of_decide_eq_true a)^of_decide_eq_true b
 |.inl i,.inl j,.inr k,_,_=>rfl
 |.inl i,.inr j,.inr k,_,_=>rfl
 |.inl i,.inr j,.inl k,_,h=>by cases h
 |.inr i,.inl j,_,h,_=>by cases h
 |.inr i,.inr j,.inl k,_,h=>by cases h
theorem VF:∀x y:Key,bv x y=u_->bv y x=u_->x=y
 |.inl i,.inl j,c,d=>congrArg _^by have a:=of_decide_eq_false c;have b:=of_decide_eq_false d;lk
 |.inr x,.inr y,c,d=>by
  have e:=List.le_antisymm (of_decide_eq_false d)^of_decide_eq_false c;let#[u]:=x
  simp_all
 |.inl i,.inr j,h,_=>by cases h
 |.inr i,.inl j,_,h=>by cases h
theorem C9:∀x:v_ Key,Bw x x=u_
 |[]=>rfl
 |x::a=>by unfold Bw;rw[if_pos rfl];exact C9 a
theorem Cy:∀x y z:v_ Key,Bw x y=t_->Bw y z=t_->Bw x z=t_
 |[],[],_,h,_=>by cases h
 |[],_::_,[],_,h=>by cases h
 |[],_::_,_::_,_,_=>rfl
 |_::_,[],_,h,_=>by cases h
 |_::_,_::_,[],_,h=>by cases h
 | x::f,y::g,z::i,a,b=>by
  unfold Bw at a b ⊢
  by_cases d:x=y
  .subst d
   rw[if_pos rfl]at a
   by_cases c:x=z
   .subst c
    rw[if_pos rfl]at b ⊢;exact Cy f g i a b
   grind
  .rw[if_neg d]at a
   by_cases c:y=z
   .grind
   .rw[if_neg c]at b
    have e:=VE x y z a b
    by_cases j:x=z
    .subst j
     rw[SE]at e;cases e
    grind
theorem Dd:∀x y:v_ Key,Bw x y=u_->Bw y x=u_->x=y
 |[],[],_,_=>rfl
 |[],_::_,h,_=>by cases h
 |_::_,[],_,h=>by cases h
 | x::c,y::d,a,b=>by
  unfold Bw at a b
  by_cases e:x=y
  .subst e
   rw[if_pos rfl]at a b;rw[Dd c d a b]
  .rw[if_neg e]at a
   rw[if_neg λz=>e z.symm]at b;exact absurd (VF x y a b) e
def Uy:KeyOrd:=#[v_ Key,Bw,C9,Cy,λa b c h=>by
 cases e:Bw a b with
 |true=>exact .inl rfl
 |false=>
  cases d:Bw b a with
  |true=>exact .inr^Cy b a c d h
  |false=>rw[←Dd a b e d];exact .inr h,Dd]
theorem J5:∀x y:v_ Key,CT x y=t_->Gs x y=Bw x y
 |[],[],_=>rfl
 |[],_::_,_=>rfl
 |_::_,[],_=>rfl
 | x::b,y::c,h=>by
  have a:(M8 x y&&CT b c)=t_:=h;rw[jN]at a;unfold Gs Bw
  by_cases e:x=y
  .rw[if_pos e,if_pos e];exact J5 b c a.2
  .rw[if_neg e,if_neg e]
   cases x with
   |inl i=>cases y with
    |inl j=>rfl
    |inr z=>cases a.1
   |inr i=>cases y with
    |inl j=>cases a.1
    |inr z=>rfl
section
variable {prog:Program}{w:World}{A:Around}{E:Value->Shared->Prop}{s:Shared}
theorem XZ{b:Bool}{Q:Bool->Go->Prop}{h j:Nat}:∀(a c:v_ Key) (k l:v_ Ev) (i:Nat),Vals (a.map kOf) k->Vals (c.map kOf) l->CT a c=t_->a.length+j=c.length+h->Q (Gs a c) s->
  KatLex prog w A b (decide (h<j)) Q (k.zip l) i s
 |[],[],k,l,i,o,p,_,g,q=>by
  cases o;cases p;refine kat_nil ?_;rw[show decide (h<j)=u_ from decide_eq_false^by simp only[kW]at g;lk];exact q
 |[],m::c,k,l,i,o,p,_,g,q=>by
  cases o;rw[List.zip_nil_left];refine kat_nil ?_;rw[show decide (h<j)=t_ from decide_eq_true^by simp only[kW,jC]at g;lk];exact q
 |n::a,[],k,l,i,o,p,_,g,q=>by
  cases p;rw[List.zip_nil_right];refine kat_nil ?_;rw[show decide (h<j)=u_ from decide_eq_false^by simp only[kW,jC]at g;lk];exact q
 | n::a,m::c,k,l,i,o,p,F,g,q=>by
  have d:(M8 n m&&CT a c)=t_:=F;rw[jN]at d;have f:Q (if n=m then Gs a c else gJ n m) s:=q;cases o with
  | @cons _ u _ r t G=>
   cases p with
   | @cons _ v _ B C H=>
    rw[nS];have D:n=m->KatLex prog w A b (decide (h<j)) Q (r.zip B) (i+1) s:=λe=>XZ a c r B (i+1) G H d.2 (by simp only[jC]at g;lk) (by rw[if_pos e]at f;exact f);cases n with
    | inl x=>
     cases m with
     |inr y=>cases d.1
     | inl y=>
      let#[I,rfl]:=t;let#[J,rfl]:=C;refine kat_cons^wpAny_eqBool_int ?_
      by_cases e:x=y
      .rw[show(x==y)=t_ by simpa using e]
       exact kat_yes^D^by rw[e]
      .rw[show(x==y)=u_ by simpa using e]
       refine kat_no ?_;rw[if_neg λz=>e^Sum.inl.inj z]at f;cases K:(b&&i==0)with
       |true=>exact oneLt_int f
       |false=>exact kat_one _ _^pj (show PySem.W.BoolBack Q (.bool (decide (x<y))) s from f)
    | inr x=>
     cases m with
     |inl y=>cases d.1
     | inr y=>
      let#[I,rfl]:=t;let#[J,rfl]:=C;refine kat_cons^wpAny_eqBool_str ?_
      by_cases e:x=y
      .rw[show decide (x=y)=t_ by simpa using e]
       exact kat_yes^D^by rw[e]
      .rw[show decide (x=y)=u_ by simpa using e]
       refine kat_no ?_;rw[if_neg λz=>e^lu z]at f;cases K:(b&&i==0)with
       |true=>exact oneLt_str f
       |false=>exact kat_one _ _^PySem.P.lt_str (show PySem.W.BoolBack Q (.bool (decide (x.cps.toList<y.cps.toList))) s from f)
structure US (h:jI) (ks:List Ev) (keys:List^List Key):Prop where
 at_:∀(i:Nat) (ns:List Key),keys[i]?=P3 ns->∃a o its n,ks[i]?=P3^.ref a/\h.get? a=P3 o/\o.cls=.type "tuple"/\o.data=.seq its n/\Vals (ns.map kOf) its.toList
 len:ks.length=keys.length
 same:∀x∈keys,∀y∈keys,CT x y=t_
 ne:∀x∈keys,x≠[]
def gD:Key->String
 |.inl _=>"int"
 |.inr _=>"str"
theorem firsts{h:jI}:∀(g:v_ Ev) (b:v_^v_ Key) (T:String),g.length=b.length->(∀(i:Nat) (u:v_ Key),b[i]?=P3 u->∃a o c n,g[i]?=P3^.ref a/\h.get? a=P3 o/\o.cls=.type "tuple"/\o.data=.seq c n/\Vals (u.map kOf) c.toList)->
  (∀x∈b,∃k r,x=k::r/\gD k=T)->∃j:v_ Ev,KatTups h g j/\j.length=b.length/\∀v∈j,typeOf v=pure^.type T
 |[],[],T,_,_,_=>#[[],trivial,rfl,λv l=>by cases l]
 |[],_::_,T,m,_,_=>by cases m
 |_::_,[],T,m,_,_=>by cases m
 | k::g,x::b,T,m,z,B=>by
  let#[j,F,G,H]:=firsts g b T (by simpa using m) (λi u e=>by
   let#[a,o,c,n,p,r]:=z (i+1) u (by simpa using e);exact#[a,o,c,n,by simpa using p,r]) λy I=>B y^Sc _ I
  let#[a,o,c,n,p,J,K,L,q]:=z 0 x rfl;have p:k=.ref a:=by simpa using p
  subst p;let#[k,r,rfl,C]:=B x Rs;rw[ju]at q;cases d:c.toList with
  |nil=>rw[d]at q;cases q
  | cons f M=>
   rw[d]at q;cases q with
   | cons D N=>
    refine#[f::j,KatTups.cons J K L (by rw[←p9,d];rfl) F,by rw[jC,jC,G],λv l=>?_]
    rcases UF.mp l with rfl|l
    .cases k with
     |inl i=>let#[t,rfl]:=D;subst C;rfl
     |inr i=>let#[t,rfl]:=D;subst C;rfl
    .exact H v l
def Mu{c:v_ Ev}{keys:v_^v_ Key}(K:US s.heap c keys)(h2:2<=c.length){G:Array Nat->Go->Prop}(h:∀p,p.Perm^jc^je c.length->So.Srt Uy (λi=>keys.getD i []) p c.length->G p s):
  wpAny (model prog w) A (keyKind' c.toArray) (λN P=>(kas_sort c.length).kasWp (kas_ask prog w A N c) G P) (λ_ _=>False) s:=by
 obtain⟨f,I,Q⟩:∃f I,keys=f::I:=by
  cases e:keys with
  |nil=>have:=K.len;rw[e]at this;simp only[kW]at this;lk
  |cons x r=>exact#[x,r,rfl]
 have J:f∈keys:=by rw[Q];exact Rs
 obtain⟨m,R,S⟩:∃k r,f=k::r:=by
  cases e:f with
  |nil=>exact absurd e^K.ne f J
  |cons k r=>exact#[k,r,rfl]
 have y:∀x∈keys,∃k r,x=k::r/\gD k=gD m:=λx L=>by
  cases e:x with
  |nil=>exact absurd e^K.ne x L
  | cons k r=>
   exists k,r,rfl;have b:=K.same x L f J;rw[e,S]at b;have b:(M8 k m&&CT r R)=t_:=b;rw[jN]at b;cases k with
   |inl i=>cases m with
    |inl j=>rfl
    |inr j=>cases b.1
   |inr i=>cases m with
    |inl j=>cases b.1
    |inr j=>rfl
 let#[fs,z,B,T]:=firsts c keys (gD m) K.len K.at_ y;refine kat_kind z (by rw[B,←K.len];lk) (λv U=>by rw[T v U];exact Looks.now) (by simp) ?_;refine So.sort_ok (O:=Uy) (key:=λi=>keys.getD i []) (by lk) (λi j C V W X=>?_) h;have g:i<keys.length:=by rw[←K.len];exact V
 have l:j<keys.length:=by rw[←K.len];exact W
 let#[a,o,q,n,Y,Z,e3,e4,M]:=K.at_ i keys[i] (On g);let#[a',o',d,n',D,F,a0,H,t]:=K.at_ j keys[j] (On l);unfold kas_ask;rw[show c.getD i jd=.ref a by rw[j8,Y];rfl,show c.getD j jd=.ref a' by rw[j8,D];rfl];have b:=K.same _ (jm g) _^jm l;refine kat_lt Z e4 F H (XZ keys[i] keys[j] _ _ 0 M t b ?_ ?_)
 .have l1:=M.length
  have l2:=t.length;have l3:(keys[i].map kOf).length=keys[i].length:=No ..;have l4:(keys[j].map kOf).length=keys[j].length:=No ..;have l5:q.toList.length=q.size:=kO;have l6:d.toList.length=d.size:=kO;lk
 .rw[J5 _ _ b]
  have z:keys.getD i []=keys[i]:=by rw[j8,On g];rfl
  have B:keys.getD j []=keys[j]:=by rw[j8,On l];rfl
  have u:C (Bw (keys.getD i [])^keys.getD j []) s:=X;rw[z,B]at u;exact u
def Ef{v:Ev}{kw:v_ (Str×Ev)}{Q:Ev->Go->Prop}(d:argsOk "sorted" #[[v],kw])(e:∀x,argsOk "list.sort" #[[.ref x],kw])
  (j:wpAny (model prog w) A.in1 (collect v) (λf a=>f.length<=sizeLine/\wpAny (model prog w) A.in1.in1 (kz.«list.sort» #[[.ref a.heap.objs.size],kw]) (λb g=>b=.done^.ret .none/\Q (.ref a.heap.objs.size) g) E {a with heap:=a.heap.push^seqObj "list" f.toArray 0}) E s):
  wpAny (model prog w) A (call (.builtin "sorted") [v] kw) Q E s:=call_function_entry_kw kind_sorted plain_sorted entry_sorted d^Ch^Re^Ch^jh j (λf a h=>Ch^pA (Ch^jn^wpAny_call_entry_kw PyProof.Rows.slot_list_sort #[_,XV _ rfl,rfl] PyProof.Rows.entry_list_sort (jh h.2 (λb g i=>#[_,i.1,Re #[_,rfl,i.2]]) λ_ _ x=>x)^e _) h.1) λ_ _ x=>x
def Dy(h:jI)(D:Db)(a:v_ Ev):jI:=((h.update D^j9 λ_=>(#[]:Array Ev)).push^seqObj "tuple" a.toArray 0).push^seqObj "list" #[] 0
def IQ{h:jI}{D:Db}{a:v_ Ev}{b:Db}{o:Obj}(c:b≠D)(e:h.get? b=P3 o):(Dy h D a).get? b=P3 o:=
 FM _ (FM _^(jF _ _^jv c).trans e)
def Kf{h:jI}{D:Db}{c:v_ Ev}{n:Nat}(d:h.get? D=P3^seqObj "list" c.toArray n):∃a,(Dy h D c).get? D=P3^seqObj "list" #[] a/\(h.update D^j9 λ_=>(#[]:Array Ev)).get? D=P3^seqObj "list" #[] a:=by
 obtain⟨a,b⟩:∃a,(h.update D _).get? D=P3^seqObj _ _ a:=#[_,mj d _];exact#[a,FM _^FM _ b,b]
def QI{D:Db}{a:v_ Ev}{n:Nat}{P:PySem.Fin->Go->Prop}{G:Array Nat->Prop}(r:s.heap.get? D=P3^seqObj "list" a.toArray n)(t:a.length<64)
  (u:2<=a.length->wpAny (model prog w) A (keyKind' a.toArray) (λJ k=>(kas_sort a.length).kasWp (kas_ask prog w A J a) (λp v=>v={s with heap:=Dy s.heap D a}/\G p) k) (λ_ _=>False) {s with heap:=Dy s.heap D a})
  (L:a.length<2->G^jc^je a.length) (l:∀(p:Array Nat) (y:jI) (c:Nat),p.size=a.length->G p->(∀b o,b≠D->s.heap.get? b=P3 o->y.get? b=P3 o)->y.get? D=P3^seqObj "list" (jc^p.toList.map λi=>a.getD i jd) c->P (.done^.ret .none) {s with heap:=y}):
  wpAny (model prog w) A (kz.«list.sort» #[[.ref D],[]]) P E s:=by
 let#[V,d,z]:=Kf r
 have m:∀(p:Array Nat),p.size=a.length->G p->P (.done^.ret .none) {s with heap:=(Dy s.heap D a).update D^j9 λ_=>jc^p.toList.map λi=>a.getD i jd}:=λp q B=>by
  obtain⟨C,F⟩:∃C,((Dy s.heap D a).update D^j9 λ_=>jc^p.toList.map λi=>a.getD i jd).get? D=P3^seqObj "list" (jc^p.toList.map λi=>a.getD i jd) C:=#[_,mj d λ_=>jc^p.toList.map λi=>a.getD i jd];exact l p _ C q B (λb o K e=>(jF _ _^jv K).trans^IQ K e) F
 rw[list_sort_plain];refine Ch (oV r rfl ?_);refine Ch (mG r rfl ?_ (by rw[f8,jj];lk) (eq _));refine Ch (oy z rfl ?_);refine Ch (wpAny_newTuple ?_^by show a.length<=_;rw[jj];lk);refine Ch^pA ?_^eq _;refine jn ?_;show wpAny (model prog w) A _ P E {s with heap:=Dy s.heap D a}
 dsimp only
 by_cases H:a.length<2
 .have f:a.toArray.size<2:=by rw[f8];exact H
  rw[if_pos f,if_pos f];refine Ch^Re ?_;rw[StateT.run_pure];refine Ch^Re ?_
  dsimp only
  refine Ch (oy d rfl ?_);have h:(jc^je a.length).size=a.length:=by simp
  have g:(arrOf^SortSt.mk' general' (a.toArray.zip a.toArray) #[] 7 s_).map (·.2)=jc ((jc^je a.length).toList.map λi=>a.getD i jd):=by
   refine kat_snds rfl ?_;have e:=kas_range^a.toArray.zip a.toArray;rw[show(a.toArray.zip a.toArray).size=a.length by simp]at e;exact e.symm
  rw[g];refine Ch (mG d rfl ?_ (eq _) (by rw[f8,No,kO,h,jj];lk));simp only[bne_self_eq_false,kC,if_false];exact Re^m _ h^L H
 .have f:¬a.toArray.size<2:=by rw[f8];exact H
  rw[if_neg f,if_neg f];refine Ch^jh (u^by lk) (λJ W u=>?_) λ_ _ x=>x.elim
  refine Ch (jh (kat_run (Q:=λj k=>∃p:Array Nat,p.size=a.length/\arrOf j=p.map^kas_item^a.toArray.zip a.toArray/\failedOf j=s_/\k={s with heap:=Dy s.heap D a}/\G p)
   rfl (by lk) t (λN j k O R S T=>#[N,O,R,S,T]) u) ?_ λ_ _ e=>e)
  rintro⟨⟨⟩,j⟩ k ⟨p,q,I,U,rfl,B⟩
  dsimp only
  have g:=kat_snds rfl I;have h:(jc^p.toList.map λi=>a.getD i jd).size=a.length:=by rw[f8,No,kO,q]
  rw[g];refine Ch (oy d rfl ?_);refine Ch (mG d rfl ?_ (eq _) (jJ (pW h)^by rw[jj];lk));rw[U];simp only[bne_self_eq_false,kC,if_false];exact Re^m p q B
def VH{D:Db}{f:Ev}{a:v_ Ev}{n:Nat}{P:PySem.Fin->Go->Prop}(U:s.heap.get? D=P3^seqObj "list" a.toArray n)(Y:a.length<64)(J:v_ Ev->Go->Prop)(h:Db)(M:h=s.heap.objs.size+1)
  (h0:∀r,(Dy s.heap D a).get? D=P3^seqObj "list" #[] r->J [] {s with heap:=Dy s.heap D a})
  (z:∀(d:v_ Ev) (g:Go) (e:Nat) (v:Ev),J d g->g.heap.get? h=P3^seqObj "list" d.toArray e->a[d.length]?=P3 v->wpAny (model prog w) A (call f [v]) (λk l=>l.heap.get? h=P3^seqObj "list" d.toArray e/\J (d++[k]) {l with heap:=l.heap.update h (j9 (·.push k))}) (λ_ _=>False) g)
  (N:∀(r:Nat),(Dy s.heap D a).get? D=P3^seqObj "list" #[] r->∀(d:v_ Ev) (g:Go),J d g->d.length=a.length->g.heap.get? D=P3^seqObj "list" #[] r/\∃G:Array Nat->Prop,
   (2<=a.length->wpAny (model prog w) A (keyKind' d.toArray) (λκ O=>(kas_sort a.length).kasWp (kas_ask prog w A κ d) (λp l=>l=g/\G p) O) (λ_ _=>False) g)/\(a.length<2->G^jc^je a.length) /\
   ∀(p:Array Nat) (V:jI) (c:Nat),p.size=a.length->G p->(∀b o,b≠D->b≠h->g.heap.get? b=P3 o->V.get? b=P3 o)->V.get? D=P3^seqObj "list" (jc^p.toList.map λi=>a.getD i jd) c->(∃o,V.get? h=P3 o)->P (.done^.ret .none) {g with heap:=V}):
  wpAny (model prog w) A (ksk_tree D f u_) P E s:=by
 let#[r,R,Z]:=Kf U;have u:((s.heap.update D^j9 λ_=>(#[]:Array Ev)).push^seqObj "tuple" a.toArray 0).objs.size=h:=by rw[pO,Heap.size_update,M]
 have hD:D<s.heap.objs.size:=Uf U;have S:D≠h:=by rw[M];exact jL^ke hD
 have a0:(Dy s.heap D a).get? h=P3^seqObj "list" #[] 0:=by rw[←u];exact XV _ rfl
 unfold ksk_tree;refine Ch (oV U rfl ?_);refine Ch (mG U rfl ?_ (by rw[f8,jj];lk) (eq _));refine Ch (oy Z rfl ?_);refine Ch (wpAny_newTuple ?_^by show a.length<=_;rw[jj];lk);refine Ch^pA ?_^eq _;refine jn ?_;show wpAny (model prog w) A (ksk_rest D f u_ a.toArray r^.ref ((s.heap.update D^j9 λ_=>(#[]:Array Ev)).push^seqObj "tuple" a.toArray 0).objs.size) P E {s with heap:=Dy s.heap D a};rw[u];unfold ksk_rest;refine Ch^nE ?_
 first
  |rw[List.forIn_toArray]
  |(rw[←Array.forIn_toList];simp only[List.toList_toArray])
  |rw[←Array.forIn_toList]
 refine Ch^ksk_fold (I:=λi g=>∃d e,n8 d=i/\J d g/\g.heap.get? h=P3^seqObj "list" d.toArray e) a 0 _ #[[],0,rfl,h0 r R,a0] (λj x g hx hI=>?_) λg hI=>?_
 .let#[d,e,t,hJ,C]:=hI
  have hj:j<a.length:=(ZB.mp hx).1;have t:d.length=j:=by lk
  refine Ch^lf^jh (z d g e x hJ C^by rw[t];exact hx) (λk l F=>?_) λ_ _ hF=>hF.elim;have ea:(jc d).push k=jc (d++[k]):=by simp
  obtain⟨H,K⟩:∃H,(l.heap.update h (j9 (·.push k))).get? h=P3^seqObj "list" (jc (d++[k])) H:=#[_,by rw[←ea];exact mj F.1 (·.push k)]
  try dsimp only
  refine Ch (mG F.1 rfl ?_ (by rw[f8,jj];lk) (jJ (pW (Array.size_push ..))^by rw[f8,jj];lk));exact Re #[rfl,d++[k],H,by rw[jD,jV];lk,F.2,K]
 .let#[d,e,t,hJ,C]:=hI
  have t:d.length=a.length:=by lk
  let#[a5,G,g2,g1,g3]:=N r R d g hJ t
  try dsimp only
  refine Ch (oV C rfl ?_)
  have y:∀(W:SortSt) (p:Array Nat),p.size=a.length->G p->(arrOf W).map (·.2)=jc (p.toList.map λi=>a.getD i jd)->failedOf W=s_->wpAny (model prog w) A (ksk_tail D u_ r (.ref h) W) P E g:=λW p X hg T hf=>by
   have a6:(jc^p.toList.map λi=>a.getD i jd).size=a.length:=by rw[f8,No,kO,X]
   obtain⟨ck,a7⟩:∃ck,(g.heap.update h^j9 λ_=>(#[]:Array Ev)).get? h=P3^seqObj "list" #[] ck:=#[_,mj C λ_=>#[]];have L:(g.heap.update h^j9 λ_=>(#[]:Array Ev)).get? D=P3^seqObj "list" #[] r:=(jF _ _^jv S).trans a5;obtain⟨H,K⟩:∃H,((g.heap.update h^j9 λ_=>(#[]:Array Ev)).update D^j9 λ_=>jc^p.toList.map λi=>a.getD i jd).get? D=P3^seqObj "list" (jc^p.toList.map λi=>a.getD i jd) H:=#[_,mj L λ_=>jc^p.toList.map λi=>a.getD i jd];unfold ksk_tail
   try dsimp only
   rw[T];refine Ch (mG C rfl ?_ (by rw[f8,jj];lk) (eq _));refine Ch^mq ?_;refine Ch (oy L rfl ?_);refine Ch (mG L rfl ?_ (eq _) (jJ (pW a6)^by rw[jj];lk));rw[hf];simp only[bne_self_eq_false,kC,if_false];refine Re^g3 p _ H X hg (λb o a8 a9 e=>(jF _ _^jv a8).trans^(jF _ _^jv a9).trans e) K #[_,(jF _ _ S).trans a7]
  unfold ksk_end
  try dsimp only
  simp only[kC,if_false]
  by_cases h2:a.length<2
  .have m:a.toArray.size<2:=by rw[f8];exact h2
   rw[if_pos m,if_pos m];refine Ch^Re ?_;rw[StateT.run_pure];refine Ch^Re ?_
   try dsimp only
   refine y _ (jc^je a.length) (by simp) (g1 h2) (kat_snds t ?_) rfl;have er:=kas_range^d.toArray.zip a.toArray;rw[show(d.toArray.zip a.toArray).size=a.length by simp[t]]at er;exact er.symm
  .have m:¬a.toArray.size<2:=by rw[f8];exact h2
   rw[if_neg m,if_neg m];refine Ch^jh (g2^by lk) (λκ s0 C=>?_) λ_ _ x=>x.elim
   refine Ch (jh (kat_run (Q:=λq O=>∃p:Array Nat,p.size=a.length/\arrOf q=p.map^kas_item^d.toArray.zip a.toArray/\failedOf q=s_/\O=g/\G p)
    t (by lk) Y (λp' q O a1 a2 a3 a4=>#[p',a1,a2,a3,a4]) C) ?_ λ_ _ e=>e)
   rintro⟨⟨⟩,q⟩ O ⟨p,X,b0,hf,rfl,hg⟩
   try dsimp only
   exact y q p X hg (kat_snds t b0) hf
end
section
variable {X:Cx}{zG:v_ (Addr×Obj)}{Z:L2.St}{H:Hp}{s:Shared}{h':Heap}
structure Vp (X:Cx) (zG:List (Db×Obj)) (D:Db):Prop where
 new:X.s₀.heap.objs.size<=D
 loc:D≠X.env.locals
 cell:∀x c,X.env.cells.lookup x=P3 c->c≠D
 pin:∀p∈X.pn++zG,p.1≠D
 fs:D∉X.fs
def Inv.mine(I:Inv X zG Z H s){D:Db}(h:s.heap.objs.size<=D):Vp X zG D:=by
 refine#[jJ I.sz h,λz=>?_,λx c e z=>?_,λp a z=>?_,I.nofs h]
 .have:=I.lt
  rw[←z]at this;exact absurd this^ng.mpr h
 .let#[v,o,b,_]:=I.cell x c e
  have:=Uf b
  rw[z]at this;exact absurd this^ng.mpr h
 .let#[e,_]:=I.pin p a
  have:=Uf e
  rw[z]at this;exact absurd this^ng.mpr h
structure KeysAt (K:Frag) (H:Hp) (vs:List V) (keys:List^List Key):Prop where
 len:vs.length=keys.length
 at_:∀(i:Nat) (ns:List Key),keys[i]?=P3 ns->∃a,vs[i]?=P3^.ref a/\SqT K H a (ns.map kOf)
 same:∀x∈keys,∀y∈keys,CT x y=t_
 ne:∀x∈keys,x≠[]
def Nh(a:v_^v_ Key)(b:v_ Nat):Prop:=b.Perm^je a.length/\∀i j,i<=j->j<a.length->Bw (a.getD (b.getD j 0) [])^a.getD (b.getD i 0) []=u_
def KeysAt.tups{d:v_ V}{f:v_ Ev}{c:v_^v_ Key}(I:Inv X zG Z H s)(r:Vals d f)(k:KeysAt X.K H d c){h':jI}(g:∀b o,s.heap.get? b=P3 o->h'.get? b=P3 o):US h' f c:=by
 refine#[λi h e=>?_,r.length.symm.trans k.len,k.same,k.ne];let#[a,j,l]:=k.at_ i h e;let#[u,m,p]:=r.get j;cases p;let#[q,x,#[o,t,v,n,w],_]:=I.tuple l;exact#[a,o,_,n,m,g a o t,v,w,by grind]
theorem IM:∀{a:v_ V}{b:v_ Ev},Vals a b->∀i:Nat,RelV (a.getD i .non)^b.getD i jd
 |_,_,.nil,i=>by simp[RelV]
 |_,_,.cons r t,0=>by simpa using r
 |_,_,.cons r t,i+1=>by simpa using IM t i
theorem KW{f:Nat->V}{g:Nat->Ev}(h:∀i,RelV (f i)^g i):∀a:v_ Nat,Vals (a.map f)^a.map g
 |[]=>.nil
 |i::a=>.cons (h i)^KW h a
def getD_list(p:Array Nat)(i:Nat):p.getD i 0=p.toList.getD i 0:=by simp
def XG{a:v_^v_ Key}{n:Nat}{p:Array Nat}(c:a.length=n)(d:p.Perm^jc^je n)(e:So.Srt Uy (λi=>a.getD i []) p n):Nh a p.toList:=by
 subst c;refine#[Array.perm_iff_toList_perm.mp d,λi j b f=>?_];have h:=e i j b f;unfold So.KN at h;rw[getD_list,getD_list]at h;exact h
def Ue{z:jY}{A:Ev->Go->Prop}{d:v_ V}{f:v_ Ev}{keys:v_^v_ Key}{Q:VK}(I:Inv X zG Z H s)(r:Vals d f)(B:d.length<64)(k:KeysAt X.K H d keys)
  (q:∀(v:v_ Nat) (l:Db),Nh keys v->H l=s_->Q (.ref l)^A4 H l^.lst^v.map λi=>d.getD i .non):
  wpAny (model X.prog X.w) z (kz.«list.sort» #[[.ref s.heap.objs.size],[]]) (λm C=>m=.done^.ret .none/\EP X zG Z Q (.ref s.heap.objs.size) C) A {s with heap:=s.heap.push^seqObj "list" f.toArray 0}:=by
 have x:=r.length;have t:keys.length=f.length:=k.len.symm.trans x;refine QI (G:=λp=>p.Perm _/\So.Srt Uy (λi=>keys.getD i []) p f.length) (n:=0) (XV _ rfl) (by lk) (λD=>?_) (λL=>#[ph _,λi j E M=>?_]) λp h' c N y g F=>#[rfl,?_]
 .refine Mu (keys:=keys) (k.tups I r λb o e=>?_) D λp a b=>#[rfl,a,b]
  exact IQ (jL^Uf e)^FM _ e
 .have:i=j:=by lk
  subst this;exact lB _
 .have J:H s.heap.objs.size=s_:=I.fresh
  have u:(p.toList.map λi=>d.getD i .non).length=f.length:=by grind
  refine#[.ref s.heap.objs.size,A4 H s.heap.objs.size^.lst _,I.laid (t':=s.toks) (λb o e=>g b o (jL^Uf e)^FM _ e) (Op _) #[by rw[u,←x,jj];lk,_,c,KW (IM r) p.toList,F],rfl,q _ _ (XG t y.1 y.2) J]
def Qg{c:jM}{w:jT}{A:jY}{E:Ev->Go->Prop}{s:Go}{l:Db}{b:v_ Ev}{Q:v_ Ev->Go->Prop}(e:nc s.heap l b.toArray)
  (h:Q b {s with heap:=(s.heap.push^seqObj "list" #[] 0).update s.heap.objs.size (j9 (·++b.toArray))}) (g:b.length<=sizeLine):
  wpAny (model c w) A (collect^.ref l) Q E s:=by
 let#[o,i,j,n,k]:=id e;unfold collect;refine Ch^wpAny_runValue^kF entry_proto_collect' ?_;show wpAny _ _ (do again (.builtin "list.__iadd__" #[[←newList [],.ref l],[]])) _ _ s;refine Ch^pA^Re #[mi _ (by decide +kernel),kF entry_list_iadd' ?_];show wpAny _ _ (kn (.ref s.heap.objs.size) (.ref l)^.ref s.heap.objs.size) _ _ {s with heap:=s.heap.push^seqObj "list" #[] 0};unfold kn;have d:(s.heap.push^seqObj "list" #[] 0).get? l=P3 o:=FM _ i;refine Ch^l7 (T:="tuple") #[o,d,j] ?_;have m:(md "tuple"==md "tuple")=t_:=by rfl
 rw[if_pos^by rw[m];simp];refine Ch^oV d k ?_;refine Ch (oV (xs:=#[]) (n:=0) (XV _ rfl) rfl ?_);rw[if_neg^by simp];refine Ch (mG (xs:=#[]) (n:=0) (XV _ rfl) rfl ?_ (eq _) (by show(#[]++b.toArray).size<=sizeLine+1;simp only[Array.size_append,f8,kW];lk));refine Re ?_
 show wpAny (model c w) A (do
   let o ←load s.heap.objs.size
   match o.data with
   |.seq xs _=>pure xs.toList
   |_=>unsupported "internal:collect") Q E {s with heap:=(s.heap.push^seqObj "list" #[] 0).update s.heap.objs.size (j9 (·++b.toArray))}
 refine Ch^wpAny_load (mj (XV _ rfl) _) ?_;show wpAny _ _ (pure ((#[]:Array Ev)++b.toArray).toList) Q E _;rw[show((#[]:Array Ev)++b.toArray).toList=b by simp];exact Re h
def Qj{h:jI}{g:Array Ev->Array Ev}{b:Db}{o:Obj}(e:h.get? b=P3 o):((h.push^seqObj "list" #[] 0).update h.objs.size^j9 g).get? b=P3 o:=
 (jF _ _^jv^jL^Uf e).trans (FM _ e)
def Qi{g:Bool}{k:jY}{l:Ev->Go->Prop}{p:Db}{c:v_ V}{Q:v_ Ev->Go->Prop}(I:Inv X zG Z H s)(h:SqK g X.K H p c)(q:∀i j,Vals c i->c.length<=sizeLine->Inv X zG Z H j->Q i j):
  wpAny (model X.prog X.w) k (collect^.ref p) Q l s:=by
 cases g with
 |true=>
  let#[d,r,f,a]:=I.list h;exact collect_list f.isList (q _ _ r a^I.kept λb o e=>Qj e)^by rw[←r.length];exact a
 |false=>
  let#[d,r,f,a]:=I.tuple h;exact Qg f (q _ _ r a^I.kept λb o e=>Qj e)^by rw[←r.length];exact a
def Wl(K:Frag):v_ V->Hp->VK->Prop:=λd H Q=>∃(e:Bool) (p:Db) (b:v_ V) (a:v_^v_ Key),d=[.ref p]/\SqK e K H p b/\b.length<64/\KeysAt K H b a /\
 ∀(c:v_ Nat) (l:Db),Nh a c->H l=s_->Q (.ref l)^A4 H l^.lst^c.map λi=>b.getD i .non
def C3:DR X (.builtin "sorted")^Wl X.K:=by
 intro zG s Z H k d Q I r h;let#[l,p,m,b,rfl,e,a,f,q]:=h;let#[u,rfl,g]:=vals1 r;cases g;exact Ef (args_sorted1 _) (λx=>args_list_sort _)^Qi I e λd n c i j=>#[by rw[←c.length];exact i,Ue j c a f q]
end
section
variable {X:Cx}{tg elt iter:Expr}{ifs:v_ Expr}{sc:Scope}{pos spos pos':Pos}{N':v_ Str}{js:v_^w_ Nat}{wi:TI}{i:Nat}{x:Str}
def Y3(hc:X.calm=t_)(N':v_ Str)(js:v_^w_ Nat)(hi:PI X tg iter wi)
  (hB:Jf sc X.env.scope X.N N' js=t_) (hN:X.N.Nodup) (a0:X.N[i]?=P3 x) (hx:Loc X.env.scope x)
  (a1:swapsWith (.ListComp elt [#[tg,iter,ifs,0]] sc pos) (P3^.Name x pos') spos.line X.env=pure t_)
  (hs:∀x,foldedSetIterable iter X.env x=pure x:=by intro _;rfl)
  (hf:X.fn x=t_\/X.env.scope.names.lookup x=P3 .local:=by first|exact .inl rfl|exact .inr rfl|assumption):
  PS X (.Assign [.Name x pos'] (.ListComp elt [#[tg,iter,ifs,0]] sc pos) spos) (Pk (WL X sc N' js tg elt ifs wi)^JX i):=by
 intro M s Z H D I h;have O:CompOk X sc N' js:=CompOk.of hB;let#[P,t,a2,R]:=Lm (scope:=sc) (env:=X.env) λx hx=>I.ok.has x^O.free x hx;rw[exec_Assign_Name_used _ _ _ _ a1];refine Ch^n_^Ch ?_;show wpAny _ _ (do let _ ←comprehension (.ListComp elt [#[tg,iter,ifs,0]] sc pos) sc X.env _ (newList []) u_ (eval iter X.env)^P3^assign (.Name x pos') X.env) _ _ s
 refine Ch (jh (wpAny_comprehension_free (Q:=λ_ p=>SP X M D .next p) (use:=P3^assign (.Name x pos') X.env) rfl hs t O.kind O.names (thn (hi M s Z H _ I h) λv s1 h1=>thn h1 λa5 c h2=>?_))
  (λ_ p hq=>Re^Re hq) λ_ _ e=>e)
 let#[it,fp,tn,J,H2,e,G,T,u,f2,hq]:=h2;subst e
 have B:X.K.lookup c.heap.objs.size=s_:=by
  cases q:X.K.lookup c.heap.objs.size with
  |none=>rfl
  |some o=>exact absurd (Uf^G.kIn _ _ q)^j7 _
 let#[g,tt,te,W,hg,ht,he,#[m0,w0],hW]:=hq c.heap.objs.size (G.hok.fresh^Op _) B P (c.heap.objs.size+1) c H2 fp;refine j1^wpAny_newFunctionEnv O.cell (by intro y hy;simp at hy) (λj f d=>?_) O.kind
 dsimp only at f d ⊢
 generalize C:c.heap.push {cls:=.type "list",dict:=s_,data:=.seq ([]:v_ Ev).toArray}=Hh at f d ⊢;have k:Hh.objs.size=c.heap.objs.size+1:=by rw[←C,ku]
 have S:∀b∈fp,b<c.heap.objs.size:=λb l=>by
  let#[o,e,_]:=T.obj _ _ u b l;exact Uf e
 have U:∀b o,c.heap.get? b=P3 o->j.get? b=P3 o:=λb o e=>d.extBut b o (by rw[k];exact jL^ke^Uf e)^FM _ (C▸FM _ e);have hD:∃n,j.get? c.heap.objs.size=P3 {cls:=.type "list",data:=.seq #[] n}:=#[_,d.extBut _ _ (by rw[k];exact jL^pX _)^FM _ (C▸XV _ rfl)]
 have I3:∀L,Inv (BF X sc N' P (c.heap.objs.size+1) c H2 fp) [] (Cw js Z) (A4 H2 c.heap.objs.size^.lst []) {c with heap:=j,toks:=L}:=λL=>
  QQ G hc O a2 R f2 (λb l=>let #[o,e,_]:=T.obj _ _ u b l;#[o,e]) (by rw[←k];exact f) U hD
 have V:tn 0 j:=T.keep _ _ _ u λb l o e=>U b o e
 have a3:∀b∈fp,A4 H2 c.heap.objs.size (.lst []) b=s_:=λb l=>by
  rw[AW^jL^S b l];exact(f2 b l).1
 have r:∀L,codeAny (model X.prog X.w) X.A (.compLoop (.ListComp elt [#[tg,iter,ifs,0]] sc pos) 0 (.ref it) (.ref c.heap.objs.size)^compEnvC sc P (c.heap.objs.size+1) X.env)
   (compPost (model X.prog X.w) X.A X.xe (P3^assign (.Name x pos') X.env) (λ_ p=>SP X M D .next p) (.ref c.heap.objs.size) (c.heap.objs.size+1)) {c with heap:=j,toks:=L}:=λL=>by
  refine NX (W:=W) (m0:=m0) (Q:=λv H1=>JX i v Z H1 λzN H2=>D.nx zN H2) G f2 S (jk _) T hg ht he hW (λzZ H' p J' q'=>?_) (I3 L) V a3 w0;let#[m,hn,_]:=J'.loc;have Y:H' (c.heap.objs.size+1)=s_:=J'.free;have I4:Inv X M Z H' p:=LZ (h':=p.heap) G f2 (jk _) J' λb _=>rfl;let#[g1,g2,g3,g4,g5,g6]:=G.fpOk (b:=c.heap.objs.size+1) (jk _) Y;show wpAny (model X.prog X.w) X.A (assign (.Name x pos') X.env^.ref c.heap.objs.size) (λ_ E=>∃m,E.heap.Ns (c.heap.objs.size+1) m/\∀h',lz (c.heap.objs.size+1) E.heap h'->SP X M D .next {E with heap:=h'}) X.xe p;refine wpAny_assign_Name (M5 (v:=.ref c.heap.objs.size) I4 hN a0 hx rfl (λs5 I5 #[a,F,ha]=>?_) hf)
  have na:c.heap.objs.size+1≠a:=by
   rcases ha with rfl|ha
   .exact g2
   .exact λz=>g5 _ _ ha z.symm
  refine#[m,hn.sameBut F na,λh' a4=>?_];exact#[_,H',I5.turned (t':=s5.toks) (it:=c.heap.objs.size+1) (λb o l e=>a4.extBut b o l e) Y g2 g4 g5 g6,q']
 rw[show(newEnv sc Hh.objs.size X.env.globals P X.env.qual s_ .none (P3 X.env) builtinsNs).locals=c.heap.objs.size+1 from k];show codeAny (model X.prog X.w) X.A (.compStart (.ListComp elt [#[tg,iter,ifs,0]] sc pos) 0 (.ref it) (.ref c.heap.objs.size)^compEnvC sc P (c.heap.objs.size+1) X.env) _ _;exact codeAny_compStart_list (r _)^T.self _ 0 _ _ _ V^r _
end
end L2
namespace Dp
open L2
section
variable {X:Cx}{zQ:Kd}{tg elt iter:Expr}{ifs:v_ Expr}{sc:Scope}{pos:Pos}{src:Ea}{b:BW}{tt:IE}{te:DW}
def YA(hc:X.calm=t_)(N':v_ Str)(js:v_^w_ Nat)(hi:dG X tg iter src)(hg:∀L C s H O,DG (BF X sc N' L C s H O) tg b)(ht:∀L C s H O,dS (BF X sc N' L C s H O) ifs tt)(he:∀L C s H O,DE (BF X sc N' L C s H O) elt zQ te)
  (hB:Jf sc X.env.scope X.N N' js=t_) (hk:zQ≠.tp:=by intro z;cases z)
  (hs:∀x,foldedSetIterable iter X.env x=pure x:=by intro _;rfl):∃wi,PI X tg iter wi/\∀(C:Fm) (M:Db->Prop) (H:Hp) (n:Nat) (ρ:v_ Slot) (Z:L2.St) (P:D->Nat->Prop) (Q:VK),Rel X.K C M H n ρ Z->Bi js src b tt te n ρ P->
   (∀v r d S,Ext C.U H r->FeedC X.K C.F M r S->VR X.K C.V M H r .fr v d->P d S->Q v r)->WL X sc N' js tg elt ifs wi Z H Q:=by
 let#[wi,a1,a2]:=hi;refine#[wi,a1,λC M H n ρ Z P Q R w q=>?_];refine a2 C M H n ρ Z _ _ R w λJ T u n1 A f1 y w1=>?_;let#[b4,w1]:=w1;have R1:=R.step A f1;intro l hl b6 L Ca s0 H0 O;let#[g,g1,g2]:=hg L Ca s0 H0 O;let#[tc,c1,c2]:=ht L Ca s0 H0 O;let#[tx,x1,x2]:=he L Ca s0 H0 O
 have a6:¬C.U l:=λz=>by
  let#[o,z]:=R1.udom l z;rw[hl]at z;cases z
 generalize W:(λb=>M b\/b=l)=M';have a7:M' l:=by rw[←W];exact .inr rfl
 have M'of:∀b,M b->M' b:=λb z=>by rw[←W];exact .inl z
 have a4:∀b,M' b->M b\/b=l:=λb z=>by rw[←W]at z;exact z
 have b1:∀b,C.V b\/b=l->M' b:=λb z=>z.elim (λz=>M'of b^R1.vM b z) λz=>by rw[z];exact a7
 have b5:js.length=N'.length:=Fb (CompOk.of hB).cap
 exists g,tc,tx,λi m zZ r=>m=u.length - i/\i<=u.length/\∃S zY k G,Rel X.K #[M',C.F,C.U,λb=>C.V b\/b=l,T,[],[]] M' r S zY zZ/\r l=P3^.lst G/\Ats X.K M' r k G/\k.length<=i/\Pres M T M' r /\
   D6 b tt te (λk n2=>P (.lst k) n2) (u.drop i) k S zY,g1,c1,x1,#[u.length,by simp,eq _,n1,Hb js ρ,[],[],?_]
 .have I:Grow T^A4 T l^.lst []:=A1 hl
  have Y:Pres M T M'^A4 T l^.lst []:=#[λb o e _=>I.all b o e,λb z=>(a4 b z).elim .inl λz=>.inr (by rw[z];exact hl),λb G e=>I.all b _ e];refine#[#[?_,λa z=>z,λa z=>?_,I.ext,R1.fU,λa z=>.inl^R1.uV a z,b1,f1.pres Y λf o _ e=>I.all f.1 o e,?_,λp hp=>absurd hp^by simp,λi d a q z=>Tp R1.sl q z,λi s a q o _=>absurd o (by rw[Ek q];decide),λi j s t a q o _ _ _ _=>absurd o (by rw[Ek q];decide),λp hp=>absurd hp^by simp],Ah,rfl,eq _,Y,w1]
  .unfold Hb Cw
   rw[No,No]
  .rcases a4 a z with z|z
   .let#[o,z]:=R1.dom a z
    exact#[o,I.all a o z]
   .subst z
    exact#[_,Ah]
  .refine QK R1.sl Y λd v h=>h.same Y (λa o _ e=>I.all a o e) λa e n1 z=>z.elim n1 λz=>?_
   subst e;let#[o,w]:=h.lies;rw[z,hl]at w;cases w
 .rintro i m zZ r ⟨rfl,hi,S,zY,k,G,R',a8,a0,a9,Y,w'⟩
  by_cases a3:i<u.length
  .have ed:u.drop i=u[i]::u.drop (i+1):=kJ a3
   rw[ed]at w';let#[go,yl]:=(y i M' r Y R'.ext R'.dom).1 u[i] (On a3);refine .inr #[go,λx H2 hy=>?_];let#[I,hx]:=yl x H2 hy;have b2:=R'.step I.ext^R'.feed.grow I;refine g2 _ M' H2 S zY zZ u[i] x _ _ b2 hx w' λzP zV R3 w3=>?_;refine c2 _ M' H2 S zP zV _ _ R3 w3 λc H4 n4 e4 f4 w4=>?_;have R4:=R3.step e4 f4;have p4:Pres M' r M' H4:=I.pres.trans^R3.pres e4;have l4:H4 l=P3^.lst G:=e4.keep (I.all _ _ a8) a6;cases c with
   |false=>exact#[u.length - (i+1),by lk,rfl,a3,n4,zP,k,G,R4,l4,a0.pres p4,by lk,Y.trans p4,w4]
   | true=>
    refine x2 _ M' H4 n4 zP zV _ _ R4 w4 λyv H5 d5 n5 e5 f5 r5 w5=>?_;have B:=R4.step e5 f5;have p5:Pres M' H4 M' H5:=R4.pres e5;have l5:H5 l=P3^.lst G:=e5.keep l4 a6;have b3:=r5.shOf R4.dom hk;have a5:=(a0.pres p4).pres p5;have pu:Pres M' H5 M'^A4 H5 l^.lst (G++[yv]):=CP a7 l5;have b7:G.length=k.length:=a0.length;refine#[G,l5,by rw[jj];lk,u.length - (i+1),by lk,rfl,a3,n5,zP,k++[d5],G++[yv],?_,Ah,(a5.append^Ats.one b3).pres pu,by rw[jD,jV];lk,(Y.trans p4).trans^p5.trans pu,w5];refine#[B.len,B.sub,λa z=>?_,λb o e=>?_,B.fU,B.uV,B.vM,?_,λj s hs=>?_,λp hp=>absurd hp^by simp,B.br0,B.new,B.two,λp hp=>absurd hp^by simp]
    .by_cases ha:a=l
     .subst ha;exact#[_,Ah]
     .rw[AW ha];exact B.dom a z
    .let#[o',q1,q2]:=B.ext b o e
     by_cases hb:b=l
     .subst hb
      have e':T b=P3 o:=e;rw[hl]at e';cases e'
     .exact#[o',by rw[AW hb];exact q1,q2]
    .refine f5.pres pu λf o hf e=>?_
     rw[AW λz=>a6^by rw[←z];exact R1.fU f hf];exact e
    .have E:=B.sl j s hs
     cases s with
     |no=>trivial
     |sh d=>let#[v,A,h2]:=E;exact#[v,A,h2.pres pu]
     |ex a nm ks u=>let#[A,h2]:=E;exact#[A,h2.pres pu]
     | br d=>
      let#[v,A,h2]:=E;refine#[v,A,h2.same pu (λa o z e=>?_) λ_ _ z=>z];subst z;let#[o3,w]:=B.br0 j d a hs A
      have a9:a≠l:=λz=>by
       have w':T a=P3 o3:=w;rw[z,hl]at w';cases w'
      rw[AW a9];exact e
     |ow d=>
      let#[a,A,h2,_]:=E;exact absurd h2 (B.new j _ a hs rfl A).1
     |lt a d=>
      let#[A,h2,_]:=E;exact absurd h2 (B.new j _ a hs rfl A).1
     |fd=>exact E
  .have e:i=u.length:=by lk
   subst e;rw[mT]at w';refine .inl #[(y _ M' r Y R'.ext R'.dom).2 (Op _),?_];have eb:Ext C.U T r:=R'.ext;have b0:Pres M' r M r:=Pres.less M'of;refine q _ r (.lst k) S (A.trans eb) (R'.feed.pres b0 λ_ _ _ z=>z) (VR.back A ?_) w';exact#[l,rfl,hl,G,a8,by rw[W];exact a0]
def Hi{q:Kd}{i:Nat}{x:Str}{a c:Pos}(r:X.N.Nodup)(j:X.N[i]?=P3 x)(hx:Loc X.env.scope x)(l:X.calm=t_)(e:v_ Str)(h:v_^w_ Nat)(t:dG X tg iter src)(u:∀f C s H g,DG (BF X sc e f C s H g) tg b)(y:∀f C s H g,dS (BF X sc e f C s H g) ifs tt)(A:∀f C s H g,DE (BF X sc e f C s H g) elt zQ te)
  (m:Jf sc X.env.scope X.N e h=t_) (k:swapsWith (.ListComp elt [#[tg,iter,ifs,0]] sc pos) (P3^.Name x a) c.line X.env=pure t_:=by rfl) (B:zQ≠.tp:=by intro z;cases z)
  (o:∀x,foldedSetIterable iter X.env x=pure x:=by intro _;rfl)
  (D:X.fn x=t_\/X.env.scope.names.lookup x=P3 .local:=by first|exact .inl rfl|exact .inr rfl|assumption):DS X q (.Assign [.Name x a] (.ListComp elt [#[tg,iter,ifs,0]] sc pos) c)^A3 i^Bi h src b tt te:=by
 let#[S,F,G]:=YA l e h t u y A m B o;exact#[_,Y3 l e h F m r j hx k o D,λC M H n I Z T E R L w=>G C M H n I Z _ _ R w λv J d K O P Q p=>L.nx M J K _ _ ((R.step O P).set^Q.shOf R.dom^by grind) p]
end
end Dp
namespace L2
def eX:R2:=λy x H Q=>∃a o,x=.ref a/\DGet H a y o/\Q (.bl o.isSome) H
def aB:R2:=λy x H Q=>∃a o,x=.ref a/\DGet H a y o/\Q (.bl (!o.isSome)) H
def eY:R2:=λx y H Q=>∃a v,x=.ref a/\DGet H a y^P3 v/\Q v H
def LI{X:Cx}{k:Nat}(b:Room k X.A):OpR X (compareOp .In) eX:=by
 intro f s Z H y x h u Q I c d #[a,i,ex,g,q];subst ex;obtain rfl:u=jE a:=d;exact h9 (La b) I g c λj e=>#[.bl _,H,e,rfl,q]
def EO{X:Cx}{k:Nat}(b:Room k X.A):OpR X (compareOp .NotIn) aB:=by
 intro f s Z H y x h u Q I c d #[a,i,ex,g,q];subst ex;obtain rfl:u=jE a:=d;exact Zq (La b) I g c λj e=>#[.bl _,H,e,rfl,q]
end L2
namespace Dp
open L2
def BY:v_ Key->v_ D->Key->w_ D
 |a::b,d::c,k=>if a=k then P3 d else BY b c k
 |_,_,_=>s_
section
variable {K:Frag}{X:Cx}
theorem G4{M:Db->Prop}{H:Hp}{k:Key}:∀{ks:v_ Key}{b:v_ D}{a:v_ V},Ats K M H b a->
  match BY ks b k with
  |some z=>∃v,E5 (ks.zip a) k=P3 v/\At K M H z v
  |none=>E5 (ks.zip a) k=s_
 |[],b,a,h=>by exact rfl
 |c::ks,[],a,h=>by cases h;exact rfl
 | c::ks,d::b,a,h=>by
  let#[v,r,rfl,f,g]:=h;have i:=G4 (k:=k) (ks:=ks) g;unfold BY
  by_cases e:c=k
  .rw[if_pos e]
   refine#[v,?_,f];show E5 ((c,v)::ks.zip r) k=P3 v;rw[E9 e]
  .have:E5 ((c,v)::ks.zip r) k=E5 _ k:=E_ e
   simp_all
def keyOf:D->w_ Key
 |.int i=>P3^.inl i
 |.str x=>P3^.inr x
 |_=>s_
def Df{U M:Db->Prop}{H:Hp}{d:D}{v:V}{k:Key}(e:keyOf d=P3 k)(h:AtT K U M H d v):v=kV k:=by
 cases d with
 |int i=>cases e;exact h
 |str x=>cases e;exact h.str.1
 |_=>cases e
def Jb:D->w_ (v_ Key×v_ D)
 |.dic a b=>P3 (a,b)
 |.fdi a b=>P3 (a,b)
 |_=>s_
def Ip{U M:Db->Prop}{H:Hp}{d:D}{x:V}{g:v_ Key}{i:v_ D}(e:Jb d=P3 (g,i))(h:AtT K U M H d x):∃a b,x=.ref a/\Rd H a^.dK^g.zip b/\Ats K M H i b:=by
 cases d with
 |dic j k=>cases e;let#[a,b,rfl,_,c,_,f]:=h;exact#[a,b,rfl,.inl c,f]
 |fdi j k=>cases e;let#[a,b,rfl,#[o,_,c],_,f]:=h;exact#[a,b,rfl,.inr #[o,c],f]
 |_=>cases e
def J9{H:Hp}{a:Db}{b:v_ (Key×V)}{k:Key}(e:Rd H a^.dK b):DGet H a (kV k)^E5 b k:=.inl #[_,k,e,rfl,rfl]
def GC(a:Bool)(e d:D)(P:D->Prop):Prop:=∃b c k,Jb d=P3 (b,c)/\keyOf e=P3 k/\P^.bl (if a then !(BY b c k).isSome else(BY b c k).isSome)
def Bx(d e:D)(P:D->Prop):Prop:=∃a b k z,Jb d=P3 (a,b)/\keyOf e=P3 k/\BY a b k=P3 z/\P z
def Q1:E4 K .sh eX^GC u_:=λU M H e d y x P Q b o f g w q=>by
 let#[ks,i,k,j,l,w]:=w;let#[a,p,rfl,m,n]:=Ip j g;refine#[a,_,rfl,by rw[Df l f];exact J9 m,q _ H (.bl _) .refl rfl ?_];have h:=G4 (k:=k) (ks:=ks) n;cases c:BY ks i k with
 |none=>simp_all
 |some z=>rw[c]at h w;let#[v,r,_]:=h;simp_all
def Ft:E4 K .sh aB^GC t_:=λU M H e d y x P Q b o f g w q=>by
 let#[ks,i,k,j,l,w]:=w;let#[a,p,rfl,m,n]:=Ip j g;refine#[a,_,rfl,by rw[Df l f];exact J9 m,q _ H (.bl _) .refl rfl ?_];have h:=G4 (k:=k) (ks:=ks) n;cases c:BY ks i k with
 |none=>simp_all
 |some z=>rw[c]at h w;let#[v,r,_]:=h;simp_all
def cj:E4 K .sh eY Bx:=λU M H d e x y P Q b p c f w q=>by
 let#[ks,r,k,z,g,i,j,w]:=w;let#[a,s,rfl,l,m]:=Ip g c;have h:=G4 (k:=k) (ks:=ks) m;rw[j]at h;let#[v,n,o]:=h;exact#[a,v,rfl,by rw[Df i f,←n];exact J9 l,q v H z .refl o w]
variable {a b:Expr}{zU zM:Kd}{wa wb:DW}{pos:Pos}
def B_{k:Nat}(g:Room k X.A)(h:DE X a zU wa)(i:DE X b zM wb)(j:c8 b:=by intro _ _;rfl):DE X (.Subscript a b pos) .sh^AX Bx wa wb:=by
 let#[m,c,d]:=h;let#[o,e,f]:=i;exact#[_,OC (La g) c e j,λC M H n l Z P Q R w q=>Fc cj d f C M H n l Z P Q R w q]
end
def WA(i:Nat)(w:DW):Ac:=λe n c=>∃a:Int,c[i]?=P3^.sh^.int a/\w n c λd f=>∃b:Int,d=.int b/\e.nx f^c.set i^.sh^.int (a+b)
def Zj{X:Cx}{h j:Kd}{e:jX}{g:DW}{pos:Pos}{i:Nat}{x:Str}{c:Pos}(k:X.N.Nodup)(l:X.N[i]?=P3 x)(hx:Loc X.env.scope x)(m:DE X e j g)
  (o:X.fn x=t_\/X.env.scope.names.lookup x=P3 .local:=by first|exact .inl rfl|exact .inr rfl|assumption):DS X h (.AugAssign (.Name x c) .Add e pos)^WA i g:=by
 let#[t,q,r]:=m;refine#[_,bT k l hx q cE o,λC M H n s Z F E R L w=>?_];let#[a,u,w]:=w;let#[v,f,y]:=R.sl i _ u;cases(y);refine#[_,getD_some f,r C M H n s Z _ _ R w λv z d A f B D p=>?_];let#[b,rfl,p]:=p;exact#[a,b,rfl,Ij D,L.nx M z A _ _ ((R.step f B).set (d:=.int _) rfl) p]
end Dp
namespace L2
open PySem.W
section
variable {X:Cx}{zG:v_ (Addr×Obj)}{Z:L2.St}{H:Hp}{s:Shared}{h':Heap}
def Inv.adopt2{D e:Db}{o:HO}(I:Inv X zG Z H s)(m:Vp X zG D)(h:H D=s_)(i:Vp X zG e)(j:H e=s_)(l:D≠e)(k:∀b u,b≠D->b≠e->s.heap.get? b=P3 u->h'.get? b=P3 u)(new:ObjOk X.prog X.w (A4 H D o) h' D o):Inv X zG Z (A4 H D o) {s with heap:=h'}:=by
 have a:∀b,b∉[D,e]->b≠D/\b≠e:=λb d=>#[λz=>d (by rw[z];exact Rs),λz=>d^by rw[z];exact Sc _ (Tk.mpr rfl)]
 refine I.step (g':=s.gens) (d':=s.drawn) (t':=s.toks) (ch:=[D,e]) (λb g=>?_) (λb u _ _ d q _=>k b u (a b d).1 (a b d).2 q) (λb u _ _ d q _=>#[u.slots,k b u (a b d).1 (a b d).2 q]) (λb u d q n=>?_)
  (λb u d q=>#[u,k b u (a b d).1 (a b d).2 q]) (λb p q=>?_) (λb u v q=>?_) (λb B q=>#[#[],?_]) (λC t=>?_) (λb u q=>?_) I.bare
 .rcases UF.mp g with rfl|g
  .exact#[.inr m.new,m.loc,m.cell,m.pin]
  .rw[Tk.mp g]
   exact#[.inr i.new,i.loc,i.cell,i.pin]
 .rw[AW (a b d).1];exact n
 .rw[AW^A6 q h];exact q
 .rw[AW^A6 q h];exact q
 .rw[AW^A6 q h,q];simp
 .let#[u,x,y,A,r]:=t
  exact#[u,x,y,k _ u (jv m.loc) (jv i.loc) A,r]
 .by_cases g:b=D
  .subst g;rw[Ah]at q;cases q;exact new
  .rw[AW g]at q
   refine(I.hok b u q).stay (λc v d f=>k c v ?_ ?_ f) (λc f=>by rw[AW^A6 f h];exact f) λc p f=>by rw[AW^A6 f h];exact f
   .grind
   grind
def aw(K:Frag)(f:Sp)(g:TE):TE:=λZ H Q=>g Z H λx d=>∃(h:Bool) (l:Db) (c:v_ V) (a:v_^v_ Key) (J:v_ V->Hp->Prop),x=.ref l/\SqK h K d l c/\c.length<64/\J [] d /\
 (∀b H2 v,J b H2->c[b.length]?=P3 v->f [v] H2 (λk j=>J (b++[k]) j) E0) /\
 ∀b H2,J b H2->b.length=c.length->KeysAt K H2 b a/\∀(e:v_ Nat) (l:Db),Nh a e->H2 l=s_->Q (.ref l)^A4 H2 l^.lst^e.map λi=>c.getD i .non
def W8{k:Nat}{f:Db}{fd:jp}{pn fn:Str}{sp:Sp}{te:TE}{e:jX}{p fp kp pos:Pos}(F:CU X.prog X.w X.K X.mg X.base Fy k f fd [pn] sp)(hr:Room (k+2) X.A)(hg:Gl X "sorted")(hm:X.mg "sorted"=s_)
  (a9:Gl X fn) (b0:X.mg fn=P3^.ref f) (hb:Binds X.K fd [pn] []) (he:PE X e te) (hs:starEach [e] X.env=[(u_,eval e X.env)]:=by rfl) (b1:(fn==("__debug__":Str))=u_:=by cbv):
  PE X (.Call (.Name "sorted" p) [e] [#[P3 "key",.Name fn fp,kp]] pos) (aw X.K sp te):=by
 intro zG s Z H Q I h;refine jq^DF I hg hm lw ?_
 refine callWith_kw (thn (BZ he CJ hs pos zG s Z H (λC T=>∃x,C=[x]/\∃(κ:Bool) (l:Db) (C:v_ V) (keys:v_^v_ Key) (J:v_ V->Hp->Prop),x=.ref l/\SqK κ X.K T l C/\C.length<64/\J [] T /\
   (∀B H2 v,J B H2->C[B.length]?=P3 v->sp [v] H2 (λk H3=>J (B++[k]) H3) E0) /\
   ∀B H2,J B H2->B.length=C.length->KeysAt X.K H2 B keys/\∀(ix:v_ Nat) (l:Db),Nh keys ix->H2 l=s_->Q (.ref l)^A4 H2 l^.lst^ix.map λi=>C.getD i .non) I ?first) λt s1 #[xs,T,I1,r1,q1]=>kws_cons^D7 I1 a9 b0 (kws_nil ?_) b1) (by rw[hs];rfl)^by rw[hs];rfl
 case first=>
  show te Z H _;refine cast (congrArg (te Z H) ?_) h
  funext x T
  refine propext #[λz=>#[x,rfl,z],fun#[y,e,z]=>?_];cases e;exact z
 let#[x,rfl,κ,l,C,keys,J,rfl,hq,b2,j0,U,a0]:=q1;let#[u,rfl,ru]:=vals1 r1;cases ru;show wpAny (model X.prog X.w) X.A (call (.builtin "sorted") [.ref l] [(lE "key",.ref f)]) _ _ s1;refine Ef (ksk_s1 _ _) (λx=>ksk_l1 _ _)^Qi I1 hq λt R r2 hz I2=>#[by rw[←r2.length];exact hz,?_];rw[ksk_t1];have hl:=r2.length;generalize W:R.heap.objs.size=D;have a1:(R.heap.push^seqObj "list" t.toArray 0).objs.size=D+1:=by rw[pO,W]
 have a2:(R.heap.push^seqObj "list" t.toArray 0).get? D=P3^seqObj "list" t.toArray 0:=by rw[←W];exact XV _ rfl
 have mD:Vp X zG D:=I2.mine (by rw[W];exact Op _);have mK:Vp X zG (D+2):=I2.mine (by rw[W];exact pd _ _);have nD:T D=s_:=I2.hok.fresh (by rw[W];exact Op _);have nK:T (D+2)=s_:=I2.hok.fresh (by rw[W];exact pd _ _);have a3:D≠D+2:=jL^ke^pX D;have S:∀b,Vp X zG b->b∉NS X.stack:=λb m z=>(UF.mp^I2.stkSub b z).elim m.loc m.fs
 refine VH (s:={R with heap:=R.heap.push^seqObj "list" t.toArray 0}) (n:=0) a2 (by rw[←hl];exact b2)
  (λB N=>∃O E,Vals O B/\J O E/\Inv X zG Z E N/\E D=s_/\E (D+2)=s_/\N.heap.get? D=(Dy (R.heap.push^seqObj "list" t.toArray 0) D t).get? D) (D+2) (by show D+2=(R.heap.push _).objs.size+1;rw[a1]) (λe1 a4=>?_) (λB N e v Y hk hv=>?_) λe1 a4 B N Y L=>?_
 .refine#[[],T,.nil,j0,?_,nD,nK,rfl]
  exact I2.kept (t':=R.toks) λb o q=>IQ (by rw[←W];exact jL^Uf q)^FM _ q
 .let#[O,E,rk,Y,I',n1,n2,P]:=Y
  have hi:B.length<t.length:=(ZB.mp hv).1;have a5:C[O.length]?=P3 (C[O.length]'(by rw[rk.length];lk)):=On _;let#[u',e2,ru]:=r2.get a5;rw[rk.length,hv]at e2;cases e2;have b3:=U O E _ Y a5;have E1:Env0 X.prog X.w X.K X.mg X.base X.A.in1.in1 X.stack N E:=I'.env0.in1.in1;refine lU^mQ (F.run X.A.in1.in1 X.stack N E #[[v],[]] [v] _ _ E0 (hr.in1).in1 E1 (by simpa using hb N [v] I'.kIn rfl) (.cons ru .nil) b3) λr g M=>?_;cases r with
  |error e=>exact jt M
  | ok fl=>
   cases fl with
   |next=>exact jt M
   |brk=>exact jt M
   |cont=>exact jt M
   | ret u=>
    let#[w',H3,os,a6,un,b4,b5,q3]:=id M
    obtain⟨oD,eD⟩:∃o,N.heap.get? D=P3 o:=by
     let#[c,hc,_]:=Kf a2;exact#[_,P.trans hc]
    have kD:g.heap.get? D=P3 oD:=un.keep D oD eD n1 (S D mD) (by simp);have kK:g.heap.get? (D+2)=P3^seqObj "list" B.toArray e:=un.keep _ _ hk n2 (S _ mK) (by simp);have f1:H3 D=s_:=un.free D oD eD n1 (by simp);have f2:H3 (D+2)=s_:=un.free _ _ hk n2 (by simp);have I3:Inv X zG Z H3 g:=I'.call' os un b4 a6 (λb z=>absurd z^by simp);exists kK,O++[w'],H3,rk.append^.cons b5 .nil,q3,?_,f1,f2
    .exact I3.turned (t':=g.toks) (λb o hb q=>(jF _ _^jv hb).trans q) f2 mK.loc (.inr mK.new) mK.cell mK.pin
    .show(g.heap.update (D+2) _).get? D=_
     rw[jF _ _^jv a3,kD,←eD,P]
 .let#[O,E,rk,Y,I',n1,n2,P]:=Y
  let#[a7,q]:=a0 O E Y (by rw[rk.length,L,hl]);have b6:keys.length=t.length:=by rw[←a7.len,rk.length,L]
  refine#[P.trans a4,λp=>p.Perm^jc^je t.length/\So.Srt Uy (λi=>keys.getD i []) p t.length,λh2=>?_,λh1=>#[ph _,λi j b9 hj=>?_],λp h' c hp hg a8 b7 _=>#[rfl,?_]]
  .have ts:=Mu (prog:=X.prog) (w:=X.w) (A:=X.A.in1.in1) (keys:=keys) (a7.tups I' rk λb o e=>e) (by lk) (G:=λp g=>g=N/\p.Perm^jc^je t.length/\So.Srt Uy (λi=>keys.getD i []) p t.length) λp a b=>#[rfl,by rw[←L];exact a,by rw[←L];exact b]
   rw[L]at ts;exact ts
  .have:i=j:=by lk
   subst this;exact lB _
  .have b8:(p.toList.map λi=>C.getD i .non).length=t.length:=by rw[No,kO,hp]
   refine#[.ref D,A4 E D^.lst^p.toList.map λi=>C.getD i .non,I'.adopt2 mD n1 mK n2 a3 a8 #[by rw[b8,←hl,jj];lk,_,c,KW (IM r2) p.toList,b7],rfl,q _ _ (XG b6 hg.1 hg.2) n1]
def cB{P:jM}{w:jT}{k:Key}{u:Ev}(h:(BH P w).is k u=t_):RelV (kOf k) u:=by
 rcases BX h with⟨i,t,rfl,rfl⟩|⟨x,t,rfl,rfl⟩
 .exact#[t,rfl]
 .exact#[t,rfl]
theorem LC{e f:Type}{F:e->f->Prop}:∀{c:v_ e}{d:v_ f}{j:Nat}{a:e}{b:f},Paired F c d->c[j]?=P3 a->d[j]?=P3 b->F a b
 |_,_,_,_,_,.nil,h,_=>by simp at h
 |_,_,0,_,_,.cons r t,g,i=>by
  grind
 |_,_,j+1,_,_,.cons r t,g,i=>LC (j:=j) t (by simp_all)^by simp_all
end
end L2
namespace Dp
open L2
section
variable {K:Frag}
def NU(a:v_ D)(P:D->Prop):Prop:=match a with
 |[.int i,.int j]=>P^.int (if j<i then j else i)
 |_=>False
def cI(a:v_ D)(P:D->Prop):Prop:=match a with
 |[.int i]=>P^.int (if i<0 then -i else i)
 |_=>False
def Sj:EY K .sh (λa H Q=>∃i j,a=[.int i,.int j]/\Q (.int (if j<i then j else i)) H) NU:=by
 intro U M H h k P Q b l c w q;unfold NU at w
 split at w
 .rename_i i j
  cases c with
  | cons d e=>cases e with
   |cons f g=>
    cases g;cases d.int;cases f.int;exact#[i,j,rfl,q _ H (.int _) .refl rfl w]
 grind
def fm:EY K .sh (λa H Q=>∃i,a=[.int i]/\Q (.int (if i<0 then -i else i)) H) cI:=by
 intro U M H f g P Q b h c w q;unfold cI at w
 split at w
 .rename_i i
  cases c with
  |cons d e=>
   cases e;cases d.int;exact#[i,rfl,q _ H (.int _) .refl rfl w]
 grind
end
end Dp
namespace L2
def Gv(H:Hp)(L:v_ Db)(f:Db->Obj):Hp:=λb=>if b∈L then(H b).map^HO.frz^f b else H b
def ES{H:Hp}{L:v_ Db}{f:Db->Obj}{b:Db}(h:b∉L):Gv H L f b=H b:=by unfold Gv;rw[if_neg h]
def Tz{H:Hp}{L:v_ Db}{f:Db->Obj}{b:Db}{o:HO}(h:b∈L)(e:H b=P3 o):Gv H L f b=P3^.frz (f b) o:=by unfold Gv;grind
section
variable {X:Cx}{zG:v_ (Addr×Obj)}{Z:L2.St}{H:Hp}{s:Shared}
def Inv.frz{L:v_ Db}(I:Inv X zG Z H s)(k:∀b∈L,∃d,H b=P3^.dK d):∃f,Inv X zG Z (Gv H L f) s:=by
 have a:∀(f:Db->Obj) b o,H b=P3 o->(∀d,o≠.dK d)->Gv H L f b=P3 o:=λf b o e n=>by
  rw[ES λx=>by grind];exact e
 exists λb=>(s.heap.get? b).getD {cls:=.none,data:=.fields #[]};refine I.step (g':=s.gens) (d':=s.drawn) (t':=s.toks) (h':=s.heap) (ch:=[]) (λ_ z=>nomatch z) (λ_ _ _ _ _ e _=>e) (λb o _ _ _ e _=>#[o.slots,e]) (λb o _ e n=>?_) (λb o _ e=>#[o,e]) (λb l e=>a _ b _ e λ_ z=>by cases z) (λb o u e=>a _ b _ e λ_ z=>by cases z) (λb A e=>#[#[],by grind]) (λ_ h=>h) (λb u e=>?_) I.bare
 .unfold Gv
  simp_all
 .by_cases g:b∈L
  .let#[d,i]:=k b g
   rw[Tz g i]at e;cases e;let#[z,y,m,r,p,t,v,j,c]:=(show ObjOk X.prog X.w H s.heap b^.dK d from I.hok b _ i);exact#[by rw[j];rfl,z,y,m,r,p,t,v,j,c]
  .rw[ES g]at e
   exact(I.hok b u e).stay (λ_ _ _ q=>q) (λc q=>a _ c _ q λ_ z=>by cases z) λc l q=>a _ c _ q λ_ z=>by cases z
def gk(t:TE):TE:=λZ H Q=>t Z H λv c=>∃L:v_ Db,(∀b∈L,∃a,c b=P3^.dK a)/\∀f:Db->Obj,Q v^Gv c L f
def bg{e:jX}{t:TE}(h:PE X e t):PE X e^gk t:=by
 intro zG s Z H Q I a;refine thn (h _ s Z H _ I a) λu g #[v,i,b,r,L,c,q]=>?_;let#[f,d]:=b.frz c;exact#[v,_,d,r,q f]
end
end L2
namespace Dp
open L2
def Cz:D->w_^v_ Key
 |.tup a=>JU a
 |_=>s_
def ID(c:D->w_^v_ Key)(f:v_ D):Prop:=f.Pairwise λa b=>∀d e,c a=P3 d->c b=P3 e->Bw e d=u_
def Keyed(a:D->w_^v_ Key)(b:v_ D):Prop:=(∀x∈b,∃k,a x=P3 k/\k≠[])/\∀x∈b,∀y∈b,∀c d,a x=P3 c->a y=P3 d->CT c d=t_
def range_getD(a:v_ D):(je a.length).map (λi=>a.getD i .non)=a:=by
 apply List.ext_getElem
 .simp
 simp_all
def Tj{kf:D->w_^v_ Key}{c:v_ D}{a:v_^v_ Key}{b:v_ Nat}(m:a.length=c.length)(r:∀(i:Nat) (x:D),c[i]?=P3 x->∃k,a[i]?=P3 k/\kf x=P3 k)(h:Nh a b):
  (b.map λi=>c.getD i .non).Perm c/\ID kf (b.map λi=>c.getD i .non):=by
 let#[d,s]:=h;constructor
 .have:=d.map λi=>c.getD i D.non
  rw[m,range_getD]at this;exact this
 .unfold ID
  rw[List.pairwise_iff_getElem];intro i j n f l t u o p;rw[List.getElem_map]at o p;rw[No]at n f;have v:b.length=a.length:=by rw[d.length_eq,pI]
  have g:∀i (h:i<b.length) k,kf (c.getD b[i] .non)=P3 k->a.getD (b.getD i 0) []=k:=λi h k e=>by
   have w:b[i]<a.length:=lP.mp^d.mem_iff.mp^jm h;have q:b[i]<c.length:=by rw[←m];exact w
   let#[C,y,z]:=r b[i] c[b[i]] (On q);have A:c.getD b[i] .non=c[b[i]]:=by rw[j8,On q];rfl
   rw[A,z]at e;have B:b.getD i 0=b[i]:=by rw[j8,On h];rfl
   rw[B,j8,y];exact jH e
  have:=s i j (pQ l)^by rw[←v];exact f
  rw[g i n t o,g j f u p]at this;exact this
theorem F1{b:D->w_^v_ Key}:∀{xs:v_ D},(∀x∈xs,∃k,b x=P3 k/\k≠[])->∃a:v_^v_ Key,a.length=xs.length/\(∀(i:Nat) (x:D),xs[i]?=P3 x->∃k,a[i]?=P3 k/\b x=P3 k/\k≠[])
 |[],_=>#[[],rfl,λi x e=>by simp at e]
 | x::xs,h=>by
  let#[k,d,f]:=h x Rs;let#[a,l,g]:=F1 (xs:=xs) λy c=>h y^Sc _ c;refine#[k::a,by simp_all,λi y e=>?_];cases i with
  |zero=>
   simp_all
  |succ i=>
   simp_all
section
variable {K:Frag}{M:Addr->Prop}{H:Hp}
theorem Ats.getD:∀{b:v_ D}{a:v_ V},Ats K M H b a->∀i:Nat,At K M H (b.getD i .non)^a.getD i .non
 |[],a,h,i=>by cases(h);simp[At]
 |d::b,a,h,0=>by
  let#[v,r,e,f,c]:=h
  grind
 |d::b,a,h,i+1=>by
  let#[v,r,e,f,c]:=h;subst e
  simpa using Ats.getD c i
theorem Ats.pick{b:v_ D}{c:v_ V}(h:Ats K M H b c):∀a:v_ Nat,Ats K M H (a.map λi=>b.getD i .non)^a.map λi=>c.getD i .non
 |[]=>rfl
 |i::a=>#[_,_,rfl,h.getD i,Ats.pick h a]
def Ih{o:D->w_^v_ Key}{f:v_ D}{t:v_ V}{c:v_^v_ Key}(p:∀d k v,d∈f->o d=P3 k->At K M H d v->∃a,v=.ref a/\SqT K H a^k.map kOf)(u:Ats K M H f t)(z:Keyed o f)(w:c.length=f.length)(A:∀(i:Nat) (x:D),f[i]?=P3 x->∃k,c[i]?=P3 k/\o x=P3 k/\k≠[]):KeysAt K H t c:=by
 have b:∀(i:Nat) (h:v_ Key),c[i]?=P3 h->∃x,f[i]?=P3 x/\o x=P3 h/\h≠[]:=λi h e=>by
  have l:i<f.length:=by rw[←w];exact(ZB.mp e).1
  let#[k,g,m,n]:=A i f[i] (On l);rw[e]at g;cases g;exact#[f[i],On l,m,n]
 refine#[u.length.trans w.symm,λi h e=>?_,λx q y B=>?_,λx q=>?_]
 .let#[d,g,m,_]:=b i h e
  let#[v,n,C]:=u.get g;let#[a,rfl,E]:=p d h v (jo g) m C;exact#[a,n,E]
 .let#[i,l]:=mC.mp q
  let#[j,F]:=mC.mp B;let#[d,g,m,_]:=b i x l;let#[G,r,s,_]:=b j y F;exact z.2 d (jo g) G (jo r) x y m s
 .let#[i,l]:=mC.mp q
  let#[d,g,m,n]:=b i x l;exact n
def Ii{d:D}{k:v_ Key}{v:V}(e:Cz d=P3 k)(h:At K M H d v):∃a,v=.ref a/\SqT K H a^k.map kOf:=by
 cases d with
 |tup g=>
  let#[a,i,b,c,f]:=h
  have:=Hd (e) f
  subst this;exact#[a,b,c.sq]
 |_=>cases e
def CK(c:v_ D)(P:D->Prop):Prop:=∃d b,c=[d]/\Eg d=P3 b/\b.length<64/\Keyed Cz b/\∀a:v_ D,a.Perm b->ID Cz a->P^.lst a
def F7:EY K .fr (Wl K) CK:=by
 intro U M H E F P Q o p r w q;let#[d,G,rfl,e,c,g,w]:=w;let#[v,rfl,s]:=FK r;let#[t,a,u,rfl,f,y]:=Nx s e (λ_ z=>z) p;let#[h,j,m]:=F1 g.1;refine#[t,a,u,_,rfl,y M H (Pres.refl _ _)^Ext.refl _ _,by rw[f.length];exact c,Ih (λd k v _=>Ii) f g j m,λA l B n=>?_];let#[C,D]:=Tj (kf:=Cz) j (λi x e=>by let#[k,a,b,_]:=m i x e;simp_all) B;exact q _ _ _ (A1 n) (Cf n^f.pick A)^w _ C D
end
section
variable {X:Cx}{a e:Expr}{zU:Kd}{wa:DW}{pos p fp kp:Pos}
def V5(W:W2)(wa:DW):DW:=λn h P=>wa n h λd e=>∃(c:v_ D) (f:D->D),Eg d=P3 c/\c.length<64/\(∀x∈c,∀g:D->Nat->Prop,g (f x) e->W [.sh x] e g)/\Keyed (λx=>Cz^f x) c /\
 ∀b:v_ D,b.Perm c->ID (λx=>Cz^f x) b->P (.lst b) e
def X7{k:Nat}{fn pn:Str}{W:W2}(G:Got X.prog X.w X.K X.mg X.base fn k [pn] .sh W)(hr:Room (k+2) X.A)(hg:Gl X "sorted")(hm:X.mg "sorted"=s_)(a0:Gl X fn)(he:DE X e zU wa)
  (J:starEach [e] X.env=[(u_,eval e X.env)]:=by rfl) (a1:(fn==("__debug__":Str))=u_:=by cbv):DE X (.Call (.Name "sorted" p) [e] [#[P3 "key",.Name fn fp,kp]] pos) .fr^V5 W wa:=by
 let#[f,fd,F,a2,b1,hb,hW]:=G;let#[t,h1,h2]:=he;refine#[_,W8 F hr hg hm a0 a2 hb h1 J a1,λC M H n ρ Z P Q R w q=>?_];refine h2 C M H n ρ Z _ _ R w λv H1 d Y e1 f1 r1 p=>?_;let#[j,B,hd,a3,hw,hK,w]:=p;have L:=R.step e1 f1;let#[κ,l,us,rfl,J,sq]:=Nx (U:=C.U) (r1.tpOf R.dom R.vM) hd R.uV L.vM;let#[N,hl,hk]:=F1 hK.1;have s:=J.length;refine#[κ,l,us,N,λc H2=>Ext C.U H1 H2/\FeedC X.K C.F M H2 Y/\c.length<=j.length/\∀(i:Nat) (k:V),c[i]?=P3 k->∃x,j[i]?=P3 x/\At X.K M H2 (B x) k,rfl,sq M H1 (Pres.refl _ _)^Ext.refl _ _,by rw[s];exact a3,#[Ext.refl _ _,f1,eq _,λi k z=>absurd (show(s_:w_ V)=P3 k from z) λh=>nomatch h],λc H2 v hJ hv=>?_,λc H2 hJ a4=>?_]
 .let#[ex,u,a5,E]:=hJ
  have m:=L.step ex u;have hi:c.length<j.length:=by rw[←s];exact(ZB.mp hv).1
  have O:j[c.length]?=P3 j[c.length]:=On hi;let#[v',e2,hA]:=(J.pres^L.pres ex).get O;rw[hv]at e2;cases e2;refine#[rfl,C.F,C.U,C.V,M,Y,[.sh j[c.length]],λd n=>d=B j[c.length]/\n=Y,#[m.dom,m.fU,m.uV,m.vM,u,.cons #[#[v,rfl,hA],rfl] .nil],hw _ (jm hi) _ #[rfl,rfl],λr H3 d n' S f3 vr hd=>?_];let#[rfl,rfl]:=hd;refine#[ex.trans S,f3,by rw[jD,jV];lk,λi k o=>?_]
  by_cases a6:i<c.length
  .rw[mH a6]at o
   let#[x,h3,h4]:=E i k o;exact#[x,h3,h4.pres^m.pres S]
  .rw[kH^by lk]at o
   have a7:i=c.length:=by
    have:=(ZB.mp o).1
    rw[jV]at this;lk
   subst a7;rw[nX]at o;cases(show P3 r=P3 k from o);exact#[_,O,vr]
 .let#[ex,u,a5,E]:=hJ
  have m:=L.step ex u;have a8:c.length=j.length:=by rw[a4,s]
  have a9:Ats X.K M H2 (j.map B) c:=by
   have go:∀(j:v_ D) (c:v_ V),c.length=j.length->(∀(i:Nat) (k:V),c[i]?=P3 k->∃x,j[i]?=P3 x/\At X.K M H2 (B x) k)->Ats X.K M H2 (j.map B) c:=by
    intro j
    induction j with
    |nil=>intro c h _;exact ni.mp h
    | cons x j ih=>
     intro c h hh;cases c with
     |nil=>cases h
     | cons k c=>
      let#[T,e3,h3]:=hh 0 k rfl;cases(show P3 x=P3 T from e3)
      exact#[k,c,rfl,h3,ih c (by simpa using h) λi k' e4=>by
       let#[y,e5,h5]:=hh (i+1) k' (by simpa using e4);exact#[y,by simpa using e5,h5]]
   exact go j c a8 E
  have b0:Keyed Cz^j.map B:=by
   refine#[λy hy=>?_,λy hy z hz ka kb ea eb=>?_]
   .let#[x,hx,rfl]:=TM.mp hy
    exact hK.1 x hx
   .let#[x,hx,rfl]:=TM.mp hy
    let#[T,I,rfl]:=TM.mp hz;exact hK.2 x hx T I ka kb ea eb
  refine#[Ih (λd k v _=>Ii) a9 b0 (by rw[hl,No]) λi x e=>?_,λix l ho hn=>?_]
  .rw[jG]at e
   let#[T,I,rfl]:=jx.mp e;exact hk i T I
  .let#[o1,o2]:=Tj (kf:=λx=>Cz^B x) hl (λi x e=>by let#[k,a,b,_]:=hk i x e;exact#[k,a,b]) ho
   have g:Grow H2 (A4 H2 l^.lst^ix.map λi=>us.getD i .non):=A1 hn;refine q _ _ (.lst^ix.map λi=>j.getD i .non) Y ((e1.trans ex).trans g.ext) (u.grow g) (VR.back (e1.trans ex) ?_)^w _ o1 o2;exact Cf hn^(J.pres^L.pres ex).pick ix
def dJ:Key->D
 |.inl i=>.int i
 |.inr x=>.str x
def Tv:Key->Prop
 |.inl _=>True
 |.inr x=>x.length<=sizeLine
def cV{K:Frag}{M:Db->Prop}{H:Hp}{k:Key}(h:Tv k):At K M H (dJ k)^kOf k:=by
 cases k with
 |inl i=>exact rfl
 |inr x=>exact#[rfl,h]
end
end Dp
namespace L2
section
open PySem.MeetsSeq
open PySem.AutoSeq1 (wpAny_loadPart')
def Wa(l:Db)(items:Array Ev)(n:Nat)(x:Ev)(e:Ev->Bool)(j:Nat)(hj:j<items.size)(hit:e items[j]=t_)(hs1:items.size<=sizeLine)(prog:jM)(w:jT)(A:jY)(R:Result->Go->Prop)(hp:jI)(g:Array GenState)(d:Drawn)(tk:Nat)(os:_)
  (hl:hp.get? l=P3 {cls:=.type "list",dict:=s_,data:=.seq items n,slots:=#[]}) (he:∀y,y∈items->PySem.SeqAt.EqAt A.in1 #[hp,g,d,tk,os] y x^e y) (h:R (.ok^.ret .none) #[hp.update l^j9 λxs=>xs.eraseIdxIfInBounds j,g,d,tk,os]):
  ∀k i:Nat,j - i=k->i<=j->(∀m (hm:m<items.size),i<=m->m<j->e items[m]=u_)->
   wpAny (model prog w) A.in1 (kz.«list.remove.loop» #[[.ref l,x,rawInt i],[]]) (λfin s'=>match fin with|.done f=>R (.ok f) s'|.again c'=>c'.quiet=t_/\codeAny (model prog w) A c' R s') (λe s'=>R (.error e) s') #[hp,g,d,tk,os]:=by
 intro k
 induction k with
 |zero=>
  intro i hk hij hno;have hij':i=j:=by lk
  subst hij'
  wp_walk using kN hl
  have hi:items[((i:Nat):Int).toNat]?=P3 items[i]:=by simp[hj]
  rw[hi];refine Ch^he _ (pJ hj) prog w _ _ ?_;rw[hit];have hz':(items.eraseIdxIfInBounds i).size<=sizeLine+1:=jJ (size_erased items _)^Nat.le_succ_of_le hs1
  wp_walk using (mn hl rfl (hz:=hs1) (_hz':=hz')),kN hl
  simpa using h
 | succ k ih=>
  intro i hk hij hno;have hlt:i<items.size:=by lk
  wp_walk using kN hl
  have hi:items[((i:Nat):Int).toNat]?=P3 items[i]:=by simp[hlt]
  have hc:((i:Int)+1)=((i+1:Nat):Int):=by push_cast;rfl
  rw[hi];refine Ch^he _ (pJ hlt) prog w _ _ ?_;rw[hno i hlt (Op _)^by lk]
  wp_walk
  rw[hc]
  exact#[kQ plain_remove_loop _,kF entry_remove_loop (by
   rw[kL plain_remove_loop _];exact ih (i+1) (by lk) (by lk) λm hm h1 h2=>hno m hm (by lk) h2)]
def Wc{prog:jM}{w:jT}{A:jY}{E:Ev->Go->Prop}{s:Go}{Q:Ev->Go->Prop}(l:Db)(items:Array Ev)(n:Nat)(x:Ev)(e:Ev->Bool)(j:Nat)(hj:j<items.size)(hit:e items[j]=t_)(hno:∀m (hm:m<items.size),m<j->e items[m]=u_)
  (hs1:items.size<=sizeLine) (hl:s.heap.get? l=P3 {cls:=.type "list",dict:=s_,data:=.seq items n,slots:=#[]}) (he:∀y,y∈items->PySem.SeqAt.EqAt A.in1 s y x^e y)
  (h:Q .none {s with heap:=s.heap.update l^j9 λxs=>xs.eraseIdxIfInBounds j}):wpAny (model prog w) A (call (.builtin "list.remove") [.ref l,x]) Q E s:=by
 have key:wpAny (model prog w) A.in1 (kz.«list.remove» #[[.ref l,x],[]]) (λfin s'=>match fin with|.done f=>wants Q E (.ok f) s'|.again c'=>c'.quiet=t_/\codeAny (model prog w) A c' (wants Q E) s') (λe s'=>wants Q E (.error e) s') s:=by
  let#[hp,g,d,tk,os]:=s
  wp_walk using kN hl
  exact#[kQ plain_remove_loop _,kF entry_remove_loop (Wa l _ n x e j hj hit hs1 _ w A _ hp g d tk os hl he h _ 0 rfl (eq _) (λm hm _ h2=>hno m hm h2))]
 exact lU^mJ PySem.F.slot_list_remove.plain PySem.F.entry_list_remove^PySem.F.slot_list_remove.check _ _ _ _ _ _ _ _ #[_,hl,rfl] (PySem.F.args_list_remove_2 _ _) key
end
section
variable {X:Cx}
def TK:V->v_ V->Hp->VK->Prop:=λx f H Q=>∃(l:Db) (b:v_ V) (y:V) (a:v_ nR) (d:nR) (j:Nat),x=.ref l/\f=[y]/\H l=P3^.lst b/\RVs H a b/\RV H d y/\lZ a=t_/\d.canLay0=t_/\d.depth<=100 /\
 (∃c,a[j]?=P3 c/\kE c d=t_)/\(∀m e,m<j->a[m]?=P3 e->kE e d=u_)/\Q .non^A4 H l^.lst^b.eraseIdx j
def VB{k:Nat}(L:Room k X.A):dM X "list.remove" TK:=by
 intro Y s Z H x vs v us Q I M N h;let#[l,O,y,c,d,j,rfl,rfl,D,o,P,E,R,dd,#[S,F,p],t,q]:=h;cases M;let#[u,rfl,T]:=N.one;let#[z,a,n,r,hl,e]:=I.lstM D;let#[U,G]:=RVs.reads I o r;let#[bs,V]:=RV.reads I P T;have J:=PySem.SeqAt.readsAll_map c a U E G;have b:c.length=a.length:=by rw[←J,No]
 have hu:=L.un;have K:min (kj c) d.depth<=d.depth:=nC _ _
 have f:∀m w,c[m]?=P3 w->∀(h:m<a.toArray.size),PySem.SeqAt.readOf s.heap a.toArray[m]=w:=λm w e h=>by
  rw[←J,jG]at e;have W:m<a.length:=by simpa using h
  rw[On W]at e;have e:=jH e
  simpa using e
 have B:j<a.length:=by rw[←b];exact(ZB.mp F).1
 refine Wc l a.toArray n u (λy=>kE (PySem.SeqAt.readOf s.heap y) d) j (by rw[f8];exact B) (by rw[f j S F];exact p) (λm g C=>?_) (by rw[f8];lk) e (PySem.SeqAt.items_eqAt (vs:=a.toArray) (by rw[List.toList_toArray];exact G) V E R^by lk) ?_
 .have i:m<c.length:=by rw[b];simpa using g
  rw[f m c[m] (On i) g];exact t m c[m] C (On i)
 .refine#[.non,_,I.lset (t':=s.toks) (its':=a.eraseIdx j) D e ?_ (r.eraseIdx j) ?_,rfl,q]
  .show a.toArray.eraseIdxIfInBounds j=(a.eraseIdx j).toArray
   rw[List.eraseIdxIfInBounds_toArray]
  .have:=IY O j
   omega
def TL:V->v_ V->Hp->VK->Prop:=λx b H Q=>∃(l:Db) (a:v_ V) (i:Int) (y:V),x=.ref l/\b=[.int i,y]/\H l=P3^.lst a/\0<=i/\i<=(a.length:Int)/\i<1000000000/\a.length<sizeLine/\Q .non^A4 H l^.lst (a.take i.toNat++y::a.drop i.toNat)
def ZW(a:v_ Ev)(u:Ev)(i:Int)(e:0<=i)(f:i<=(a.length:Int)):
  (λb:Array Ev=>have k:=if i<0 then(i+(b.size:Int)).toNat else min i.toNat b.size;(b.extract 0 k).push u++b.extract k) a.toArray=(a.take i.toNat++u::a.drop i.toNat).toArray:=by
 have c:¬i<0:=by lk
 have d:min i.toNat a.length=i.toNat:=by lk
 simp only[if_neg c,d]
 grind
def NI:dM X "list.insert" TL:=by
 intro p s Z H x w v A Q I j k h;let#[l,B,i,y,rfl,rfl,d,m,C,D,E,q]:=h;cases j;let#[u,f,rfl,o,c]:=vals2 k;let#[t,rfl]:=o;let#[z,a,n,r,G,e]:=I.lstM d
 have b:¬(!Builtin.List.listFitsIndex i)=t_:=by
  rw[fitsIndex_both (by lk)^by lk]
  grind
 have g:=AutoSeq1.list_insert_list_int_val_1 l a.toArray n i t f b (by grind);refine call_meets F.slot_list_insert #[_,e,rfl] F.entry_list_insert (F.args_list_insert_3 _ _ _) g #[e,?_];refine#[.non,_,I.lset d e (ZW a f i m^by grind) ((r.take _).append^.cons c^r.drop _) ?_,rfl,q]
 grind
end
end L2
namespace Dp
open L2
def fV(d:D)(b:v_ D)(P:D->D->Prop):Prop:=∃(a:v_ D) (y:D) (j:Nat),d=.lst a/\b=[y]/\Cd^.lst a/\Cd y/\(∃x,a[j]?=P3 x/\DQ x y=t_)/\(∀m x,m<j->a[m]?=P3 x->DQ x y=u_)/\P (.lst^a.eraseIdx j) .non
def fh{K:Frag}:YT K TK fV:=by
 intro M H a d G I P Q m t n w q;let#[b,y,j,rfl,rfl,#[o,s,_],#[v,z,A],#[x,B,c],f,w]:=w;let#[h,i,k]:=t;let#[u,r,rfl,C,D]:=n;cases(show r=[]from D)
 have g:∀(m:Nat) (p:nR),(Bp b)[m]?=P3 p->∃x,b[m]?=P3 x/\p=toPy x:=λm p e=>by
  rw[DX,jG]at e;let#[x,l,rfl]:=jx.mp e
  grind
 refine#[a,h,u,Bp b,toPy y,j,rfl,rfl,i,k.rv o,C.rv v,s,z,A,#[toPy x,by rw[DX,jG,B];rfl,c],λm p E e=>?_,q _ (.lst^b.eraseIdx j) .non _ #[h.eraseIdx j,Ah,?_] rfl w]
 .let#[F,l,rfl]:=g m p e
  exact f m F E l
 .exact(k.eraseIdx j).pres^CP m i
def Xt(d:D)(b:v_ D)(P:D->D->Prop):Prop:=∃(a:v_ D) (i:Int) (y:D),d=.lst a/\b=[.int i,y]/\0<=i/\i<=(a.length:Int)/\i<1000000000/\a.length<sizeLine/\P (.lst (a.take i.toNat++y::a.drop i.toNat)) .non
def aT{K:Frag}:YT K TL Xt:=by
 intro M H a d p s P Q m t g w q;let#[h,i,y,rfl,rfl,j,v,k,x,w]:=w;let#[l,e,b]:=t;let#[u,r,rfl,n,f,z,rfl,c,o]:=g;cases(o);cases(n);have A:=b.length;exact#[a,l,i,f,rfl,rfl,e,j,by simp_all,k,by simp_all,q _ (.lst _) .non _ #[_,Ah,((b.take _).append (show Ats K M H (y::h.drop _) _ from#[f,_,rfl,c,b.drop _])).pres^CP m e] rfl w]
def IK(c:IE)(i:Ac):Ac:=λd n a=>∃W:Nat->Nat->v_ Slot->Prop,(∃m,W m n a)/\∀m n a,W m n a->
 c n a λb e=>if b=t_ then ∃N:Nat->v_ Slot->Prop,(∀f g,N f g->∃h,h<m/\W h f g)/\i {d with nx:=N,ct:=N,bk:=d.nx} e a else d.nx e a
section
variable {X:Cx}{κ:Kd}{c:Expr}{body:v_ Stmt}{wc:IE}{wb:Ac}{pos:Pos}
def Hg(G:oH (model X.prog X.w) X.A X.env X.xe)(I:DT X c wc)(J:RH X κ body wb):DS X κ (.While c body [] pos)^IK wc wb:=by
 let#[tc,O,P]:=I;let#[tb,Q,S]:=J;refine#[_,Wy G O Q,λC M H n T Z y E R L w=>?_];let#[W,#[U,V],g]:=w;exists λm h t=>∃i j a,Rel X.K C i t j a h/\W m j a,#[U,M,n,T,R,V];rintro m h t ⟨i,j,a,z,Y⟩;refine P C i t j a h _ _ z (g m j a Y) λb H2 B e f p=>?_;have R2:=z.step e f;cases b with
 | true=>
  rw[if_pos rfl]at p ⊢;let#[N,hN,p]:=p;exists λD F=>∃u k l,Rel X.K C u F k l D/\N k l,λD F #[u,k,l,R3,w3]=>?_
  .let#[m',hm,d]:=hN k l w3
   exact#[m',hm,u,k,l,R3,d]
  .exact S C i H2 B a h {y with nx:=N,ct:=N,bk:=y.nx} _ R2 #[λo v q r x s d=>#[o,q,r,s,d],L.rt,λo v q r x s d=>L.nx o v q r x s d,λo v q r x s d=>#[o,q,r,s,d]] p
 |false=>
  rw[if_neg^by cbv]at p ⊢;exact L.nx i H2 B a h R2 p
def IJ{f:E2}{n:Nat}{a:v_ Slot}(I:Nat->Nat->v_ Slot->Prop)(i:Nat)(j:I i n a)
  (k:∀m n a (N:Nat->v_ Slot->Prop),I m n a->(∀c e g,c<m->I c e g->N e g)->wc n a λb d=>if b=t_ then wb {f with nx:=N,ct:=N,bk:=f.nx} d a else f.nx d a)
  (mono:∀n a (P Q:Bool->Nat->Prop),(∀b d,P b d->Q b d)->wc n a P->wc n a Q):IK wc wb f n a:=by
 refine#[I,#[i,j],λm n a h=>?_];refine mono n a _ _ (λb d p=>?_)^k m n a (λe g=>∃c,c<m/\I c e _) h λc e g l o=>#[c,l,o];cases b with
 |true=>exact#[_,λ_ _ z=>z,p]
 |false=>exact p
end
end Dp
namespace L2
open PySem.W
section
variable {prog:Program}{w:World}{A:Around}{E:Value->Shared->Prop}{R:Result->Shared->Prop}{I:Addr}{fp wr:v_ Addr}{n:Nat}{P:Nat->Value->Prop}{St:Nat->Heap->Prop}
def aY(prog:jM)(w:jT)(A:jY)(c:CmpOp)(P:Nat->Ev->Prop)(d:jI->Prop)(e:Nat->Nat->Bool):Prop:=
 ∀i j a b (s:Go) (Q:Ev->Go->Prop) (E:Ev->Go->Prop),d s.heap->P i a->P j b->Q (.bool^e i j) s->wpAny (model prog w) A (richCompare c a b) Q E s
def VC(W:Walks prog w A.in1 I fp wr n P St)(D:Nat->Nat->Bool)(G:jI->Prop)(H:aY prog w A.in1 .Lt P G D)(S:Db)(J:S∉fp)(g:∀h u:jI,G h->(∀b o,b∉wr->b≠S->h.get? b=P3 o->u.get? b=P3 o)->G u):
  ∀(k j:Nat) (s:Go) (r:Ev) (c:Nat),n - (j+1)=k->j+1<=n->St (j+1) s.heap->G s.heap->P (argBest D j) r->
  s.heap.get? S=P3 {cls:=.type "list",dict:=s_,data:=.seq #[ r,r] c,slots:=#[]}->
  (∀v u O,P (argBest D (n - 1)) v->(∀b o,b∉wr->b≠S->s.heap.get? b=P3 o->u.get? b=P3 o)->R (.ok^.ret v) {s with heap:=u,toks:=O})->
  codeAny (model prog w) A (.builtin "min.loop" #[[.ref I,.none,.ref S],[]]) R s:=by
 have K:S∉wr:=λh=>J^W.sub _ h;have i:(toString "min"++toString ".loop":String)="min.loop":=by cbv
 intro k
 induction k with
 |zero=>
  intro j s r c Z hj y L t M Q;have N:j+1=n:=by lk
  refine kF PySem.F.entry_min_loop ?_;rw[kL PySem.F.plain_min_loop _];show wpAny _ A.in1 (seqItems?^.ref S >>=_) _ _ s;refine Ch (k7 M rfl ?_);show wpAny _ A.in1 (tryCatch (pyNext^.ref I) _ >>=_) _ _ s;refine Ch^oo^W.done s _ _ (N▸y) λu O a=>?_;have l:=a S _ K M;show wpAny _ A.in1 (updateSeq S (λ_=>#[]) >>=_) _ _ _;refine Ch ?_;refine mn l rfl (Ch^mq^Re ?_);refine Q r _ O (by rw[←N];exact t) λb o d f e=>(jF _ _^jv f).trans^a b o d e
 | succ k V=>
  intro j s r c Z hj y L t M Q;have z:j+1<n:=by lk
  refine kF PySem.F.entry_min_loop ?_;rw[kL PySem.F.plain_min_loop _];show wpAny _ A.in1 (seqItems?^.ref S >>=_) _ _ s;refine Ch (k7 M rfl ?_);show wpAny _ A.in1 (tryCatch (pyNext^.ref I) _ >>=_) _ _ s;refine Ch^oo^W.item (j+1) s _ _ z y λv u O X x a=>?_;have l:=a S _ K M;have m:G u:=g _ _ L λb o h1 _ e=>a b o h1 e;show wpAny _ A.in1 (tryCatch (holding [v,v] (richCompare .Lt v r >>=_)) _ >>=_) _ _ _;refine Ch^oo^jn^Ch^H (j+1) (argBest D j) v r _ _ _ m X t ?_;refine Ch^jn^kd ?_;refine Ch^mq^Re ?_;cases Y:D (j+1)^argBest D j with
  | true=>
   simp only[if_true];refine Ch ?_;refine mn l rfl (Ch^mq ?_);rw[i]
   refine Re #[kQ PySem.F.plain_min_loop _,V (j+1) _ v _ (by lk) z (W.frame _ _ _ x λb T o e=>?_) (g _ _ m λb o _ h2 e=>(jF _ _^jv h2).trans e) (by simp only[argBest,Y,if_true];exact X) (jr _ l rfl)
    λU B p C q=>?_]
   .exact(jF _ _ λh:S=b=>J^by rw[h];exact T).trans e
   .exact Q U B p C λb o d f e=>q b o d f^(jF _ _^jv f).trans^a b o d e
  |false=>
   simp only[kC,if_false];refine Ch^mq ?_;rw[i];refine Re #[kQ PySem.F.plain_min_loop _,V (j+1) _ r c (by lk) z x m (by simp only[argBest,Y,kC,if_false];exact t) l λU B p C q=>?_];exact Q U B p C λb o d f e=>q b o d f^a b o d e
def R8(W:Walks prog w A.in1 I fp wr n P St)(x:Nat->Nat->Bool)(j:jI->Prop)(k:aY prog w A.in1 .Lt P j x)(S:Db)(d:S∉fp)(a:∀h f:jI,j h->(∀b o,b∉wr->b≠S->h.get? b=P3 o->f.get? b=P3 o)->j f)(G:0<n){s:Go}{c:Nat}(y:St 0 s.heap)(z:j s.heap)
  (H:s.heap.get? S=P3 {cls:=.type "list",dict:=s_,data:=.seq #[] c,slots:=#[]})
  (K:∀v f J,P (argBest x (n - 1)) v->(∀b o,b∉wr->b≠S->s.heap.get? b=P3 o->f.get? b=P3 o)->R (.ok^.ret v) {s with heap:=f,toks:=J}):
  codeAny (model prog w) A (.builtin "min.loop" #[[.ref I,.none,.ref S],[]]) R s:=by
 have B:S∉wr:=λh=>d^W.sub _ h;have g:(toString "min"++toString ".loop":String)="min.loop":=by cbv
 refine kF PySem.F.entry_min_loop ?_;refine Ch (k7 H rfl ?_);refine Ch^oo^W.item 0 s _ _ G y λv f J L l i=>?_;have m:=i S _ B H;have p:j f:=a _ _ z λb o M _ e=>i b o M e;show wpAny _ A.in1 (updateSeq S (λ_=>#[ v,v]) >>=_) _ _ _;refine Ch ?_;refine mn m rfl ?_;rw[g];refine Re #[kQ PySem.F.plain_min_loop _,VC W x j k S d a _ 0 _ v _ rfl G (W.frame _ _ _ l λb N o e=>?_) (a _ _ p λb o _ O e=>(jF _ _^jv O).trans e) L (jr _ m rfl) λQ C q D r=>?_]
 .exact(jF _ _ λh:S=b=>d^by grind).trans e
 .exact K Q C q D λb o t u e=>r b o t u^(jF _ _^jv u).trans^i b o t e
def min_list{s:Go}{l:Db}{a:Array Ev}{Q:Ev->Go->Prop}(u:Nat->Nat->Bool)(G:A.handled=s_)(x:s.heap.IsList l a)(H:0<a.size)
  (m:∀i j r t (p:Go) (Q:Ev->Go->Prop) (E:Ev->Go->Prop),(∀b o,s.heap.get? b=P3 o->p.heap.get? b=P3 o)->a[i]?=P3 r->a[j]?=P3 t->Q (.bool^u i j) p->wpAny (model prog w) A.in1 (richCompare .Lt r t) Q E p)
  (h:∀v k y,a[argBest u (a.size - 1)]?=P3 v->(∀b o,s.heap.get? b=P3 o->k.get? b=P3 o)->Q v {s with heap:=k,toks:=y}):wpAny (model prog w) A (call (.builtin "min") [.ref l]) Q E s:=by
 have d:(toString "min"++toString ".loop":String)="min.loop":=by cbv
 have f:l<s.heap.objs.size:=by let#[_,e,_]:=x;exact Uf e
 refine call_function_tree PySem.F.kind_min PySem.F.plain_min PySem.F.entry_min (PySem.F.args_min1 _) ?_;show wpAny _ A.in1 (o6 "min" ["key","default"] 0 #[[],[]] >>=_) _ _ s;refine Ch^k6 (show o6 "min" ["key","default"] 0 #[[],[]]=pure [s_,s_]from rfl) ?_;refine Ch^Re ?_;refine Ch^k9 x ?_;refine Ch^j1 ?_;rw[d];have W:=Walks.list (prog:=prog) (w:=w) (A:=A.in1) G s.heap.objs.size l (jL f) a;have g:(s.heap.push {cls:=.type "list_iterator",data:=.fields #[ .ref l,.int 0 0]}).objs.size=s.heap.objs.size+1:=ku _ _;refine Re #[kQ PySem.F.plain_min_loop _,R8 W u (λk=>∀b o,s.heap.get? b=P3 o->k.get? b=P3 o) (λi j r t p Q E z C D q=>m i j r t p Q E z C D q) (s.heap.push {cls:=.type "list_iterator",data:=.fields #[ .ref l,.int 0 0]}).objs.size (λc=>?_) (λC D z B b o e=>B b o (λc=>?_) ?_^z b o e) H #[#[_,FM _ (XV _ rfl),rfl,rfl],(x.push _).push _] (λb o e=>FM _^FM _ e) (XV _ rfl) λv k y J B=>?_]
 .rw[g]at c
  rcases UF.mp c with e|c
  .exact absurd e^Nat.succ_ne_self _
  .rw[←Tk.mp c]at f
   exact absurd f^ng.mpr^jk _
 .rw[Tk.mp c]at e
  exact absurd (Uf e)^j7 _
 .rw[g]
  exact jL^ke^Uf e
 .refine h v k y J λb o e=>B b o (λc=>?_) ?_^FM _^FM _ e
  .rw[Tk.mp c]at e
   exact absurd (Uf e)^j7 _
  .rw[g]
   exact jL^ke^Uf e
end
theorem Lv(a:v_^v_ Key):∀m:Nat,argBest (λi j=>Bw (a.getD i [])^a.getD j []) m<=m/\∀i,i<=m->Bw (a.getD i [])^a.getD (argBest (λi j=>Bw (a.getD i [])^a.getD j []) m) []=u_
 |0=>#[Op _,λi b=>by
  have:i=0:=by lk
  subst this;exact C9 _]
 | m+1=>by
  let#[f,d]:=Lv a m;unfold argBest
  by_cases c:Bw (a.getD (m+1) [])^a.getD (argBest (λi j=>Bw (a.getD i [])^a.getD j []) m) []=t_
  .rw[if_pos c]
   refine#[Op _,λi b=>?_]
   by_cases e:i=m+1
   .subst e;exact C9 _
   .cases z:Bw (a.getD i [])^a.getD (m+1) [] with
    |false=>rfl
    |true=>
     have:=Cy _ _ _ z c
     rw[d i^by lk]at this;cases this
  grind
section
variable {X:Cx}
def aA(K:Frag):v_ V->Hp->VK->Prop:=λc H Q=>∃(p:Db) (b:v_ V) (a:v_^v_ Key),c=[.ref p]/\SqL K H p b/\0<b.length/\KeysAt K H b a /\
 ∀j v,b[j]?=P3 v->(∀i,i<b.length->Bw (a.getD i [])^a.getD j []=u_)->Q v H
def Ve{k:Nat}(U:Room k X.A):DR X (.builtin "min")^aA X.K:=by
 intro zG s Z H V us Q I r h;let#[p,vs,c,rfl,hq,hn,B,q]:=h;let#[u,rfl,rx]:=vals1 r;cases rx;let#[f,E,pl,hz]:=I.list hq;have W:=E.length;have Y:=B.tups I E λb o e=>e;have hu:=U.un;refine min_list (λi j=>Bw (c.getD i [])^c.getD j []) U.hd pl.isList (by rw[f8];lk) (λi j vi vj s' Q' E' d G J L=>?_) λv h' M N d=>?_
 .have C:i<c.length:=by rw[←B.len,W];have:=(nI.mp G).1;simpa using this
  have l:j<c.length:=by rw[←B.len,W];have:=(nI.mp J).1;simpa using this
  let#[a,#[a2,dd,a0,sl],V,n,m,D,e3,e4,e5]:=Y.at_ i c[i] (On C);let#[a',#[a1,O,P,R],S,n',g,t,w,y,T]:=Y.at_ j c[j] (On l);simp only at e3 e4 w y;subst e3 e4 w y;have m:f.toArray[i]?=P3^.ref a:=by rw[←m];simp
  have g:f.toArray[j]?=P3^.ref a':=by rw[←g];simp
  rw[m]at G;rw[g]at J;cases G;cases J;have z:=B.same _ (jm C) _^jm l;have g1:c.getD i []=c[i]:=by rw[j8,On C];rfl
  have g2:c.getD j []=c[j]:=by rw[j8,On l];rfl
  simp only[g1,g2]at L;rw[←J5 _ _ z]at L
  exact richCompare_meets_room (op:=.Lt) #[_,d _ _ D,rfl] #[_,d _ _ t,rfl] PySem.F.slot_tuple_lt PySem.F.entry_tuple_lt (PySem.F.args_tuple_lt_2 _ _) (GF a a' V S n n' dd O sl R c[i] c[j] e5 T z)
   #[d _ _ D,d _ _ t,show pN (Gs c[i] c[j])≠Value.notImplemented/\Q' (.bool (Gs c[i] c[j])) s' from#[(λx=>nomatch x),L]] (by show X.A.units+1<cLine;lk)
 .let#[b1,b2]:=Lv c (f.toArray.size - 1)
  rw[f8]at N b1 b2;have l:argBest (λi j=>Bw (c.getD i [])^c.getD j []) (f.length - 1)<vs.length:=by lk
  let#[u,m,ru]:=E.get^On l;have D:f.toArray[argBest (λi j=>Bw (c.getD i [])^c.getD j []) (f.length - 1)]?=P3 u:=by rw[←m];simp
  rw[D]at N;cases N;exact#[_,H,I.kept (t':=M) d,ru,q _ _ (On l) λi C=>b2 i^by lk]
end
end L2
namespace Dp
open L2
def aL(d:v_ D)(P:D->Prop):Prop:=∃a,d=[.lst a]/\0<a.length/\Keyed Cz a/\∀x∈a,(∀y∈a,∀b c,Cz x=P3 b->Cz y=P3 c->Bw c b=u_)->P x
def ci{K:Frag}:EY K .sh (aA K) aL:=by
 intro U M H D E P Q p F r w q;let#[e,rfl,G,l,w]:=w;let#[v,rfl,s]:=FK r;let#[a,t,rfl,_,u,f]:=s;let#[b,x,g]:=F1 l.1;have c:=f.length;refine#[a,t,b,rfl,.inl u,by lk,Ih (λd k v _=>Ii) f l x g,λj v m z=>?_];have h:j<e.length:=by rw[←c];exact(ZB.mp m).1
 let#[I,n,A]:=f.get^On h;rw[m]at n;cases n;refine q v H e[j] .refl A (w _ (jm h) λy B J L ex N=>?_);let#[i,o]:=mC.mp B;have C:i<e.length:=(ZB.mp o).1;let#[O,R,S,_]:=g i y o;let#[T,V,W,_]:=g j e[j] (On h)
 grind
end Dp
namespace Nt
open L2 Dp
theorem NH{c i:Type}{f:c->i}:∀{l:v_ c},l.Nodup->(∀a∈l,∀b∈l,f a=f b->a=b)->(l.map f).Nodup
 |[],_,_=>kR
 |a::l,h,d=>by
  rw[ja]at h;rw[ju,ja];refine#[λj=>?_,NH h.2 λx k y m=>d x (Sc _ k) y^Sc _ m];let#[b,g,e]:=TM.mp j;exact h.1 (d a Rs b (Sc _ g) e.symm▸g)
def ZL{f m j k:Nat}{M:Nat}(d:m<=M)(g:j<m)(i:k<m)(e:(f+j) % M=(f+k) % M):j=k:=by
 have h:∀a b,a<=b->b<m->(f+a) % M=(f+b) % M->a=b:=λa b c l e=>by
  have:=Nat.sub_mod_eq_zero_of_mod_eq e.symm
  rw[Nat.mod_eq_of_lt^by lk]at this;lk
 rcases Nat.le_total j k with c|c
 .grind
 grind
def Qv(a:v_ Str):Sg^a.map .str=P3 a:=by
 induction a with
 |nil=>rfl
 |cons y r b=>
  rw[ju];unfold Sg
  grind
theorem IW{b:BW}{g:Ac}{l:E2}{all:v_ D}(I:v_ D->Nat->v_ Slot->Prop)(i:∀n c,I all n c->l.nx n c)
  (f:∀(a:v_ D) (d:D) (j:v_ D) (n:Nat) (c:v_ Slot) (nx:Nat->v_ Slot->Prop),all=a++d::j->I a n c->(∀m o,I (a++[d]) m o->nx m o)->b d c λp=>g {l with nx:=nx,ct:=nx,bk:=l.nx} n p):
  ∀(k a:v_ D) (n:Nat) (c:v_ Slot),all=a++k->I a n c->A7 b g l k n c
 |[],a,n,c,e,h=>by
  rw[jZ]at e;subst e;exact i n c h
 |d::k,a,n,c,e,h=>f _ d k n c _ e h λm o q=>IW I i f k _ m _ (by grind) q
def TJ{c:Int}{n:Nat}{a b:v_ D}{d:D}(h:GB c n=a++d::b):d=.int (c+(a.length:Int))/\a.length<n:=by
 have f:=congrArg n8 h;rw[FH]at f;have e:(GB c n)[a.length]?=P3 d:=by grind
 unfold GB at e
 simp_all
structure BP where
 a:Str
 b:Str
 len:Int
structure Net where
 ps:List Str
 ts:List BP
def Aj(t:BP):D:=.tup [.str t.a,.str t.b,.int t.len]
def enc(N:Net):D:=.tup [.tup^N.ps.map .str,.tup^N.ts.map Aj]
def By(s t:BP):Prop:=cs s.a<cs t.a\/(s.a=t.a/\cs s.b<cs t.b)
structure Net.Ok (N:Net):Prop where
 names:∀x∈N.ps,SI x
 rise:rising N.ps
 tin:∀t∈N.ts,t.a∈N.ps/\t.b∈N.ps/\cs t.a<cs t.b/\1<=t.len/\t.len<=1000000
 trise:N.ts.Pairwise By
structure Ix where
 i:Nat
 j:Nat
 len:Int
def EA(c:v_ BP)(p:Str):v_ (Str×Int):=c.flatMap λt=>(if t.a=p then [(t.b,t.len)]else [])++(if t.b=p then [(t.a,t.len)]else [])
def YX(a:v_ BP)(p:Str):D:=.fdi ((EA a p).map λx=>.inr x.1)^(EA a p).map λx=>.int x.2
def FA(N:Net):D:=.dic (N.ps.map .inr)^N.ps.map^YX N.ts
def PD:W2:=λa n P=>∃N:Net,a=[.sh^enc N]/\N.Ok/\N.ps.length<=1000/\N.ts.length<=1000/\P (FA N) n
def kv(x:Str×Int):Key×V:=(.inr x.1,.int x.2)
structure Stp (H:Hp) (d:Db) (as:List (Str×Db)) (tb:Str->List (Key×V)) (H':Hp):Prop where
 old:∀b o,H b=P3 o->H' b=P3 o
 new:H d=s_
 top:H' d=P3 (.dK^as.map λx=>(.inr x.1,.ref x.2))
 inn:∀x∈as,H x.2=s_/\x.2≠d/\H' x.2=P3 (.dK^tb x.1)
 ads:(as.map (·.2)).Nodup
 nms:(as.map (·.1)).Nodup
def Jx{b:v_ (Str×Db)}(c:(b.map (·.1)).Nodup){p:Str}{a:Db}(h:(p,a)∈b):E5 (b.map λx=>((.inr x.1:Key),V.ref x.2))^.inr p=P3^.ref a:=by
 induction b with
 |nil=>cases h
 | cons x r d=>
  rw[ju,ja]at c
  rcases UF.mp h with e|h
  .rw[←e]
   exact E9 rfl
  .exact(E_ λe=>c.1^by rw[lu e];exact TM.mpr #[_,h,rfl]).trans^d c.2 h
def Rm{a:v_ (Str×Db)}{p:Str}{v:V}(h:p∉a.map (·.1)):putK (a.map λx=>((.inr x.1:Key),V.ref x.2)) (.inr p) v=(a.map λx=>((.inr x.1:Key),V.ref x.2))++[(.inr p,v)]:=by
 unfold putK
 simp_all
def TV{a:v_ (Str×Int)}{p:Str}{l:Int}(h:p∉a.map (·.1)):putK (a.map kv) (.inr p)^.int l=(a++[(p,l)]).map kv:=by
 unfold putK;rw[if_neg,jz]
 .rfl
 .rw[mU]
  rintro⟨y,b,e⟩;let#[x,c,rfl]:=TM.mp b;exact h^TM.mpr #[x,c,lu^of_decide_eq_true e]
def Stp.more{H m:Hp}{d q:Db}{l:v_ (Str×Db)}{n:Str->v_ (Key×V)}{p:Str}(s:Stp H d l n m)(i:m q=s_)(v:p∉l.map (·.1))(A:n p=[]):
  Stp H d (l++[(p,q)]) n (A4 (A4 m q^.dK []) d^.dK^putK (l.map λx=>((.inr x.1:Key),V.ref x.2)) (.inr p)^.ref q):=by
 have w:q≠d:=λe=>by rw[e,s.top]at i;cases i
 have k:H q=s_:=by
  cases c:H q with
  |none=>rfl
  |some o=>rw[s.old q o c]at i;cases i
 exists λb o e=>?_,s.new,?_,λx f=>?_,?_
 .have B:b≠d:=λz=>by rw[z,s.new]at e;cases e
  have r:b≠q:=λz=>by rw[z,k]at e;cases e
  rw[AW B,AW r];exact s.old b o e
 .rw[Ah,Rm v,jz];rfl
 .rcases jK.mp f with f|f
  .let#[y,t,j]:=s.inn x f
   have r:x.2≠q:=λz=>by rw[z,i]at j;cases j
   exact#[y,t,by rw[AW t,AW r];exact j]
  .rw[Tk.mp f]
   exact#[k,w,by rw[AW w,Ah,A]]
 .rw[jz,lL]
  refine#[s.ads,ja.mpr #[(λh=>by cases h),kR],λa u b g e=>?_];let#[x,f,rfl]:=TM.mp u;have g:b=q:=Tk.mp g;let#[y,t,j]:=s.inn x f;rw[e,g,i]at j;cases j
 .rw[jz,lL]
  refine#[s.nms,ja.mpr #[(λh=>by cases h),kR],λa u b g e=>?_];have g:b=p:=Tk.mp g;exact v^by rw[←g,←e];exact u
def U9{c:v_ (Str×Db)}(d:(c.map (·.1)).Nodup){p:Str}{a b:Db}(e:(p,a)∈c)(f:(p,b)∈c):a=b:=by
 have:=(Jx d e).symm.trans^Jx d f
 grind
def U8{b:v_ (Str×Db)}(c:(b.map (·.2)).Nodup){p q:Str}{a:Db}(e:(p,a)∈b)(f:(q,a)∈b):p=q:=by
 induction b with
 |nil=>cases e
 | cons x r i=>
  rw[ju,ja]at c
  rcases UF.mp e with j|g
  .rcases UF.mp f with h|d
   .grind
   .exact absurd (TM.mpr #[_,d,by rw[←j]]) c.1
  .rcases UF.mp f with h|d
   .exact absurd (TM.mpr #[_,g,by rw[←h]]) c.1
   .exact i c.2 g d
def Stp.put{H g:Hp}{d a:Db}{c:v_ (Str×Db)}{h tb2:Str->v_ (Key×V)}{p:Str}{kvs:v_ (Key×V)}(s:Stp H d c h g)(f:(p,a)∈c)(i:tb2 p=kvs)(j:∀q,q≠p->tb2 q=h q):
  Stp H d c tb2 (A4 g a^.dK kvs):=by
 let#[u,k,v]:=s.inn _ f;refine#[λb o e=>?_,s.new,?_,λx l=>?_,s.ads,s.nms]
 .have m:b≠a:=λz=>by grind
  rw[AW m];exact s.old b o e
 .rw[AW^jv k]
  exact s.top
 .let#[n,r,t]:=s.inn x l
  exists n,r
  by_cases e:x.2=a
  .have:=U8 s.ads (show(x.1,a)∈c by grind) f
   rw[e,Ah,this,i]
  .have:x.1≠p:=λz=>e^U9 s.nms (show(p,x.2)∈c by grind) f
   rw[AW e,j _ this];exact t
def QE(c:v_ BP)(t:BP)(p:Str):EA (c++[t]) p=EA c p++((if t.a=p then [(t.b,t.len)]else [])++(if t.b=p then [(t.a,t.len)]else [])):=by
 unfold EA
 simp_all
def OQ{d:v_ BP}{p q:Str}(h:q∈(EA d p).map (·.1)):∃t∈d,(t.a=p/\t.b=q)\/(t.b=p/\t.a=q):=by
 let#[x,c,rfl]:=TM.mp h;let#[t,e,c]:=lN.mp c;exists t,e
 rcases jK.mp c with c|c
 .simp_all
 simp_all
def To(c:v_ BP)(p:Str):(EA c p).length<=2*c.length:=by
 induction c with
 |nil=>exact eq _
 |cons t r d=>
  unfold EA at d ⊢;rw[List.flatMap_cons,jD,jD];have e:(if t.a=p then [(t.b,t.len)]else []).length<=1:=by grind
  grind
def Xx{d:v_ BP}{t:BP}(i:(d++[t]).Pairwise By)(f:∀s∈d++[t],cs s.a<cs s.b):t.b∉(EA d t.a).map (·.1)/\t.a∉(EA d t.b).map (·.1):=by
 rw[List.pairwise_append]at i
 have g:∀s∈d,¬((s.a=t.a/\s.b=t.b)\/(s.b=t.a/\s.a=t.b)):=λs c e=>by
  have j:=i.2.2 s c t (Tk.mpr rfl);have m:=f s^lJ _ c;have n:=f t^jU _ (Tk.mpr rfl)
  rcases e with⟨k,l⟩|⟨k,l⟩
  .unfold By at j
   grind
  grind
 refine#[λh=>?_,λh=>?_]
 .let#[s,c,e]:=OQ h
  exact g s c e
 .let#[s,c,e]:=OQ h
  exact g s c^e.elim (λz=>.inr #[z.2,z.1]) λz=>.inl #[z.2,z.1]
def N5{c:v_ Str}(h:rising c):c.Nodup:=h.imp λ{a b} d e=>by grind
def R7{a:v_ Str}(h:a.Nodup){i:Nat}(c:i<a.length):a[i]∉a.take i:=by
 have e:a=a.take i++a[i]::a.drop (i+1):=by
  simp_all
 intro b;rw[e,lL]at h;exact h.2.2 _ b _ Rs rfl
def Stp.at_{K:Frag}{M:Db->Prop}{H q:Hp}{d:Db}{c:v_ (Str×Db)}{N:Net}(t:∀a,M a->∃o,H a=P3 o)(s:Stp H d c (λp=>(EA N.ts p).map kv) q)(u:c.map (·.1)=N.ps)(f:Db->Obj):At K M (Gv q (c.map (·.2)) f) (FA N)^.ref d:=by
 have v:∀b,H b=s_->¬M b:=λb e m=>by let#[o,h]:=t b m;rw[h]at e;cases e
 have i:∀c:v_ (Str×Db),(c.map λx=>((.inr x.1:Key),V.ref x.2))=((c.map (·.1)).map (.inr:Str->Key)).zip (c.map λx=>V.ref x.2):=λc=>by
  grind
 refine#[d,c.map λx=>.ref x.2,rfl,#[v d s.new,by rw[ES (λw=>by let#[x,j,e]:=TM.mp w;exact(s.inn x j).2.1 e),s.top,i,u]],by rw[No,No],?_];rw[←u]
 have z:∀k:v_ (Str×Db),(∀x∈k,x∈c)->Ats K M (Gv q (c.map (·.2)) f) ((k.map (·.1)).map^YX N.ts) (k.map λx=>V.ref x.2):=λk=>by
  induction k with
  |nil=>intro _;rfl
  | cons x r l=>
   intro j;refine#[.ref x.2,r.map λx=>V.ref x.2,rfl,?_,l λy A=>j y^Sc _ A];let#[B,D,C]:=s.inn x^j x Rs
   have n:∀g:v_ (Str×Int),g.map kv=(g.map λx=>(.inr x.1:Key)).zip (g.map λx=>V.int x.2):=λg=>by
    induction g with
    |nil=>rfl
    |cons x r l=>rw[ju,l];rfl
   refine#[x.2,(EA N.ts x.1).map λx=>V.int x.2,rfl,#[f x.2,v _ B,by rw[Tz (TM.mpr #[x,j x Rs,rfl]) C,n]],by rw[No,No],?_];generalize EA N.ts x.1=g
   induction g with
   |nil=>rfl
   |cons x r l=>exact#[.int x.2,_,rfl,rfl,l]
 exact z c λ_ h=>h
end Nt
namespace L2
def iJ(d:Db)(o:Obj)(a:v_ (Key×V)):It:=
 #[λi H=>H d=P3^.frz o^.dK a/\i<a.length,λi H x b=>∃T p,x=.ref T/\H T=s_/\a[i]?=P3 p/\b=A4 H T^.tup [kV p.1,p.2],λi H=>H d=P3^.frz o^.dK a/\a.length<=i]
def b_{P:jM}{w:jT}{k:Key}{u:Ev}(h:(BH P w).is k u=t_):RelV (kV k) u:=by
 rcases BX h with⟨i,t,rfl,rfl⟩|⟨x,t,rfl,rfl⟩
 .exact#[t,rfl]
 .exact#[t,rfl]
def Oc{X:Cx}{j:v_ (Db×Obj)}{Z:L2.St}{H:Hp}{s:Go}{d:Db}{o:Obj}{a:v_ (Key×V)}{c:Array DictEntry}{e:Nat}(I:Inv X j Z H s)(h:H d=P3^.frz o^.dK a)(hd:o.data=.dict c e):
  ∃b,KV a b/\s.heap.DictAt (BH X.prog X.w) d b e:=by
 let#[f,_,_,b,k,q,l,m,g,n,i,p]:=(I.hok d _ h);rw[f]at g;cases g;rw[hd]at i;cases i;exact#[b,k,o,c,f,n,hd,p]
def RO{P:jM}{w:jT}{K:Frag}{J:v_ jX}{j:Nat}{pos:Pos}(d it:Db)(o:Obj)(f:v_ (Key×V))(es:Array DictEntry)(Y:Nat)(l:o.data=.dict es Y):
  Turn P w K (.Tuple J j pos) (iJ d o f) [it] it (λi h=>∃ok m,IsItemIter h it d i f.length Y ok m) where
 mem:=by simp
 obj:=λi h #[ok,m,b] c a=>by
  rw[Tk.mp a];exact#[_,b,λv q=>by cases q]
 keep:=λi h h' #[ok,m,b] k=>#[ok,m,k it (by simp) _ b]
 item:=by
  intro X L M N a i zG s Z H E I B b O;subst L M N;let#[R,hi]:=O;let#[ok,m,b]:=b;let#[C,F,D]:=Oc I R l
  have G:=F.length;have S:i<C.length:=by lk
  rw[G]at b;obtain⟨k,v,T⟩:∃k v,C[i]=(k,v):=#[_,_,rfl];have hx:C[i]?=P3 (k,v):=by rw[On S,T]
  have hp:f[i]?=P3 f[i]:=On hi;let#[U,rv]:=LC F hp hx;have U:f[i].1=k:=U;refine wpAny_pyNext_items_item b D hx λn h' p r t a0 u=>#[_,rfl,?_];refine wpAny_letOwnedTupleGo_items r λh2 x g=>?_;have hT:H s.heap.objs.size=s_:=I.hok.fresh^Op _;have y:s.heap.objs.size≠it:=lS^Uf b
  have kk:∀c o,c∉[it]->s.heap.get? c=P3 o->h2.get? c=P3 o:=λc o a e=>by
   have a:c≠it:=λz=>a (by rw[z];exact Tk.mpr rfl);exact(g.2 c a).trans^u c o a e
  have I2:Inv X zG Z (A4 H s.heap.objs.size^.tup [kV f[i].1,f[i].2]) {s with heap:=h2}:=by
   refine I.turnLaid (t':=s.toks) (ch:=[it]) (λc a=>B c a) kk (Op _) ?_;exact#[by show 2<=sizeLine;decide,[n,v],.cons (b_^by rw[U];exact p)^.cons rv .nil,#[_,(g.2 _ y).trans t,rfl,_,rfl,rfl,rfl]]
  refine#[.ref s.heap.objs.size,_,I2,rfl,#[_,_,rfl,hT,hp,rfl],#[n,v,by rw[G];exact x],λc a=>?_];rw[Tk.mp a,AW^jv y];exact(B it^by simp).1
 done:=by
  intro X L M N a i zG s Z H E I B b O;subst L M N;let#[R,hi]:=O;let#[ok,m,b]:=b;let#[C,F,D]:=Oc I R l
  have G:=F.length;rw[G]at b;refine wpAny_pyNext_items_end (I.ok.hd a) b D (oJ^by lk) λh' ext=>#[rfl,?_];exact I.turnedL (t':=s.toks) (ch:=[it]) (λc a=>B c a) λc o a e=>ext c o (λz=>a^by rw[z];exact Tk.mpr rfl) e
 self:=λA i s Q E #[ok,m,b] h=>PySem.W.kcp_self b h
def cF(c:TE):TI:=λZ H R=>c Z H λx b=>∃d o a,x=.ref d/\b d=P3^.frz o^.dK a/\∀r,b r=s_->R (iJ d o a)^A4 b r^.ext λh=>h.IsItemsView r d
def W5{X:Cx}{e:jX}{z:v_ jX}{j:Nat}{p g i:Pos}{G:TE}(P:PE X e G)(m:attributeBase e "items" X.env^eval e X.env=eval e X.env:=by rfl)(n:(g.endLine==i.line)=t_:=by rfl):
  PI X (.Tuple z j p) (.Call (.Attribute e "items" g) [] [] i) (cF G):=by
 intro J s Z H R I h;refine wpAny_Call_method0_late m n^thn (P J s Z H _ I h) λv a #[x,u,r,Q,d,o,f,ex,t,q]=>?_;subst ex;cases Q;let#[K,L,S]:=SK r^.inl #[f,.inr #[o,t]];let#[_,_,M,T,D]:=GX r.hok^.inr #[o,t];refine#["dict","dict.items",PySem.F.plainAttrs_dict,PySem.F.slot_dict_items,PySem.F.type_dict_items,K,L,lr rfl (PySem.evalArgs_none ?_)];refine oP PySem.F.slot_dict_items D.typeIs PySem.F.entry_dict_items (PySem.F.args_dict_items_1 _) (meets_dict_items (BH X.prog X.w) d S) #[#[M,D],?_];have N:u a.heap.objs.size=s_:=r.fresh;have O:(a.heap.push {cls:=.type "dict_items",data:=.fields #[ .ref d]}).IsItemsView a.heap.objs.size d:=#[_,XV _ rfl,rfl,rfl]
 have y:Inv X J Z (A4 u a.heap.objs.size^.ext λh=>h.IsItemsView a.heap.objs.size d) {a with heap:=a.heap.push {cls:=.type "dict_items",data:=.fields #[ .ref d]}}:=
  r.laid (t':=a.toks) (λb o e=>FM _ e) (Op _) #[O,#[_,XV _ rfl],λK L #[o,e,c] k=>#[o,k o e,c]]
 have A:(A4 u a.heap.objs.size^.ext λh=>h.IsItemsView a.heap.objs.size d) d=P3^.frz o^.dK f:=by rw[AW^A6 t N];exact t
 obtain⟨B,C,l⟩:∃B C,o.data=.dict B C:=by
  let#[e0,_,_,M,T,o',U,V,e1,e2,e3,e4]:=(show ObjOk X.prog X.w u a.heap d^.frz o^.dK f from r.hok d _ t)
  grind
 let#[W,E,Y]:=Oc y A l
 have hl:=E.length;refine wpAny_pyIter_items (s:={a with heap:=a.heap.push {cls:=.type "dict_items",data:=.fields #[ .ref d]}}) O Y ?_;refine#[_,[(a.heap.push {cls:=.type "dict_items",data:=.fields #[ .ref d]}).objs.size],_,iJ d o f,_,rfl,y.kept (t':=a.toks) λb o e=>FM _ e,RO d _ o f B C l,#[.none,.none,by rw[hl];exact XV _ rfl],λc hc=>?_,q _ N];rw[Tk.mp hc];exact y.fpOk (Op _) y.fresh
end L2
namespace Dp
open L2
def wItems(c:DW):Ea:=λn e P=>c n e λd f=>∃a b,d=.fdi a b/\(∀k∈a,Tv k)/\P (EH (a.map dJ) b) f
def cA(k:Key):kV k=kOf k:=by cases k <;>rfl
section
variable {X:Cx}{a:Expr}{zU:Kd}{wa:DW}{els:v_ Expr}{j:Nat}{tpos apos cpos:Pos}
def X4(V:DE X a zU wa)(c:attributeBase a "items" X.env^eval a X.env=eval a X.env:=by rfl)(f:(apos.endLine==cpos.line)=t_:=by rfl):DI X (.Tuple els j tpos) (.Call (.Attribute a "items" apos) [] [] cpos)^wItems wa:=by
 let#[t,W,Y]:=V;refine#[_,W5 W c f,λC M H n ρ Z P Rr R w q=>?_];refine Y C M H n ρ Z _ _ R w λv l d n1 I J r1 p=>?_;let#[b,m,rfl,s,p]:=p;have R1:=R.step I J;obtain⟨D,k,rfl,⟨o,nM,L⟩,N,O⟩:∃a k,v=.ref a/\NdF M l a b k/\b.length=m.length/\Ats X.K M l m k:=r1.tpOf R.dom R.vM;have hl:=O.length;refine#[D,o,_,rfl,L,λr hr=>?_];have g:Grow l (A4 l r^.ext λh=>h.IsItemsView r D):=A1 hr;refine q _ _ _ n1 (I.trans g.ext) (J.grow g) (λi Q E pr F=>?_) p;have u:Pres M l Q E:=g.pres.trans pr;have z:E D=P3^.frz o^.dK^b.zip k:=(u.nd nM L).2;have zl:(b.zip k).length=b.length:=by rw[List.length_zip];lk
 have zd:(EH (b.map dJ) m).length=b.length:=by unfold EH;rw[List.length_zipWith,No];lk
 refine#[λe B=>?_,λa0=>#[z,by lk]];have G:i<b.length:=by rw[←zd];exact(ZB.mp B).1
 have A:i<m.length:=by lk
 refine#[#[z,by lk],λx H2 y=>?_];let#[T,pp,rfl,S,U,rfl]:=y;let#[v',e1,h1]:=(O.pres u).get^On A
 have e2:(b.zip k)[i]?=P3 (b[i],v'):=by
  rw[List.getElem?_zip_eq_some];exact#[On G,e1]
 rw[e2]at U;cases U
 have e3:e=.tup [dJ b[i],m[i]]:=by
  unfold EH at B;rw[oI,jG,On G,On A]at B;exact(jH B).symm
 subst e3;refine#[A1 S,Ce F S #[_,_,rfl,?_,_,_,rfl,h1,rfl]];show At X.K Q E (dJ b[i]) (kV b[i]);rw[cA];exact cV^s _^jm G
end
section
variable {K:Frag}{C:Fm}{M:Addr->Prop}{H:Hp}{n:Nat}{ρ:v_ Slot}{Z:L2.St}
def Rel.hold(R:Rel K C M H n ρ Z){p:Db}{o:HO}(h:H p=s_):Rel K C (λb=>M b\/b=p) (A4 H p o) n ρ Z:=by
 have g:Grow H^A4 H p o:=A1 h;have j:Pres M H _^A4 H p o:=Gw h;refine#[R.len,λa z=>.inl^R.sub a z,λa z=>?_,R.ext.trans g.ext,R.fU,R.uV,λa z=>.inl^R.vM a z,(R.feed.grow g).more p λf k q=>?_,λi s q=>(R.sl i s q).pres j (λ_ z=>.inl z) g.ext R.uV,λq c=>(R.pin q c).trans j,R.br0,R.new,R.two,λq c=>?_]
 .rcases z with z|z
  .let#[u,d]:=R.dom a z
   exact#[u,g.all a u d]
  .rw[z];exact#[o,Ah]
 .let#[_,_,_,_,_,e,_]:=R.feed f k
  have:=e.2
  grind
 .let#[d,l,e,m]:=R.kept q c
  exact#[g.all _ _ d,.inl l,e,m]
end
def Lb(a:v_ Key)(k:Key):Bool:=a.any λb=>decide (b=k)
def hasK_iff{a:v_ Key}{k:Key}:Lb a k=t_↔k∈a:=by
 unfold Lb
 simp_all
def DN(a:v_ Key)(k:Key):v_ Key:=if Lb a k=t_ then a else a++[k]
def DZ{a:Type}(b:v_ Key)(c:v_ a)(k:Key)(d:a):v_ a:=if Lb b k=t_ then nW (λe f=>if e=k then d else f) b c else c++[d]
def Zt{c:v_ Key}{d:v_ V}(j:c.length=d.length)(k:Key):((c.zip d).any λf=>decide (f.1=k))=Lb c k:=by
 rw[kT,mU,hasK_iff];constructor
 .rintro⟨⟨a,b⟩,g,e⟩
  have e:=of_decide_eq_true e;rw[←e];exact(nO g).1
 .intro h
  let#[i,l,e]:=List.mem_iff_getElem.mp h;exact#[(c[i],d[i]'(by lk)),List.mem_iff_getElem.mpr #[i,by grind,by grind],by grind]
def Wu{c:v_ Key}{d:v_ V}(f:c.length=d.length)(k:Key)(v:V):putK (c.zip d) k v=(DN c k).zip^DZ c d k v:=by
 unfold putK DN DZ;rw[Zt f]
 by_cases h:Lb c k=t_
 .have l:∀(c:v_ _) (d:v_ V),((c.zip d).map λe=>if e.1=k then(e.1,v)else e)=c.zip^nW (λg i=>if g=k then v else i) c d:=by
   intro c
   induction c with
   |nil=>intro d;rfl
   | cons a c j=>
    intro d;cases d with
    |nil=>rfl
    |cons b d=>
     show(if a=k then(a,v)else(a,b))::_=(a,if a=k then v else b)::_;exact List.cons_eq_cons.mpr #[by split <;>rfl,j d]
  simp_all
 .rw[if_neg h,if_neg h,if_neg h,List.zip_append f]
  rfl
theorem Ats.put{K:Frag}{M:Db->Prop}{H:Hp}{k:Key}{d:D}{v:V}(hd:At K M H d v):∀{c:v_ Key}{f:v_ D}{b:v_ V},Ats K M H f b->Ats K M H (nW (λg i=>if g=k then d else i) c f)^nW (λg i=>if g=k then v else i) c b
 |[],f,b,h=>rfl
 |a::c,[],b,h=>by cases(h);rfl
 |a::c,e::f,b,h=>by
  let#[u,r,rfl,l,j]:=h;refine#[_,_,rfl,?_,Ats.put hd j]
  grind
def Ats.putX{K:Frag}{M:Db->Prop}{H:Hp}{k:Key}{d:D}{v:V}{a:v_ Key}{b:v_ D}{c:v_ V}(hd:At K M H d v)(h:Ats K M H b c):Ats K M H (DZ a b k d)^DZ a c k v:=by
 unfold DZ
 split
 .exact Ats.put hd h
 .exact h.append^Ats.one hd
def TU{b:Type}{a:v_ Key}{c:v_ b}{k:Key}{d:b}(e:a.length=c.length):(DN a k).length=(DZ a c k d).length:=by
 unfold DN DZ
 grind
theorem Mt:∀{b:v_ Key}{ds:v_ D}{k:Key},k∉b->BY b ds k=s_
 |[],ds,k,_=>by rfl
 |a::b,[],k,_=>rfl
 |a::b,d::ds,k,h=>by
  unfold BY;rw[if_neg λe=>h^by grind];exact Mt λz=>h^Sc _ z
theorem IN:∀{b:v_ Key}{ds:v_ D}{k:Key},b.length=ds.length->k∈b->∃z,BY b ds k=P3 z
 |[],ds,k,_,h=>by cases h
 |a::b,[],k,h,_=>by cases h
 | a::b,d::ds,k,c,h=>by
  unfold BY
  by_cases e:a=k
  .simp_all
  .rw[if_neg e]
   exact IN (by simp_all)^(UF.mp h).resolve_left λz=>e z.symm
def WE{b:v_ Key}{c:v_ D}{k:Key}{d:D}(g:b.length=c.length)(j:Key):BY (DN b k) (DZ b c k d) j=if j=k then P3 d else BY b c j:=by
 unfold DN DZ
 by_cases i:Lb b k=t_
 .have h:=hasK_iff.mp i
  rw[if_pos i,if_pos i]
  have n:∀(b:v_ Key) (c:v_ D),b.length=c.length->(j=k->k∈b)->BY b (nW (λp q=>if p=k then d else q) b c) j=if j=k then P3 d else BY b c j:=by
   intro b
   induction b with
   |nil=>
    intro c _ l
    by_cases e:j=k
    .exact absurd (l e) jO
    .rw[if_neg e];cases c <;>rfl
   | cons a b o=>
    intro c g l;cases c with
    |nil=>cases g
    | cons e c=>
     show(if a=j then P3 (if a=k then d else e)else BY b _ j)=if j=k then P3 d else if a=j then P3 e else BY b c j
     by_cases f:a=j
     .rw[if_pos f,if_pos f]
      by_cases m:j=k
      .rw[if_pos m,if_pos^f.trans m]
      .rw[if_neg m,if_neg λz=>m^f.symm.trans z]
     .rw[if_neg f,if_neg f]
      refine o c (by simpa using g) λz=>(UF.mp^l z).resolve_left λw=>f^w.symm.trans z.symm
  exact n b c g λ_=>h
 .have h:k∉b:=λz=>i^hasK_iff.mpr z
  rw[if_neg i,if_neg i]
  have n:∀(b:v_ Key) (c:v_ D),b.length=c.length->k∉b->BY (b++[k]) (c++[d]) j=if j=k then P3 d else BY b c j:=by
   intro b
   induction b with
   | nil=>
    intro c g _;cases c with
    |nil=>
     show(if k=j then P3 d else s_)=if j=k then P3 d else s_
     by_cases e:j=k
     .rw[if_pos e,if_pos e.symm]
     .rw[if_neg e,if_neg λz=>e z.symm]
    |cons e c=>cases g
   | cons a b o=>
    intro c g l;cases c with
    |nil=>cases g
    |cons e c=>
     show(if a=j then P3 e else BY (b++[k]) (c++[d]) j)=if j=k then P3 d else if a=j then P3 e else BY b c j
     rw[o c (by simpa using g) λz=>l^Sc _ z]
     by_cases f:a=j
     .rw[if_pos f,if_pos f,if_neg λz=>l^by rw[←z,←f];exact Rs]
     .rw[if_neg f,if_neg f]
  exact n b c g h
section
variable {X:Cx}{a b e:Expr}{κ zU zM:Kd}{wa wb:DW}{pos pos':Pos}
def RK(f g:DW):DW:=λn e P=>f n e λk h=>g h e λd i=>∃c,keyOf k=P3 c/\P (.dic [c] [d]) i
def Qb(J:DE X a zU wa)(L:DE X b zM wb)(N:zM≠.tp:=by intro z;cases z):DE X (.Dict [P3 a] [b] pos) .fr^RK wa wb:=by
 let#[t,O,S]:=J;let#[u,T,V]:=L;refine#[_,Y_ (W0 O T Y4) rfl rfl (lI _ _) (by show 1<=15;decide),λC M H n E Z P Q R w q=>λp i=>?_];have j:=R.hold (o:=.dK []) i
 have r:¬C.U p:=λz=>by
  let#[o,w]:=R.dom p^R.vM p^R.uV p z;rw[i]at w;cases w
 refine S C _ _ n E Z _ _ j w λx H2 k W s Y r1 p1=>?_;have R2:=j.step s Y;refine V C _ _ W E Z _ _ R2 p1 λy v d n2 A F r2 B=>?_;let#[e,h,B]:=B;have R3:=R2.step A F;have D:At X.K (λb=>M b\/b=p) v d y:=r2.shOf R2.dom N;have g:v p=P3^.dK []:=A.keep (s.keep Ah r) r;have hx:x=kV e:=Df h^r1.tpOf j.dom j.vM;refine#[g,[(e,y)],by rw[hx];rfl,by show 1<=15;decide,?_];show Q (.ref p)^A4 v p^.dK [(e,y)];refine q _ _ (.dic [e] [d]) n2 (λb o c=>?_) ?_ #[p,rfl,i,[y],Ah,rfl,?_] B
 .have l:b≠p:=A6 c i
  let#[o1,z1,k1,G]:=s b o (by rw[AW l];exact c);let#[o2,z2,k2,t2]:=A b o1 z1;exact#[o2,by rw[AW l];exact z2,λI=>(k2 I).trans^k1 I,λm z=>(t2 m^(G m z).trans z).trans^G m z]
 .refine F.pres #[λb o c l=>by rw[AW λz=>l^.inr z];exact c,λb z=>.inl^.inl z,λb m c=>by rw[AW λz=>by rw[z,g]at c;cases c];exact c] λf o hf c=>?_
  rw[AW λz=>r^by rw[←z];exact R.fU f hf];exact c
 .exact#[y,[],rfl,D.pres^CP (.inr rfl) g,rfl]
def JC(i:Nat)(h j:DW):Ac:=λl n e=>∃f g,e[i]?=P3^.ow^.dic f g/\j n e λd m=>h m e λk o=>∃c,keyOf k=P3 c/\f.length<sizeLine/\l.nx o^e.set i^.ow^.dic (DN f c)^DZ f g c d
def Ob{i k:Nat}{x:jX}(O:Room k X.A)(hx:PE X x^CA i)(P:DE X a zU wa)(Q:DE X b zM wb)(S:zM≠.tp:=by intro z;cases z)
  (T:swapsWith b (P3^.Subscript x a pos') pos.line X.env=pure u_:=by rfl):DS X κ (.Assign [.Subscript x a pos'] b pos)^JC i wa wb:=by
 let#[t,U,V]:=P;let#[u,W,Y]:=Q;refine#[_,J0 (La O) hx U W T,λC M H n D Z D2 E R L w=>?_];let#[l,ds,o,w]:=w;refine Y C M H n D Z _ _ R w λv H1 d n1 e1 f1 r1 p=>?_;have f:=R.step e1 f1;let#[F,q,m,nv,tt]:=f.sl i _ o;exists .ref F,getD_some q;refine V C M H1 n1 D Z _ _ f p λy H2 kk n2 G f2 r2 p=>?_;let#[c,g,a0,p]:=p;have R2:=f.step G f2;let#[a1,h,m',a2,r]:=R2.sl i _ o;rw[q]at h;cases h;let#[I,J,N,j]:=r;have s:At X.K M H2 d v:=(r1.shOf R.dom S).pres^f.pres G;have B:l.length=I.length:=by rw[N,j.length]
 refine#[F,_,rfl,by rw[Df g^r2.tpOf f.dom f.vM];exact DPut.k J (by rw[List.length_zip];lk),L.nx M _ n2 _ Z (R2.mut (e:=.dic (DN l c)^DZ l ds c d) o q #[DZ l I c v,by rw[Ah,Wu B],TU N,(j.putX s).pres^CP m' J]) p]
def de:D->w_ Bool
 |.lst c=>P3 (!c.isEmpty)
 |.tup c=>P3 (!c.isEmpty)
 |.bl b=>P3 b
 |.non=>P3 u_
 |_=>s_
def ah(wa:DW):IE:=λn e P=>wa n e λd f=>∃c,de d=P3 c/\P c f
def Ng{K:Frag}{M:Db->Prop}{H:Hp}{c:v_ D}{d:v_ V}(h:Ats K M H c d):d.isEmpty=c.isEmpty:=by
 have:=h.length
 cases d <;>cases c <;>first|rfl|cases this
def ar{U M:Db->Prop}{H:Hp}{K:Frag}{d:D}{x:V}{c:Bool}(h:AtT K U M H d x)(e:de d=P3 c):cw K x H c:=by
 cases d with
 |lst j=>cases e;let#[a,f,rfl,_,g,i]:=h;exact .inl #[f,.inl g,by rw[Ng i]]
 |tup j=>cases e;let#[a,f,rfl,g,i]:=h;exact .inr^.inl #[f,.inl^.inl g,by rw[Ng i]]
 |bl b=>cases e;rw[h.bl];exact rfl
 |non=>cases e;rw[h];exact rfl
 |_=>cases e
def cK(h:DE X e κ wa)(g:∀f,isTrue e X.env f=(do let v ←f;standAt e.pos;holding [v]^truthy v):=by intro _;rfl):DT X e^ah wa:=by
 let#[t,i,j]:=h;refine#[_,Wv i g,λC M H n k Z P Q R w q=>?_];refine j C M H n k Z _ _ R w λv l d m o r s p=>?_;let#[c,u,p]:=p;exact#[c,ar (s.tpOf R.dom R.vM) u,q c l m o r p]
def Di(c:Bool)(d e:D)(P:D->Prop):Prop:=e=.non/\P^.bl (if c then !Xg d else Xg d)
def Jk{K:Frag}:E4 K .sh (λx y H Q=>y=.non/\Q (.bl (decide (x=.non))) H)^Di u_:=λU M H d e x y P Q c h f g w q=>by
 let#[rfl,w]:=w;exact#[g,q _ H _ .refl (by rw[QP f];rfl) w]
def Ow{K:Frag}:E4 K .sh (λx y H Q=>y=.non/\Q (.bl (!decide (x=.non))) H)^Di t_:=λU M H d e x y P Q c h f g w q=>by
 let#[rfl,w]:=w;exact#[g,q _ H _ .refl (by rw[QP f];rfl) w]
variable {apos cpos:Pos}{f:Expr}{κf:Kd}{wf:DW}
def PY(wa i:DW):DW:=λn e P=>wa n e λd j=>∃g h,Jb d=P3 (g,h)/\i j e λk l=>∃c,keyOf k=P3 c/\P ((BY g h c).getD .non) l
def S4(wa i j:DW):DW:=λn e P=>wa n e λd l=>∃g h,Jb d=P3 (g,h)/\i l e λk m=>j m e λz o=>∃c,keyOf k=P3 c/\P ((BY g h c).getD z) o
def WC{U M:Db->Prop}{H:Hp}{K:Frag}{d z:D}{x v:V}{ks:v_ Key}{g:v_ D}{key:Key}(e:Jb d=P3 (ks,g))(h:AtT K U M H d x)(l:At K M H z v):∃a o,x=.ref a/\DGet H a (kV key) o/\At K M H ((BY ks g key).getD z)^o.getD v:=by
 let#[a,m,rfl,i,j]:=Ip e h;exists a,_,rfl,J9 i;have h:=G4 (k:=key) (ks:=ks) j;cases c:BY ks g _ with
 |none=>simp_all
 |some y=>rw[c]at h;let#[u,n,p]:=h;grind
def Xl{U M:Db->Prop}{H:Hp}{K:Frag}{d:D}{x:V}{c:v_ Key}{g:v_ D}(e:Jb d=P3 (c,g))(h:AtT K U M H d x):∃a,x=.ref a/\gQ H a:=by
 let#[a,j,rfl,i,k]:=Ip e h;exact#[a,rfl,.inl #[_,i]]
def UC{k:Nat}(B:Room k X.A)(D:DE X a zU wa)(E:DE X b zM wb)(m:M1 X a "get" apos b cpos:=by exact#[rfl,rfl,rfl,rfl]):DE X (.Call (.Attribute a "get" apos) [b] [] cpos) .sh^PY wa wb:=by
 let#[t,F,G]:=D;let#[u,I,J]:=E;refine#[_,W_ (La B) F I m,λC M H n j Z P Q R w q=>?_];refine G C M H n j Z _ _ R w λv K d L l N r p=>?_;let#[Y,ds,s,p]:=p;have c:=R.step l N;let#[O,rfl,S]:=Xl s^r.tpOf R.dom R.vM;exists O,rfl,S;refine J C M K L j Z _ _ c p λy H2 kk T h x U p=>?_;let#[key,e,p]:=p;have R2:=c.step h x;have i:=(r.tpOf R.dom R.vM).pres (c.pres h) h R.uV;let#[V,o,ex,g,W]:=WC (key:=key) s i (z:=.non) (v:=.non) rfl;cases ex;exact#[o,by rw[Df e^U.tpOf c.dom c.vM];exact g,q _ H2 _ T (l.trans h) x W p]
def UB{k:Nat}(D:Room k X.A)(E:DE X a zU wa)(F:DE X b zM wb)(G:DE X f κf wf)(I:κf≠.tp:=by intro z;cases z)(m:M2 X a "get" apos b f cpos:=by exact#[rfl,rfl,rfl,rfl]):DE X (.Call (.Attribute a "get" apos) [b,f] [] cpos) .sh^S4 wa wb wf:=by
 let#[t,J,K]:=E;let#[u,L,N]:=F;let#[u2,O,S]:=G;refine#[_,W9 (La D) J L O m,λC M H n j Z P Q R w q=>?_];refine K C M H n j Z _ _ R w λv T d U r V s p=>?_;let#[ks,ds,x,p]:=p;have e:=R.step r V;let#[W,rfl,Y]:=Xl x^s.tpOf R.dom R.vM;exists W,rfl,Y;refine N C M T U j Z _ _ e p λy H2 kk n2 i f2 r2 p=>?_;have R2:=e.step i f2;refine S C M H2 n2 j Z _ _ R2 p λz H3 dz n3 c B r3 p=>?_;let#[key,h,p]:=p;have R3:=R2.step c B;have l:=((s.tpOf R.dom R.vM).pres (e.pres i) i R.uV).pres (R2.pres c) c R.uV;have hy:=(r2.tpOf e.dom e.vM).pres (R2.pres c) c R.uV;let#[a0,o,ex,g,hz]:=WC (key:=key) x l^r3.shOf R2.dom I;cases ex;exact#[o,by rw[Df h hy];exact g,q _ H3 _ n3 ((r.trans i).trans c) B hz p]
end
end Dp
namespace L2
open AutoSeq1 (wpAny_loadPart')
def U7:typeLookup (.type "list_reverseiterator") "__len__"=pure s_:=by kernel_rfl
def Xn:typeLookup (.type "list_reverseiterator") "__length_hint__"=pure^P3^.builtin "list_reverseiterator.__length_hint__":=by kernel_rfl
def boot_reversed:bootBuiltins "reversed"=P3^.type "reversed":=by decide +kernel
section
variable {prog:Program}{w:World}{A:Around}{E:Value->Shared->Prop}{s:Shared}{I:Addr}{fp wr:v_ Addr}{G:Array GenState->Array GenState->Prop}{n:Nat}{P:Nat->Value->Prop}{St:Nat->Shared->Prop}
def Qh{Q:v_ Ev->Go->Prop}
  (W:WalksS prog w A.in1 I fp wr G n P St) (m:∀i s,St i s->s.TypeIs (.ref I) "list_reverseiterator") (p:St 0 s) (q:∀b∈fp,b<s.heap.objs.size) (v:I∈fp)
  (x:∀d f,Moved wr G s d->oq P f n->Q f.toList d) (hn:n<=sizeLine):wpAny (model prog w) A (collect^.ref I) Q E s:=by
 have g:s.heap.objs.size∉fp:=λr=>j7 _^q _ r;have t:s.heap.objs.size≠I:=λe=>g (e▸v);unfold collect;refine Ch^wpAny_runValue^kF F.entry_proto_collect ?_;rw[kL F.plain_proto_collect _];show wpAny _ A.in1 (newList [] >>=λl=>again^.builtin "list.__iadd__" #[[l,.ref I],[]]) _ _ s;refine Ch^j1 ?_;refine Re #[kQ nk _,kF F.entry_list_iadd ?_];rw[kL nk _];have a:=W.frame 0 s (s.heap.push {cls:=.type "list",data:=.seq ([]:v_ Ev).toArray}) s.toks p (Op _) λb _ o e=>FM _ e;have c:(s.heap.push {cls:=.type "list",data:=.seq ([]:v_ Ev).toArray}).get? s.heap.objs.size=P3 {cls:=.type "list",data:=.seq ([]:v_ Ev).toArray}:=XV _ rfl;have y:mV (.ref s.heap.objs.size)^.ref I=u_:=by simp[mV,t]
 show wpAny _ A.in1 (kn (.ref s.heap.objs.size) (.ref I)^.ref s.heap.objs.size) _ _ _;unfold kn;refine Ch^l7 (m 0 _ a) ?_;rw[if_neg^by rw[y];decide];refine Ch^W.self 0 _ _ _ a ?_;refine Ch^jn ?_;unfold ko;refine Ch^lV (m 0 _ a) U7 ?_;show wpAny _ A.in1 (specialOf (jE I)^lE "__length_hint__" >>=_) _ _ _;refine Ch (lV (m 0 _ a) Xn ?_)
 (generalize h:("list_reverseiterator.__length_hint__":String)=id0;wp_delta;rw[show splitId id0=P3 ("list_reverseiterator","__length_hint__")from by subst h;decide +kernel];subst h)
 refine Ch^nF (b:=t_) (m 0 _ a) (by rw[m9];kernel_rfl) ?_;refine Re ?_;rw[if_neg^by cbv];refine Re #[kQ oh _,codeAny_extend_loopS W hn _ g _ n 0 _ _ _ rfl (eq _) a c (ItemsOf.nil P) λd j z r u k=>?_];show wpAny _ A (load s.heap.objs.size >>=_) _ _ d;refine Ch^wpAny_load u ?_;exact Re^x d j (Moved.drop_new (o:={cls:=.type "list",data:=.seq ([]:v_ Ev).toArray}) (tk:=s.toks) r^Op _) k
def Ll{Q₁:Ev->Go->Prop}(W:WalksS prog w A.in1.in1 I fp wr G n P St)(hT:∀i s,St i s->s.TypeIs (.ref I) "list_reverseiterator")(hst:St 0 s)(hfp:∀b∈fp,b<s.heap.objs.size)(hI:I∈fp)
  (h:∀s' acc,Moved wr G s s'->oq P acc n->Q₁ (.ref s'.heap.objs.size) {s' with heap:=s'.heap.push {cls:=.type "tuple",data:=.seq acc}}) (hsz:n<=sizeLine):
  codeAny (model prog w) A (.call (.builtin "tuple.__new__") #[[.type "tuple",.ref I],[]]) (wants Q₁ E) s:=by
 refine nQ ?_;show wpAny _ A.in1 (do checkBuiltinCall "tuple.__new__" #[[.type "tuple",.ref I],[]];again^.builtin "tuple.__new__" #[[.type "tuple",.ref I],[]]) _ _ s;refine Ch^k6 (F.newCall_tuple_1 _)^Re #[kQ nt _,kF F.entry_tuple_new ?_];rw[kL nt _];have hsub:=sub_tuple_self;have hinit:=init_tuple_lookup;have hmh:=madeHere_tuple;have hTI:=hT 0 s hst
 wp_walk using l7 hTI,Qh (hn:=hsz) W hT hst hfp hI
 intro s' acc hm hacc;show wpAny _ _ (lF acc.toList.toArray >>=λv=>ret v) _ _ _;unfold lF;refine Ch (j1 ?_^by show acc.toList.toArray.size<=sizeLine;simp only[qE];rw[hacc.1];exact hsz);refine Re ?_;have e:acc.toList.toArray=acc:=by simp
 rw[e];exact h s' acc hm hacc
def Lp{Q:Ev->Go->Prop}(W:WalksS prog w A.in1.in1.in1 I fp wr G n P St)(k:∀i s,St i s->s.TypeIs (.ref I) "list_reverseiterator")(h:St 0 s)(j:∀b∈fp,b<s.heap.objs.size)(l:I∈fp)
  (m:∀e d,Moved wr G s e->oq P d n->Q (.ref e.heap.objs.size) {e with heap:=e.heap.push {cls:=.type "tuple",data:=.seq d}}) (hsz:n<=sizeLine):
  wpAny (model prog w) A (call (.type "tuple") [.ref I]) Q E s:=callType_codes (Q₁:=λf c=>c.TypeIs f _/\Q _ _) m_ (F.typeCall_tuple_1 _) oi
  (Ll (hsz:=hsz) W k h j l λe d o g=>#[#[_,XV _ rfl,rfl],m e _ o g]) λf c a=>#[a.1,nG _ _,pK m_.init.lookup m_.made (by cbv) _ w _ _ _ #[a.1,rfl,a.2]]
end
section
variable {X:Cx}{e:Expr}{te:TE}{p1 p2 q1 q2:Pos}
def Ym(K:Frag)(te:TE):TE:=λZ H Q=>te Z H λx a=>∃l b,x=.ref l/\SqL K a l b/\∀r,a r=s_->Q (.ref r)^A4 a r^.tup b.reverse
def Ux(B:X.calm=t_)(he:PE X e te)(C:Gl X "tuple")(D:X.mg "tuple"=s_)(E:Gl X "reversed")(F:X.mg "reversed"=s_)(R:starEach [nY (.Name "reversed" p2) [e] [] q2] X.env=[(u_,eval (nY (.Name "reversed" p2) [e] [] q2) X.env)]:=by rfl)
  (S:starEach [e] X.env=[(u_,eval e X.env)]:=by rfl):PE X (.Call (.Name "tuple" p1) [.Call (.Name "reversed" p2) [e] [] q2] [] q1)^Ym X.K te:=by
 intro y s Z H Q I h;refine jq^DF I C D kX ?_;refine jw ?_ R rfl;rw[R];refine kU ?_;refine jq^DF I E F boot_reversed ?_;refine jw ?_ S rfl;rw[S];refine kU^thn (he y s Z H _ I h) λu d #[x,k,m,r1,l,G,ex,hq,q]=>k8 ?_;subst ex;cases r1;let#[a,T,pl,U]:=m.list hq;have n:=T.length;have J:d.heap.IsList l a.toArray:=pl.isList;have p:l<d.heap.objs.size:=by let#[_,e,_]:=id J;exact Uf e
 refine call_reversed_list J^k8 ?_;have L:k d.heap.objs.size=s_:=m.fresh;have I2:Inv X y Z k {d with heap:=d.heap.push^revObj l ((a.toArray.size:Int) - 1)}:=m.kept (t':=d.toks) λb o e=>FM _ e;have M:Fx X y k d.heap.objs.size:=m.fpOk (Op _) L;refine Lp (s:={d with heap:=d.heap.push^revObj l ((a.toArray.size:Int) - 1)}) (qI (A:=X.A.in1.in1.in1) (m.ok.hd B) d.heap.objs.size l (jL p) a.toArray).toS (λi V hs=>hs.2.1.typeIs) #[eq _,#[_,XV _ rfl,rfl,by show Data.fields _=_;simp[revObj]],J.push _] (λb r=>?_) Rs (λV g z t=>?_)^by rw[f8,←n];exact U
 .rcases UF.mp r with rfl|r
  .exact Uf (XV _ rfl)
  .obtain rfl:=Tk.mp r
   exact jW p^by show d.heap.objs.size<=(d.heap.push _).objs.size;rw[pO];exact jk _
 .let#[h',g',d',j,N]:=V
  have e1:g'=d.gens:=z.gens;have e2:d'=d.drawn:=z.drawn;have e3:N=d.os:=z.os;subst e1 e2 e3;have O:=I2.turnedL (h':=h') (t':=j) (ch:=[d.heap.objs.size]) (λc B=>by rw[Tk.mp B];exact M) λb o r e=>z.heap b o r e;have W:Inv X y Z k {d with heap:=h',toks:=j}:=O
  have hv:g.toList=a.reverse:=by
   refine List.ext_getElem? λi=>?_;let#[Y,a2]:=t;have e0:g.toList[i]?=g[i]?:=by simp
   rw[e0]
   by_cases hi:i<a.length
   .have v:i<g.size:=by rw[Y,f8];exact hi
    have a3:=a2 i g[i] (kZ v);rw[oK hi,kZ v,←a3,f8];simp
   .rw[oJ^by rw[kG];lk]
    exact n9^by rw[Y,f8];lk
  have P:g=a.reverse.toArray:=by rw[←hv]
  have rr:Vals G.reverse a.reverse:=T.reverse;refine#[.ref h'.objs.size,A4 k h'.objs.size^.tup G.reverse,W.laid (t':=j) (λb o e=>FM _ e) (Op _) (show ObjOk X.prog X.w _ _ _^.tup G.reverse from#[by rw[kG];exact U,a.reverse,rr,by rw[P];exact IsTupN.new _ _]),rfl,q _^W.hok.fresh^Op _]
end
end L2
namespace Dp
open L2
def S3(b:DW):DW:=λn c P=>b n c λd e=>∃a,d=.lst a/\P (.tup a.reverse) e
section
variable {X:Cx}{a:Expr}{zU:Kd}{wa:DW}{p1 p2 q1 q2:Pos}
def Va(m:X.calm=t_)(o:DE X a zU wa)(b:Gl X "tuple")(c:X.mg "tuple"=s_)(e:Gl X "reversed")(f:X.mg "reversed"=s_)(s:starEach [nY (.Name "reversed" p2) [a] [] q2] X.env=[(u_,eval (nY (.Name "reversed" p2) [a] [] q2) X.env)]:=by rfl)
  (u:starEach [a] X.env=[(u_,eval a X.env)]:=by rfl):DE X (.Call (.Name "tuple" p1) [.Call (.Name "reversed" p2) [a] [] q2] [] q1) .sh^S3 wa:=by
 let#[t,x,y]:=o;refine#[_,Ux m x b c e f s u,λC M H n z Z P Q R w q=>?_];refine y C M H n z Z _ _ R w λv h d A i j B p=>?_;let#[I,rfl,p]:=p;have D:=R.step i j;let#[E,k,rfl,J,F,G]:=B.tpOf R.dom R.vM;refine#[E,k,rfl,.inl F,λr l=>?_];have g:Grow h^A4 h r^.tup k.reverse:=A1 l;exact q _ _ (.tup _) A (i.trans g.ext) (j.grow g) (Ce D.dom l^G.reverse) p
end
def ak(i:Nat)(e:DW)(b:BW):Ac:=λf n a=>∃c,a[i]?=P3^.ow^.lst c/\e n a λd g=>∃(k:Nat) (x:D),d=.int (k:Int)/\c[k]?=P3 x/\k<2 ^ 60/\b x (a.set i^.ow^.lst^c.eraseIdx k) λh=>f.nx g h
section
variable {X:Cx}{κ zQ:Kd}{tg e:Expr}{b:BW}{we:DW}{pos p apos cpos:Pos}{x:Str}{i:Nat}
def M6{k n:Nat}(h:k<n):seqIndex? (k:Int) n=P3 k:=by
 refine(OT ?_).1;unfold Xf
 grind
def Zi(h:PE X (.Name x p)^CA i)(P:DE X e zQ we)(Q:DG X tg b)
  (S:swapsWithSole [tg] (.Call (.Attribute (.Name x p) "pop" apos) [e] [] cpos) pos.line X.env=pure u_:=by rfl) (T:swappedStores [tg] (.Call (.Attribute (.Name x p) "pop" apos) [e] [] cpos) X.env=pure s_:=by rfl)
  (U:(assignEach [tg] X.env).map (·.2)=[assign tg X.env]:=by rfl)
  (f:attributeBase (.Name x p) "pop" X.env^eval (.Name x p) X.env=eval (.Name x p) X.env:=by rfl)
  (l:((backTo cpos^starEach [e] X.env).all (λx=>!x.1)&&(backToKw cpos^keywordEach [] X.env).all (λx=>x.1.isSome)
   && decide ([e].length+([]:v_ lh).length+(if([]:v_ lh).isEmpty then 0 else 1)<30))=t_:=by rfl)
  (j:(apos.endLine==cpos.line)=t_:=by rfl) (q:starEach [e] X.env=(u_,eval e X.env)::starEach [] X.env:=by rfl) (c:(backTo cpos^starEach [] X.env).any (·.1)=u_:=by rfl):
  DS X κ (.Assign [tg] (.Call (.Attribute (.Name x p) "pop" apos) [e] [] cpos) pos) (ak i we b):=by
 let#[t,V,W]:=P;let#[g,Y,g2]:=Q;refine#[_,K8 (Te PySem.F.plainAttrs_list PySem.F.slot_list_pop PySem.F.type_list_pop QF h (BZ V CJ q) f l j q c) Y S T U,λC M H n ρ Z D2 E R L w=>?_];let#[G,z,w]:=w;let#[a,A,m,nv,tt]:=R.sl i _ z;exists .ref a,getD_some A,OU (show fK "list"^.lst G from rfl)^tt.att nv;refine W C M H n ρ Z _ _ R w λv H1 d I ee f1 r1 p=>?_;let#[k,y,rfl,hx,hk,p]:=p;have J:=R.step ee f1;let#[a',r,K,a0,u,B,s]:=J.sl i _ z;rw[A]at r;cases r;let#[N,O,hv]:=s.get hx;have D:k<u.length:=(ZB.mp O).1;exists a,u,(k:Int),k,N,rfl,by rw[Ij r1],B,by lk,by lk,M6 D,O;have R2:=J.mut (e:=.lst^G.eraseIdx k) z A (o:=.lst^u.eraseIdx k) #[u.eraseIdx k,Ah,(s.eraseIdx k).pres^CP K B];exact g2 C M _ I _ Z y N _ _ R2 (hv.pres^CP K B) p λzY zZ R' w'=>L.nx M _ I zY zZ R' w'
end
end Dp
namespace L2
end L2
namespace Dp
open L2
end Dp
namespace L2
open AutoSeq1 (wpAny_loadPart')
def boot_enumerate:bootBuiltins "enumerate"=P3^.type "enumerate":=by decide +kernel
section
variable {prog:Program}{w:World}{A:Around}{E:Value->Shared->Prop}{s:Shared}
def VZ{κ:Bool}(j:A.handled=s_)(it l:Db)(f:l≠it)(c:Array Ev):Draws prog w A it [it,l] c.size (λi v=>c[i]?=P3 v) (λi h=>ItAt κ h it l i/\SqAt κ h l c) where
 live:=λ_ _ d=>let #[o,m,_]:=d.1.lies;#[o,m]
 frame:=λ_ _ _ d k=>#[d.1.mv λo e=>k it (by simp) o e,d.2.mv λo e=>k l (by simp) o e]
 item:=λi s Q E g d n=>F4 d.1 d.2 (x:=c[i]) (by simp[g]) λp a b=>n _ p s.toks (by simp[g]) #[a,d.2.eb b.extBut f] b
 done:=λs Q E d q=>Hj j d.1 d.2 (by simp) q
def SS{κ:Bool}(c:A.handled=s_)(it l:Db)(a:Array Ev)(k:Nat)(d:a[k]?=s_):Draws prog w A it [it,l] k (λ_ _=>True) (λi h=>ItAt κ h it l i/\SqAt κ h l a/\i=k) where
 live:=λ_ _ b=>let #[o,f,_]:=b.1.lies;#[o,f]
 frame:=λ_ _ _ b k=>#[b.1.mv λo e=>k it (by simp) o e,b.2.1.mv λo e=>k l (by simp) o e,b.2.2]
 item:=λi s Q E g b m=>absurd b.2.2^jL g
 done:=λs Q E b j=>Hj c b.1 b.2.1 d j
def XN(κ:Bool)(l:Db)(items:Array Ev):Meets (kz.«enumerate.__new__» #[[.type "enumerate",.ref l],[]]) (λ_ R s=>SqAt κ s.heap l items /\
   R (.ok^.ret^.ref (s.heap.push^JW κ l).objs.size) {s with heap:=(s.heap.push^JW κ l).push {cls:=.type "enumerate",data:=.fields #[ .none,.bool u_,.ref s.heap.objs.size,rawInt 0,.none,.none]}}):=
 .of_wp λprog w A R s h=>by
  let#[hp,g,d,tk,os]:=s;let#[hl,h]:=h
  have hsub:=sub_enumerate;cases κ with
  | true=>
   have hL:pw (mr #[hp,g,d,tk,os]) l items:=hl;let#[#[c,dct,dt,sl],ho,hc,n,hd]:=id hL;replace hc:c=.type "list":=hc;replace hd:dt=.seq items n:=hd;subst hc hd
   wp_walk using kN ho
   refine wpAny_stack_any λst=>Re ?_
   split
   .rename_i c _ _ _ _ _
    cases(c==md "enumerate") <;>(wp_walk using kN ho,k9 hL;exact#[_,rfl,h])
   ·(wp_walk using kN ho,k9 hL;exact#[_,rfl,h])
  | false=>
   have hL:pZ (mr #[hp,g,d,tk,os]) l items:=hl;let#[#[c,dct,dt,sl],ho,hc,n,hd]:=id hL;replace hc:c=.type "tuple":=hc;replace hd:dt=.seq items n:=hd;subst hc hd
   wp_walk using kN ho
   refine wpAny_stack_any λst=>Re ?_
   split
   .rename_i c _ _ _ _ _
    cases(c==md "enumerate") <;>(wp_walk using kN ho,lD hL;exact#[_,rfl,h])
   ·(wp_walk using kN ho,lD hL;exact#[_,rfl,h])
def Mc{c:Bool}{l:Db}{a:Array Ev}{Q:Ev->Go->Prop}(j:SqAt c s.heap l a)
  (h:∀d,IsEnum d (s.heap.objs.size+1) s.heap.objs.size 0 .none->ItAt c d s.heap.objs.size l 0->(∀b o,s.heap.get? b=P3 o->d.get? b=P3 o)->Q (.ref (s.heap.objs.size+1)) {s with heap:=d}):
  wpAny (model prog w) A (call (.type "enumerate") [.ref l]) Q E s:=by
 refine callType_new F.called_enumerate (by cbv) (F.typeCall_enumerate_1 _) (F.newCall_enumerate_1 _) (λf=>nG f _) F.entry_enumerate_new (XN c l a) #[j,?_];have g:(s.heap.push^JW c l).objs.size=s.heap.objs.size+1:=ku ..;have i:((s.heap.push^JW c l).push {cls:=.type "enumerate",data:=.fields #[ .none,.bool u_,.ref s.heap.objs.size,rawInt 0,.none,.none]}).get? (s.heap.push^JW c l).objs.size=P3 _:=XV _ rfl;rw[g]at i;exists#[_,by rw[g];exact i,rfl];rw[g];exact h _ i ((LX c s.heap l).mv λo e=>FM _ e) λb o e=>FM _^FM _ e
end
def dP(K:Frag)(c:Bool)(a:Db)(b:v_ V):It:=
 #[λi H=>SqK c K H a b/\i<b.length,λi H x d=>∃T p,x=.ref T/\H T=s_/\d=A4 H T^.tup [.int i,p]/\b[i]?=P3 p,λi H=>SqK c K H a b/\b.length<=i]
structure dD (κ:Bool) (e it a:Db) (k:Nat) (h:jI):Prop where
 e:∃old,IsEnum h e it (k:Int) old
 i:ItAt κ h it a k
def UX{P:jM}{w:jT}{K:Frag}{es:v_ jX}{j:Nat}{pos:Pos}(κ:Bool)(e it a:Db)(R:v_ V)(p:e≠it)(ae:a≠e)(ai:a≠it):
  Turn P w K (.Tuple es j pos) (dP K κ a R) [e,it] e (dD κ e it a) where
 mem:=by simp
 obj:=λi h d c b=>by
  simp only[UF,jO,or_false]at b
  rcases b with rfl|rfl
  .let#[o,q]:=d.e
   exact#[_,q,λv q=>by cases q]
  .exact d.i.lies
 keep:=λi h S d k=>by
  let#[o,q]:=d.e;exact#[#[o,k e (by simp) _ q],d.i.mv λo e=>k it (by simp) o e]
 item:=by
  intro X r t y b i T s Z H E I l d B;subst r t y;let#[C,D]:=B;let#[m,n,F]:=C.at I;let#[u,hu,ru]:=n.get^On D;let#[g,f]:=d.e;have l1:=n.length;refine wpAny_pyNext_enum_itemD (VZ (κ:=κ) (A:=X.A.in1) (I.ok.hd b) it a ai m.toArray) f #[d.i,F] (by simp;lk) p (by simp[p,ae.symm]) λx S G hp a1 a2 a3 a4 a5=>#[_,rfl,?_]
  have J:x=u:=by
   have U:m[i]?=P3 x:=by simpa using hp
   rw[hu]at U;exact(jH U).symm
  subst J;refine wpAny_letOwnedTupleGo_enum a1 λW b1 L=>?_;have hT:H s.heap.objs.size=s_:=I.hok.fresh^Op _
  have M:∀c o,c∉[e,it]->s.heap.get? c=P3 o->W.get? c=P3 o:=λc o b z=>by
   simp only[UF,jO,or_false,not_or]at b;exact L.extBut _ _ b.1^a5 c o b.1 b.2 z
  have I2:Inv X T Z (A4 H s.heap.objs.size^.tup [.int i,R[i]]) {s with heap:=W,toks:=G+1}:=by
   refine I.turnLaid (t':=G+1) (ch:=[e,it]) l M (Op _) ?_;have nT:s.heap.objs.size≠e:=lS^Uf f;exact#[by show 2<=sizeLine;decide,[.int i G,x],.cons #[_,rfl]^.cons ru .nil,#[_,L.extBut _ _ nT a3,rfl,_,rfl,rfl,rfl]]
  refine#[.ref s.heap.objs.size,_,I2,rfl,#[_,_,rfl,hT,rfl,On D],#[#[_,b1],a2.1.eb L.extBut p.symm],λc b=>?_];have N:H c=s_:=(l c b).1
  have O:c≠s.heap.objs.size:=λz=>by
   obtain⟨o,Y⟩:∃o,s.heap.get? c=P3 o:=by
    simp only[UF,jO,or_false]at b
    rcases b with rfl|rfl
    .exact#[_,f]
    .let#[o,q,_]:=d.i.lies;exact#[o,q]
   rw[z]at Y;exact j7 _^Uf Y
  rw[AW O];exact N
 done:=by
  intro X r t y b i T s Z H E I l d B;subst r t y;let#[C,D]:=B;let#[m,n,F]:=C.at I;let#[g,f]:=d.e;have l1:=n.length;refine wpAny_pyNext_enum_endD (SS (κ:=κ) (A:=X.A.in1) (I.ok.hd b) it a m.toArray i^by simp;lk) f #[d.i,F,rfl] λS M=>#[rfl,?_];refine I.turnedL (t':=s.toks) (ch:=[e,it]) l λc o b e=>?_;simp only[UF,jO,or_false,not_or]at b;exact M c o b.2 e
 self:=λA i s Q E d h=>by
  let#[g,f]:=d.e;exact wpAny_pyIter_enum f h
section
variable {X:Cx}{e1:Expr}{es:v_ Expr}{j:Nat}{tpos p pos:Pos}{te:TE}
def fN(K:Frag)(te:TE):TI:=λZ H R=>te Z H λv b=>∃c a d,v=.ref a/\SqK c K b a d/\R (dP K c a d) b
def Y7(t:Gl X "enumerate")(v:X.mg "enumerate"=s_)(w:PE X e1 te)(g:starEach [e1] X.env=[(u_,eval e1 X.env)]:=by rfl):
  PI X (.Tuple es j tpos) (.Call (.Name "enumerate" p) [e1] [] pos) (fN X.K te):=by
 intro y s Z H R I h;refine jq^DF I t v boot_enumerate ?_;refine jw ?_ g rfl;rw[g];refine kU^thn (w y s Z H _ I h) λu b #[x,z,f,A,i,a,k,ex,B,q]=>k8 ?_;subst ex;cases A;let#[F,C,l]:=B.at f;have m:a<b.heap.objs.size:=by let#[o,e]:=l.lies;exact Uf e
 refine Mc l λG n D E=>?_;refine wpAny_pyIter_enum n ?_;refine#[b.heap.objs.size+1,[b.heap.objs.size+1,b.heap.objs.size],_,dP X.K i a k,z,rfl,f.kept (t':=b.toks) E,UX i _ _ a k (by show(_:Nat)≠(_:Nat);lk) (jL^ke m)^jL m,#[#[_,n],D],λc r=>?_,q]
 have d:b.heap.objs.size<=c:=by
  simp only[UF,jO,or_false]at r
  rcases r with rfl|rfl
  .exact jk _
  .exact Op _
 exact f.fpOk d^f.hok.fresh d
end
end L2
namespace Dp
open L2
def ET:Nat->v_ D->v_ D
 |_,[]=>[]
 |k,x::r=>.tup [.int (k:Int),x]::ET (k+1) r
theorem NV:∀(k:Nat) (a:v_ D),(ET k a).length=a.length
 |_,[]=>rfl
 |k,x::r=>by show(ET (k+1) r).length+1=r.length+1;rw[NV (k+1) r]
theorem NW:∀(k:Nat) (a:v_ D) (i:Nat),(ET k a)[i]?=(a[i]?).map λx=>.tup [.int ((k+i:Nat):Int),x]
 |_,[],i=>by simp[ET]
 |k,x::r,0=>rfl
 |k,x::r,i+1=>by
  show(ET (k+1) r)[i]?=(r[i]?).map _;rw[NW (k+1) r i,show k+1+i=k+(i+1) by lk]
section
variable {K:Frag}
def QX{M:Db->Prop}{H:Hp}{g:Bool}{a:Db}{c:v_ V}{e:v_ D}(m:Ats K M H e c){i:Nat}{j:Db->Prop}{b:Hp}(s:Pres M H j b)(n:SqK g K b a c)(k:∀a,j a->∃o,b a=P3 o):
  (∀d,(ET 0 e)[i]?=P3 d->(dP K g a c).go i b/\∀x H2,(dP K g a c).yld i b x H2->Grow b H2/\At K j H2 d x)/\((ET 0 e).length<=i->(dP K g a c).stop i b):=by
 have z:=m.length;refine#[λd f=>?_,λt=>#[n,by rw[NV]at t;lk]];rw[NW,Nat.zero_add]at f;cases h:e[i]? with
 |none=>rw[h]at f;cases f
 |some u=>
  rw[h]at f;have l:D.tup [.int (i:Int),u]=d:=jH f;have A:i<e.length:=(ZB.mp h).1;refine#[#[n,by lk],λx H2 y=>?_];let#[T,p,rfl,q,rfl,v]:=y;let#[B,r,w]:=(m.pres s).get h;rw[v]at r;cases r;subst l;exact#[A1 q,Ce k q #[.int (i:Int),[p],rfl,rfl,p,[],rfl,w,rfl]]
end
section
variable {X:Cx}{e1:Expr}{es:v_ Expr}{j:Nat}{tpos p pos:Pos}{κ:Kd}{wa:DW}
def S6(wa:DW):Ea:=λn b P=>wa n b λd c=>∃a,Eg d=P3 a/\P (ET 0 a) c
def Od(g:Gl X "enumerate")(k:X.mg "enumerate"=s_)(h:DE X e1 κ wa)(l:κ≠.tp:=by intro z;cases z)(m:starEach [e1] X.env=[(u_,eval e1 X.env)]:=by rfl):
  DI X (.Tuple es j tpos) (.Call (.Name "enumerate" p) [e1] [] pos) (S6 wa):=by
 let#[t,o,r]:=h;refine#[_,Y7 g k o m,λC M H n s Z P J R w q=>?_];refine r C M H n s Z _ _ R w λv c d u x y A p=>?_;let#[K,B,p]:=p;let#[D,a,E,rfl,F,e]:=RT (A.shOf R.dom l) B;exact#[D,a,E,rfl,e M c^Pres.refl _ _,q _ c _ u x y (λi G I f b=>QX F f (e G I f) b) p]
end
def S5(i:Nat)(b:BW)(a:Ac):Ac:=λf n c=>∃d e,c[i]?=P3^.br d/\Eg d=P3 e/\A7 b a f e n c
section
variable {X:Cx}{κ:Kd}{tg:Expr}{body:v_ Stmt}{b:BW}{wb:Ac}{pos p:Pos}{x:Str}{i:Nat}
def Rel.lessKp{K:Frag}{C:Fm}{q:Db×HO}{M:Db->Prop}{H:Hp}{n:Nat}{a:v_ Slot}{Z:L2.St}(R:Rel K {C with kp:=q::C.kp} M H n a Z):Rel K C M H n a Z:=
 #[R.len,R.sub,R.dom,R.ext,R.fU,R.uV,R.vM,R.feed,R.sl,R.pin,R.br0,R.new,R.two,λp c=>R.kept p^Sc _ c]
def Oa(hp:oH (model X.prog X.w) X.A X.env X.xe)(hc:X.calm=t_)(h:PE X (.Name x p)^CA i)(hg:DG X tg b)(hb:RH X κ body wb)
  (hs:∀y,foldedSetIterable (.Name x p) X.env y=pure y:=by intro _;rfl):DS X κ (.For tg (.Name x p) body [] pos)^S5 i b wb:=by
 let#[g,g1,g2]:=hg;let#[tb,b1,b2]:=hb;refine#[_,K7 hp hc (Rq h) g1 b1 hs,λC M H n U Z G E R L w=>?_];let#[d,f,hi,hd,w]:=w;let#[v,e1,a2]:=R.sl i _ hi;cases d with
 | tup a3=>
  cases hd;let#[a,I,rfl,hn,J]:=a2;refine#[.ref a,getD_some e1,.inr^.inl #[a,rfl,#[I,hn.sq],?_]];obtain⟨c,ek⟩:∃c,c=C.kp:=#[_,rfl];have R1:Rel X.K {C with kp:=c} M H n U Z:=by rw[ek];exact R
  have B:∀{M H n U Z},Rel X.K {C with kp:=c} M H n U Z->Rel X.K C M H n U Z:=λR=>by rw[ek]at R;exact R
  have st:∀l k r s t,Rel X.K {C with kp:=c,zG:=(M,H)::C.zG} l k r s t->SqT X.K k a I:=λl k r s t D=>(hn.pres^D.pin (M,H) Rs).sq;exists λi m t k=>m=f.length - i/\i<=f.length/\∃l r s,Rel X.K {C with kp:=c,zG:=(M,H)::C.zG} l k r s t/\A7 b wb G (f.drop i) r s,#[f.length,by simp,eq _,M,n,U,R1.pinned,w];rintro i m t k ⟨rfl,a4,l,r,s,D,V⟩;have pr:Pres M H l k:=D.pin (M,H) Rs;have N:=st l k r s t D
  by_cases F:i<f.length
  .have ed:f.drop i=f[i]::f.drop (i+1):=kJ F
   rw[ed]at V;let#[v,ev,hv]:=(J.pres pr).get^On F;refine .inr #[#[I,v,N,ev],λzN H2=>∃M2 W Y,Rel X.K {C with kp:=c,zG:=(M,H)::C.zG} M2 H2 W Y zN/\A7 b wb G (f.drop (i+1)) W Y,λzN H2 #[M2,W,Y,a0,w2]=>#[f.length - (i+1),by lk,rfl,F,M2,W,Y,a0,w2],λy H2 hy=>?_];let#[e2,hy]:=hy;subst e2
   have:P3 v=P3 y:=ev.symm.trans^hy I N
   cases this;refine g2 _ l H2 r s t f[i] v _ _ D hv V λzP zV R3 w3=>?_;refine b2 _ l H2 r zP zV {G with nx:=A7 b wb G^f.drop (i+1),ct:=A7 b wb G^f.drop (i+1),bk:=G.nx} _ R3 #[λO H4 P Q zR S T=>#[O,P,Q,S,T],L.rt,λO H4 P Q zR S T=>L.nx O H4 P Q zR (B S.unpin) T,λO H4 P Q zR S T=>#[O,P,Q,S,T]] w3
  .have e:i=f.length:=by lk
   subst e;rw[mT]at V;exact .inl #[#[I,N,by rw[J.length];exact Op _],L.nx l k r s t (B D.unpin) V]
 | lst a3=>
  cases hd;let#[a,I,rfl,nV,hH,J]:=a2
  obtain⟨o,ho,a1⟩:∃o,H a=P3 o/\∀k:Hp,k a=P3 o->SqL X.K k a I:=by
   rcases hH with z|⟨u,z⟩
   .exact#[_,z,λk e=>.inl^.inl e]
   .exact#[_,z,λk e=>.inl^.inr #[u,e]]
  refine#[.ref a,getD_some e1,.inl #[a,rfl,#[I,a1 H ho],?_]]
  obtain⟨c,R1,B,st⟩:∃c,Rel X.K {C with kp:=c} M H n U Z/\(∀{M H n U Z},Rel X.K {C with kp:=c} M H n U Z->Rel X.K C M H n U Z)/\(∀l k r s t,Rel X.K {C with kp:=c,zG:=(M,H)::C.zG} l k r s t->SqL X.K k a I):=by
   by_cases hM:M a
   .refine#[(a,o)::C.kp,#[R.len,R.sub,R.dom,R.ext,R.fU,R.uV,R.vM,R.feed,R.sl,R.pin,R.br0,R.new,R.two,λq N=>?_],λR=>R.lessKp,λl k r s t D=>a1 k (D.kept (a,o) Rs).1]
    rcases UF.mp N with rfl|N
    .refine#[ho,hM,nV,λj e q z=>?_]
     let#[u,hu]:=R.br0 i _ a hi e1
     have:=(R.new j _ a q rfl z).2
     rw[hu]at this;cases this
    .exact R.kept q N
   .exact#[C.kp,R,λR=>R,λl k r s t D=>a1 k^(D.pin (M,H) Rs).1 a o ho hM]
  exists λi m t k=>m=f.length - i/\i<=f.length/\∃l r s,Rel X.K {C with kp:=c,zG:=(M,H)::C.zG} l k r s t/\A7 b wb G (f.drop i) r s,#[f.length,by simp,eq _,M,n,U,R1.pinned,w];rintro i m t k ⟨rfl,a4,l,r,s,D,V⟩;have pr:Pres M H l k:=D.pin (M,H) Rs;have N:=st l k r s t D
  by_cases F:i<f.length
  .have ed:f.drop i=f[i]::f.drop (i+1):=kJ F
   rw[ed]at V;let#[v,ev,hv]:=(J.pres pr).get^On F;refine .inr #[#[I,v,N,ev],λzN H2=>∃M2 W Y,Rel X.K {C with kp:=c,zG:=(M,H)::C.zG} M2 H2 W Y zN/\A7 b wb G (f.drop (i+1)) W Y,λzN H2 #[M2,W,Y,a0,w2]=>#[f.length - (i+1),by lk,rfl,F,M2,W,Y,a0,w2],λy H2 hy=>?_];let#[e2,hy]:=hy;subst e2
   have:P3 v=P3 y:=ev.symm.trans^hy I N
   cases this;refine g2 _ l H2 r s t f[i] v _ _ D hv V λzP zV R3 w3=>?_;refine b2 _ l H2 r zP zV {G with nx:=A7 b wb G^f.drop (i+1),ct:=A7 b wb G^f.drop (i+1),bk:=G.nx} _ R3 #[λO H4 P Q zR S T=>#[O,P,Q,S,T],L.rt,λO H4 P Q zR S T=>L.nx O H4 P Q zR (B S.unpin) T,λO H4 P Q zR S T=>#[O,P,Q,S,T]] w3
  .have e:i=f.length:=by lk
   subst e;rw[mT]at V;exact .inl #[#[I,N,by rw[J.length];exact Op _],L.nx l k r s t (B D.unpin) V]
 |_=>cases hd
end
end Dp
namespace L2
open PySem.W
end L2
namespace Dp
open L2
end Dp
namespace L2
end L2
namespace Dp
open L2
section
variable {a:Expr}
mutual
theorem At.frz{K:Frag}{M:Db->Prop}{H:Hp}{a:Db}{f:Db->Obj}{kvs:v_ (Key×V)}(ha:H a=P3^.dK kvs):∀{d:D}{v:V},HZ d=t_->At K M H d v->At K M (Gv H [a] f) d v
 |.non,v,_,h=>h
 |.bl b,v,_,h=>h
 |.int i,v,_,h=>h
 |.str x,v,_,h=>h
 |.tup ds,v,hn,h=>by
  let#[b,vs,e,n2,hs]:=h;refine#[b,vs,e,?_,Ats.frz ha hn hs];unfold NdT at n2 ⊢;rw[ES λz=>by rw[Tk.mp z,ha]at n2;cases n2];exact n2
 |.lst ds,v,hn,h=>by
  let#[b,vs,e,#[n1,n2],hs]:=h;refine#[b,vs,e,#[n1,?_],Ats.frz ha hn hs];rw[ES λz=>by rw[Tk.mp z,ha]at n2;cases n2];exact n2
 |.dic _ _,v,hn,h=>by cases hn
 |.fdi _ _,v,hn,h=>by cases hn
 |.dit _ _,v,hn,h=>by cases hn
theorem Ats.frz{K:Frag}{M:Db->Prop}{H:Hp}{a:Db}{f:Db->Obj}{kvs:v_ (Key×V)}(ha:H a=P3^.dK kvs):∀{ds:v_ D}{vs:v_ V},D_ ds=t_->Ats K M H ds vs->Ats K M (Gv H [a] f) ds vs
 |[],vs,_,h=>h
 |d::ds,vs,hn,h=>by
  let#[v,r,e,h1,h2]:=h;have hn:(HZ d&&D_ ds)=t_:=hn;rw[jN]at hn;exact#[v,r,e,At.frz ha hn.1 h1,Ats.frz ha hn.2 h2]
end
end
end Dp
namespace L2
open PySem.W
structure i_ (prog:jM) (w:jT) (A:jY) (I d:Db) (n:Nat) (base:jI) (key:Nat->Db) (val:Nat->Ev) (ch:Db->Prop) (St:Nat->jI->Prop):Prop where
 new:∀b,ch b->base.get? b=s_
 item:∀(i:Nat) (s:Go) (Q:Option Ev->Go->Prop) (E:Ev->Go->Prop),i<n->St i s.heap->(∀b o,base.get? b=P3 o->s.heap.get? b=P3 o)->(∃o,s.heap.get? d=P3 o)->
  (∀h' tk a o c,h'.get? a=P3 o->o.cls=.type "tuple"->o.data=.seq #[ .ref^key i,val i] c->St (i+1) h'->(∀b o,¬ch b->s.heap.get? b=P3 o->h'.get? b=P3 o)->Q (P3^.ref a) {s with heap:=h',toks:=tk})->wpAny (model prog w) A (pyNext^.ref I) Q E s
 done:∀(s:Go) (Q:Option Ev->Go->Prop) (E:Ev->Go->Prop),St n s.heap->(∀b o,base.get? b=P3 o->s.heap.get? b=P3 o)->(∀h' tk,(∀b o,¬ch b->s.heap.get? b=P3 o->h'.get? b=P3 o)->Q s_ {s with heap:=h',toks:=tk})->wpAny (model prog w) A (pyNext^.ref I) Q E s
 frame:∀i h h',St i h->lz d h h'->St i h'
 dch:¬ch d
end L2
namespace Dp
open L2
end Dp
namespace L2
end L2
namespace Dp
open L2
end Dp
namespace L2
end L2
namespace Dp
open L2
end Dp
namespace L2
end L2
namespace Dp
open L2
end Dp
namespace L2
end L2
namespace Dp
open L2
end Dp
namespace L2
end L2
namespace Dp
open L2
section
variable {X:Cx}{κ:Kd}{tg iter:Expr}{src:Ea}{body:v_ Stmt}{pos:Pos}{b:BW}{wb:Ac}
def T9{v:Fm->Prop}(I:∀C p,v C->v {C with zG:=p})(V:oH (model X.prog X.w) X.A X.env X.xe)(W:X.calm=t_)(P:DI X tg iter src)(Y:DG X tg b)(hb:RG v X κ body wb)
  (hs:∀x,foldedSetIterable iter X.env x=pure x:=by intro _;rfl):dR v X κ (.For tg iter body [] pos)^Cs src b wb:=by
 let#[wi,a1,a2]:=P;let#[g,g1,g2]:=Y;let#[tb,b1,b2]:=hb;refine#[_,K7 V W a1 g1 b1 hs,λC M H n Q Z h E hC R L w=>?_];refine a2 C M H n Q Z _ _ R w λJ z a n1 e1 f1 y w1=>?_;have R1:=R.step e1 f1;exists λi m B j=>m=a.length - i/\i<=a.length/\∃c k o,Rel X.K {C with zG:=(M,z)::C.zG} c j k o B/\A7 b wb h (a.drop i) k o,#[a.length,by simp,eq _,M,n1,Q,R1.pinned,w1];rintro i m B j ⟨rfl,P,c,k,o,l,D⟩;have S:Pres M z c j:=l.pin (M,z) Rs
 by_cases d:i<a.length
 .have ed:a.drop i=a[i]::a.drop (i+1):=kJ d
  rw[ed]at D;let#[go,yl]:=(y i c j S l.dom).1 a[i] (On d);refine .inr #[go,λT H2=>∃M2 F G,Rel X.K {C with zG:=(M,z)::C.zG} M2 H2 F G T/\A7 b wb h (a.drop (i+1)) F G,λT H2 #[M2,F,G,f,w2]=>#[a.length - (i+1),by lk,rfl,d,M2,F,G,f,w2],λx H2 hy=>?_];let#[U,hx]:=yl x H2 hy;have f:=l.step U.ext^l.feed.grow U;refine g2 _ c H2 k o B a[i] x _ _ f hx D λzP zV R3 w3=>?_;refine b2 _ c H2 k zP zV {h with nx:=A7 b wb h^a.drop (i+1),ct:=A7 b wb h^a.drop (i+1),bk:=h.nx} _ (I C _ hC) R3 #[λq N r s O t u=>#[q,r,s,t,u],L.rt,λq N r s O t u=>L.nx q N r s O t.unpin u,λq N r s O t u=>#[q,r,s,t,u]] w3
 .have e:i=a.length:=by lk
  subst e;rw[mT]at D;exact .inl #[(y _ c j S l.dom).2 (Op _),L.nx c j k o B l.unpin D]
end
end Dp
namespace L2
section
variable {te:Zx}{tb:TE}{x:Str}
def gg(r:R2)(te:Zx)(tb:TE):Zx:=λR Z H Q=>te R Z H λx a=>tb Z a λy H2=>r x y H2 Q
end
end L2
namespace Dp
open L2
section
variable {wb:DW}
def dW(f:D->D->(D->Prop)->Prop)(w:Nat->v_ Slot->(D->Nat->Prop)->PX->Prop)(wb:DW):Nat->v_ Slot->(D->Nat->Prop)->PX->Prop:=λn a P b=>w n a (λd c=>wb c a λe g=>f d e λz=>P z g) b
end
def RM:Ac:=λa n b=>a.bk n b
def X2{X:Cx}{a:Kd}{pos:Pos}:DS X a (.Break pos) RM:=#[_,Wz,λC M H n b Z c E R L w=>L.bk M H n b Z R w]
end Dp
namespace L2
section
variable {X:Cx}{a b:Expr}{te:Zx}{tb:TE}{pos p2:Pos}{t u:YZ}
def gj(te:Zx)(t u:YZ):YZ:=λD R Z H=>te R Z H λv c=>∃k,v=.bl k/\if k=t_ then t D R Z c else u D R Z c
def Y1{f:CmpOp}{r:R2}{g i:v_ jP}(o:OpR X (compareOp f) r)(p:iD X a te)(q:PE X b tb)(A:behindInMarks f b=u_)(B:Vo X g t)(C:Vo X i u):c6 X (.If (.Compare a [f] [b] pos) g i p2)^gj (gg r te tb) t u:=by
 intro d s Z H D R I h
 refine wpAny_If (wpAny_isTrue_Compare1 (thn (p d s Z H _ R I h) λv E #[x,F,G,J,K]=>thn (au^q d E Z F _ G K) λw L #[y,H2,M,N,O]=>
  thn (au^o d L Z H2 x y v w _ M J N O) λc j #[z,l,m,P,k,e,n]=>?_) A)
 subst e;cases P;refine kd ?_;cases k with
 |true=>exact B d j Z l D R m n
 |false=>exact C d j Z l D R m n
end
end L2
namespace Dp
open L2
section
variable {X:Cx}{κ zM:Kd}{a b:Expr}{pos p2:Pos}{wb:DW}{u v:Ya}
def dX(w:Nat->v_ Slot->(D->Nat->Prop)->PX->Prop)(u v:Ya):Ya:=λf c n e=>w n e (λd g=>match d with
 |.bl k=>if k=t_ then u f c g e else v f c g e
 |_=>False) c
def Zh{i:CmpOp}{r:R2}{f:D->D->(D->Prop)->Prop}{w:Nat->v_ Slot->(D->Nat->Prop)->PX->Prop}{s x:v_ jP}(O:OpR X (compareOp i) r)(P:E4 X.K .sh r f)(Q:iY X a .sh w)(S:DE X b zM wb)(T:behindInMarks i b=u_)(U:YV X κ s u)(W:YV X κ x v):gA X κ (.If (.Compare a [i] [b] pos) s x p2)^dX (dW f w wb) u v:=by
 let#[t,Y,a2]:=Q;let#[tb,b1,b2]:=S;let#[t1,c1,c2]:=U;let#[t2,d1,j]:=W;refine#[_,Y1 O Y b1 T c1 d1,λC M H n g Z A E R m c L l w=>?_];refine a2 C M H n g Z _ _ R m c l w λv H1 d n1 B f1 r1 p=>?_;have e:=c.step B f1;refine b2 C M H1 n1 g Z _ _ e p λu H2 d2 F h G r2 p2=>?_;have R2:=e.step h G;refine P C.V M H2 d d2 v u _ _ R2.dom R2.vM ((r1.tpOf c.dom c.vM).pres (e.pres h) h c.uV) (r2.tpOf e.dom e.vM) p2 λz I y o r3 q=>?_;have J:=R2.step o.ext^G.grow o;cases y with
 |bl k=>
  exists k,G5 r3;have N:=((l.step B).step h).step o.ext;cases k with
  |true=>exact c2 C M I F g Z A E R m J L N q
  |false=>exact j C M I F g Z A E R m J L N q
 |_=>exact q.elim
end
abbrev Fu(K:Frag)(x:Str)(st:jP)(f:Db)(fd:jp):Prop:=Fun K x x st f fd
def DD{P:jM}{w:jT}{K:Frag}{i:Str->w_ Ev}{a:jI}{x:Str}{st:jP}{f:Db}{fd:jp}{N c:v_ Str}{k:Nat}{e:Kd}{W:W2}{j:Ac}(F:Fu K x st f fd)(S:Ab N c^AK st)
  (l:∀{d:Ev}{A:jY}{b:v_ Env}{s:Go}{H:Hp}{E:XK},Room k^A.deeper^envOfC x (AK st) s.heap.objs.size f d->RH (EG Fy P w K i a N x (AK st) f d A b s H E).nox e (Bc st) j)
  (m:∀{ss n Pd},W ss n Pd->j {nx:=λn _=>e=.sh/\Pd .non n,rt:=Pd} n (ss++T0 (N.length - c.length) .no)) (g:c.length<=N.length:=by cbv):
  CU P w K i a Fy (k+1) f fd c (Vt K e W c.length):=hV F S g (λ_ _ _ _ _ _ h=>l h) λ_ _ _ _ h=>m h
section
variable {X:Cx}
def cg{m:Nat}(g:Room m X.A){e:jX}{a:v_ jX}{k:Nat}{h:v_ Str}{f:Kd}{W:W2}{x:Str}{p pos:Pos}{b:Vx}(G:Got X.prog X.w X.K X.mg X.base x k h f W)(i:aV X (e::a) b)(j:k<=m:=by cbv)(l:Gl X x:=by rfl)
  (c:(x==("__debug__":Str))=u_:=by cbv) (n:starEach (e::a) X.env=(u_,eval e X.env)::starEach a X.env:=by rfl) (d:(backTo pos^starEach a X.env).any (·.1)=u_:=by rfl):DE X (.Call (.Name x p) (e::a) [] pos) f^AR W b:=Bm G (g.mono j) l i c n d
variable {tg iter elt:Expr}{ifs:v_ Expr}{sc:Scope}{pos:Pos}{b:BW}{tt:IE}{te:DW}{zQ:Kd}{src:Ea}
def NY(a:v_ Str)(c:v_^w_ Nat)(d:dG X tg iter src)(e:∀{cl C s H fp},DG (BF X sc a cl C s H fp) tg b)(f:∀{cl C s H fp},dS (BF X sc a cl C s H fp) ifs tt)(g:∀{cl C s H fp},DE (BF X sc a cl C s H fp) elt zQ te)
  (h:Jf sc X.env.scope X.N a c=t_) (i:X.calm=t_:=by rfl) (j:zQ≠.tp:=by intro z;cases z) (k:∀x,foldedSetIterable iter X.env x=pure x:=by intro _;rfl):DE X (.ListComp elt [#[tg,iter,ifs,0]] sc pos) .fr^Bi c src b tt te:=Zo i a c d (λ_ _ _ _ _=>e) (λ_ _ _ _ _=>f) (λ_ _ _ _ _=>g) h j k
end
theorem aJ{P:jM}{w:jT}{K:Frag}{p:Str->w_ Ev}{a:jI}{x:Str}{st:jP}{f:Db}{fd:jp}{N e:v_ Str}{W:Nat->W2}{t:W2->Ac}(c:Nat)(F:Fu K x st f fd)(S:Ab N e^AK st)(m:p x=P3^.ref f)(b:Binds K fd e [])
  (q:∀{k:Nat}{o:W2}{i:Ev}{A:jY}{d:v_ Env}{s:Go}{H:Hp}{E:XK},c+1<=k->Got P w K p a x k e .sh o->Room k^A.deeper^envOfC x (AK st) s.heap.objs.size f i->RH (EG Fy P w K p a N x (AK st) f i A d s H E).nox .sh (Bc st)^t o)
  (r:∀{o j g n Pd},(∀g n P,j≠0->W (j - 1) g n P->o g n P)->W j g n Pd->t o {nx:=λn _=>Kd.sh=.sh/\Pd .non n,rt:=Pd} n (g++T0 (N.length - e.length) .no)) (u:∀j g n P,W j g n P->g.length=e.length) (l:e.length<=N.length:=by cbv):
  ∀j,CU P w K p a Fy (c+2+j) f fd e^Vt K .sh (W j) e.length
 |0=>hV (k:=c+1) F S l (λ_ _ _ _ _ _ h=>q (Op _) (Xp (W:=λ_ _ _=>False) F m b (λ_ _ _ h=>h.elim)^F.ok (k:=c) S (λv H Q E h=>h.1) λi A d s H v Q E B h=>by let#[_,_,_,_,_,_,_,_,_,y,_]:=h;exact y.elim) h) λ_ _ _ _ h=>r (λ_ _ _ z _=>absurd rfl z) h
 |j+1=>hV (k:=c+2+j) F S l (λ_ _ _ _ _ _ h=>q (by lk) (Xp F m b (u j)^aJ c F S m b q r u l j) h) λ_ _ _ _ h=>r (j:=j+1) (λ_ _ _ _ h=>h) h
end Dp
namespace K39
open L2 Dp Nt
def top(i:Nat):jP:=PySem.Challenge.pw_thinnet_k39_whole_pairs.main.body.getD i^.Pass #[0,0,0,0]
def fL(s:jP):jP:=match s with
 |.ClassDef _ _ _ b _ _ _ _ _ _ _=>b.getD 0^.Pass #[0,0,0,0]
 |_=>.Pass #[0,0,0,0]
abbrev Ko:jP:=top 10
abbrev GK:jP:=top 11
abbrev JI:jP:=top 12
abbrev M_:jP:=top 13
abbrev Kl:jP:=top 14
abbrev Gm:jP:=top 15
abbrev WW:jP:=top 16
abbrev JH:jP:=top 17
abbrev NA:jP:=top 18
abbrev M9:jP:=top 19
abbrev JF:jP:=top 21
abbrev EL:jP:=top 22
abbrev G9:jP:=top 23
abbrev HB:jP:=top 24
abbrev Z3:jP:=top 25
abbrev Pt:jP:=top 26
abbrev HD:jP:=top 28
abbrev JD:jP:=top 29
abbrev NC:jP:=top 30
abbrev GI:jP:=top 31
abbrev JG:jP:=top 33
abbrev FD:jP:=top 34
abbrev G8:jP:=top 36
abbrev NB:jP:=top 37
abbrev GH:jP:=top 38
abbrev Kp:jP:=top 39
abbrev JJ:jP:=top 40
abbrev JK:jP:=top 41
abbrev G_:jP:=top 42
abbrev HA:jP:=top 44
abbrev HC:jP:=top 45
abbrev DM:jP:=top 46
abbrev Kk:jP:=top 47
abbrev JE:jP:=top 48
abbrev GJ:jP:=top 49
abbrev FG:jP:=top 51
abbrev Dz:jP:=top 52
abbrev HI:jP:=top 53
abbrev GP:jP:=top 54
abbrev Ks:jP:=top 55
abbrev HH:jP:=top 56
abbrev FF:jP:=top 57
abbrev HE:jP:=top 58
abbrev GL:jP:=top 59
abbrev Kq:jP:=top 60
abbrev FE:jP:=top 61
abbrev HG:jP:=top 62
abbrev HJ:jP:=top 63
abbrev JL:jP:=top 64
abbrev GN:jP:=top 65
abbrev EM:jP:=top 66
abbrev JM:jP:=top 67
abbrev Kr:jP:=top 68
abbrev JN:jP:=top 69
abbrev Kt:jP:=top 70
abbrev HK:jP:=top 71
abbrev HF:jP:=top 72
abbrev GO:jP:=top 73
abbrev Km:jP:=top 74
abbrev CY:jP:=fL^top 2
structure Txt (K:Frag) (mg:Str->Option Ev):Prop where
 Gaj:mg "ValueError"=s_
 Gap:mg "abs"=s_
 Gag:mg "all"=s_
 Gao:mg "bool"=s_
 Gae:mg "enumerate"=s_
 Gal:mg "int"=s_
 Gaa:mg "isinstance"=s_
 Gac:mg "len"=s_
 Gak:mg "list"=s_
 Gai:mg "min"=s_
 Gaf:mg "range"=s_
 Gah:mg "reversed"=s_
 Gad:mg "sorted"=s_
 Gam:mg "str"=s_
 Gab:mg "tuple"=s_
 Gan:mg "zip"=s_
 x_NoPaper:∃C U,XC K "NoPaper" C U/\mg "NoPaper"=P3 (.ref C)
 x_NoLine:∃C U,XC K "NoLine" C U/\mg "NoLine"=P3 (.ref C)
 x_TooMany:∃C U,XC K "TooMany" C U/\mg "TooMany"=P3 (.ref C)
 x_Twice:∃C U,XC K "Twice" C U/\mg "Twice"=P3 (.ref C)
 x_NoPlace:∃C U,XC K "NoPlace" C U/\mg "NoPlace"=P3 (.ref C)
 x_NoTie:∃C U,XC K "NoTie" C U/\mg "NoTie"=P3 (.ref C)
 x_NoRow:∃C U,XC K "NoRow" C U/\mg "NoRow"=P3 (.ref C)
 x_ThinError:∃U,dQ K U/\mg "ThinError"=P3^.ref U/\nsIn K mainGlobals "ThinError"=P3^P3^.ref U
section
variable {P:Program}{w:World}{K:Frag}{mg:Str->w_ Value}{base:Heap}
def qR:Ab ["_law_feed_here","_law_many","_law_digit","_law_at","_law_cell","_law_first"] ["_law_feed_here","_law_many"]^AK Dz:=#[rfl,rfl,rfl,by decide +kernel,rfl,by decide +kernel,by decide +kernel]
def ZH{f:Db}{fd:jp}(F:Fun K "_law_next" "_law_next" Dz f fd)(ml:mg "len"=s_):CU P w K mg base Fy 1 f fd ["_law_feed_here","_law_many"]^Vt K .sh Bn 2:=by
 refine F.ok qR (λvs H Q E h=>h.1) λa0 A a1 s H vs Q E hr h=>?_;let#[hl,F0,U,V',M,n,ss,Pd,ra,#[m,rfl,a8,S,hn,hP],q]:=h;let#[a9,fU,uV,vM,a2,T]:=ra;cases T with
 |cons r1 T=>
 cases T with
 |cons r2 T=>
 cases T;let#[#[d,c],e0,hF]:=r1.1;cases e0;let#[v2,e2,Z]:=r2.1;cases e2;cases(show _=V.int m from Z);let#[a,r,u,J,L,hc,a3,a4,b0]:=a2 (d,c) hF
 have N:∀(W r' z:Int) (y:Hp),(∀b o,H b=P3 o->b≠d->y b=P3 o)->y d=P3^.lst [.ref c,.int W,.int r']->0<=W->W<=a+1->0<=z->z<m->Q (.int z) y:=by
  intro W r' z y hk X h0 h1 a5 a6;refine q (.int z) y (.int z) (n - 1) (λb o e=>?_) (λg hg=>?_) rfl (hP z a5 a6)
  .by_cases v:b=d
   .subst v
    exact#[_,X,λnu=>absurd (fU (b,c) hF) nu,λvs z=>by rw[z,J]at e;cases e]
   .exact#[o,hk b o e v,λ_=>rfl,λ_ _=>rfl]
  .have:g=(d,c):=jH^hg.symm.trans hF
   subst this;exact#[W,r',u,X,L,#[hc.1,hk c _ hc.2 L],a3,h0,by lk]
 have hu:(A.deeper^envOfC "_law_next" (AK Dz) s.heap.objs.size f a0).units<cLine:=hr.units0;have l:∀{y:Hp}{xs:v_ V},y d=P3^.lst xs->SqL K y d xs:=λh=>SqL.of h;have R:∀z:Int,0<=z % m/\z % m<m:=λz=>#[Int.emod_nonneg _^by lk,Int.emod_lt_of_pos _^by lk]
 exists _,BV (TX (HM aF (Es ix_list (pv 0) BD λ_ _=>rfl) BD^Am _)
   (BV (FI (i:=2) qR.nd rfl (TW rfl) (CB FN (Es ix_list (pv 0) BD λ_ _=>rfl)^pv 1))
   (BV (K8 (CB HV (Es ix_list (pv 0) BD λ_ _=>rfl)^pv 1)^Rt (pv 0) BD set_list)
   (C5^Gn^pv 2))) Jz)
  (BV (FI (i:=3) qR.nd rfl (TW rfl) (Es ix_list (pv 0) BD λ_ _=>rfl))
  (BV (K8 (CB op_add (pv 3) BD)^Rt (pv 0) BD set_list)
  (BV (FI (i:=4) qR.nd rfl (TW rfl) (P6 (HM (U1 hu) (Es ix_list (pv 0) BD λ_ _=>rfl) (Rv CJ)^Am _)
   (Es ix_list (Es ix_list (pv 0) BD λ_ _=>rfl) (CB FN (pv 3) (EN BL rfl ml PySem.boot_len (BZ (Es ix_list (pv 0) BD λ_ _=>rfl) CJ))) λ_ _=>rfl) BD))
  (BV (TX (PW.pt^Ws (HM aG (pv 4) (CB FL BD BD)^Am _)^TR^HM op_lt (pv 3) (EN BL rfl ml PySem.boot_len (BZ (Es ix_list (pv 0) BD λ_ _=>rfl) CJ))^Am _)
   (BV (K8 (CB HV (pv 4)^pv 1)^Rt (pv 0) BD set_list)
   (C5^Gn^CB FN (pv 4)^pv 1)) Jz)
  (BV (FI (i:=5) qR.nd rfl (TW rfl) (CB FN (CB op_mul (CB op_add (CB op_add (CB op_add (CB FN (pv 4) BD)^CB op_mul (CB op_mul BD^pv 3)^pv 3)^CB op_mul BD^pv 3) BD) BD) BD))
  (C5^Gn^CB FN (CB HV (CB FN (CB op_mul (CB op_add (pv 5)^CB op_mul BD^pv 3) BD) BD) BD)^pv 1))))))
 exists _,rfl,d,_,2,_,rfl,rfl,l J,rfl,_,_,rfl,rfl,_,rfl;refine DJ (λc1=>?_) λc1=>?_
 .exists _,rfl,d,_,2,_,rfl,rfl,l J,rfl,_,rfl,_,_,rfl,rfl,(by show(0:Int)<m;lk)
  exists _,rfl,d,_,2,_,rfl,rfl,l J,rfl,_,rfl,_,_,rfl,rfl,#[(by show(0:Int)<m;lk),S],_,rfl,d,_,2,2,rfl,rfl,J,rfl;exists _,rfl;exact N a _ _ _ (λb o e v=>by rw[AW v];exact e) Ah a4 (by lk) (R _).1 (R _).2
 ·-- at=feed[1];feed[1]=at+1
  exists _,rfl,d,_,1,_,rfl,rfl,l J,rfl;exists _,rfl,_,_,rfl,rfl,_,rfl,d,_,1,1,rfl,rfl,J,rfl;generalize Y:A4 H d^.lst^[V.ref c,V.int a,V.int r].set 1^V.int (a+1)=H1;have f1:H1 d=P3^.lst [.ref c,.int (a+1),.int r]:=by rw[←Y];exact Ah
  have k1:∀b o,H b=P3 o->b≠d->H1 b=P3 o:=λb o e v=>by rw[←Y,AW v];exact e
  have B:H1 c=P3^.lst^u.map V.int:=k1 c _ hc.2 L
  have D:∀(z:Int) (H2:Hp),(∀b o,H1 b=P3 o->H2 b=P3 o)->
    (Ua (dq (eA (S9^EK (JO λi j=>V.bl (decide (j<=i))) (CA 4)^EK (rI L9 λi j=>V.int (i ^ j.toNat)) (tC^V.int 10)^tC^V.int 18)^S9^EK (JO λi j=>V.bl (decide (i<j))) (CA 3)^gF (λxs H Q=>∃x n,xs=[x]/\c9 K x H n/\Q (V.int n) H)^S_ (EK (bM K) (CA 0)^tC^V.int 0) Yr) (Ua (Pk (EK (rI Vs λi j=>V.int (i / j)) (CA 4)^CA 1)^fO (CA 0) (tC^V.int 2) Z8)^Yn^EK (rI (λ_ j=>0<j) λi j=>V.int (i % j)) (CA 4)^CA 1) Z1)^Ua (Pk (EK (rI (λ_ j=>0<j) λi j=>V.int (i % j)) (EK (rI CMul λi j=>V.int (i*j)) (EK (JO λi j=>V.int (i+j)) (EK (JO λi j=>V.int (i+j)) (EK (JO λi j=>V.int (i+j)) (EK (rI (λ_ j=>0<j) λi j=>V.int (i % j)) (CA 4)^tC^V.int 1000003)^EK (rI CMul λi j=>V.int (i*j)) (EK (rI CMul λi j=>V.int (i*j)) (tC^V.int 41)^CA 3)^CA 3)^EK (rI CMul λi j=>V.int (i*j)) (tC^V.int 17)^CA 3)^tC^V.int 3)^tC^V.int 51749)^tC^V.int 999917)^JX 5)^Yn^EK (rI (λ_ j=>0<j) λi j=>V.int (i % j)) (EK (rI Vs λi j=>V.int (i / j)) (EK (rI (λ_ j=>0<j) λi j=>V.int (i % j)) (EK (rI CMul λi j=>V.int (i*j)) (EK (JO λi j=>V.int (i+j)) (CA 5)^EK (rI CMul λi j=>V.int (i*j)) (tC^V.int 8111)^CA 3)^tC^V.int 39373)^tC^V.int 2097143)^tC^V.int 3)^CA 1)
     {nx:=λ_ y=>Q .non y,rt:=Q} [P3^.ref d,P3^.int m,s_,P3^.int a,P3^.int z,s_] H2:=by
   intro z H2 k2;have f2:=k2 _ _ f1;have c2:=k2 _ _ B
   have t:∀H3:Hp,H3=H2->(Ua (Pk (EK (rI (λ_ j=>0<j) λi j=>V.int (i % j)) (EK (rI CMul λi j=>V.int (i*j)) (EK (JO λi j=>V.int (i+j)) (EK (JO λi j=>V.int (i+j)) (EK (JO λi j=>V.int (i+j)) (EK (rI (λ_ j=>0<j) λi j=>V.int (i % j)) (CA 4)^tC^V.int 1000003)^EK (rI CMul λi j=>V.int (i*j)) (EK (rI CMul λi j=>V.int (i*j)) (tC^V.int 41)^CA 3)^CA 3)^EK (rI CMul λi j=>V.int (i*j)) (tC^V.int 17)^CA 3)^tC^V.int 3)^tC^V.int 51749)^tC^V.int 999917)^JX 5)^Yn^EK (rI (λ_ j=>0<j) λi j=>V.int (i % j)) (EK (rI Vs λi j=>V.int (i / j)) (EK (rI (λ_ j=>0<j) λi j=>V.int (i % j)) (EK (rI CMul λi j=>V.int (i*j)) (EK (JO λi j=>V.int (i+j)) (CA 5)^EK (rI CMul λi j=>V.int (i*j)) (tC^V.int 8111)^CA 3)^tC^V.int 39373)^tC^V.int 2097143)^tC^V.int 3)^CA 1)
     {nx:=λ_ y=>Q .non y,rt:=Q} [P3^.ref d,P3^.int m,s_,P3^.int a,P3^.int z,s_] H3:=by
    intro H3 e3;subst e3;have v:CMul (41*a) a:=.inr #[by lk,by lk];exists _,rfl,_,_,rfl,rfl,(by show(0:Int)<1000003;decide),_,rfl,_,_,rfl,rfl,.inl #[by cbv,by cbv],_,rfl,_,_,rfl,rfl,v,_,_,rfl,rfl,_,rfl,_,_,rfl,rfl,.inl #[by cbv,by cbv],_,_,rfl,rfl,_,_,rfl,rfl,_,_,rfl,rfl,.inr #[by cbv,by cbv],_,_,rfl,rfl,(by show(0:Int)<999917;decide);exists _,rfl,_,rfl,_,_,rfl,rfl,.inl #[by cbv,by cbv],_,_,rfl,rfl,_,_,rfl,rfl,.inr #[by cbv,by cbv],_,_,rfl,rfl,(by show(0:Int)<2097143;decide),_,_,rfl,rfl,#[by cbv,by cbv],_,rfl,_,_,rfl,rfl,(by show(0:Int)<m;lk);exact N (a+1) r _ _ (λb o e v=>k2 b o^k1 b o e v) f2 (by lk) (by lk) (R _).1 (R _).2
   exists _,rfl,_,_,rfl,rfl,#[by cbv,by cbv,by cbv],_,_,rfl,rfl,_,rfl;refine DJ (λc3=>?_) λc3=>?_
   .exists _,rfl,_,rfl,d,_,0,_,rfl,rfl,l f2,rfl,_,_,rfl,.inl #[_,SqL.of c2,rfl],_,_,rfl,rfl,_,rfl
    refine DJ (λc4=>?_) λc4=>t H2 rfl;exists _,rfl,_,rfl,_,_,rfl,rfl,#[(by show(0:Int)<m;lk),S],_,rfl,d,_,2,2,rfl,rfl,f2,rfl;exists _,rfl,_,rfl,_,_,rfl,rfl,(by show(0:Int)<m;lk);exact N (a+1) _ _ _ (λb o e v=>by rw[AW v];exact k2 b o^k1 b o e v) Ah (by lk) (by lk) (R _).1 (R _).2
   .refine DJ (λc4=>absurd c4^by simp) λ_=>t H2 rfl
  refine#[_,rfl,d,_,0,_,rfl,rfl,l f1,rfl,(by show 0<=sizeLine;decide),λp hp=>?_];have O:∀b o,H1 b=P3 o->A4 H1 p (.lst []) b=P3 o:=λb o e=>by rw[AW^A6 e hp];exact e
  exists c,p,_,rfl,rfl,SqL.of^O _ _ B,SqL.of Ah,_,rfl;cases u with
  |nil=>exact Bl^D 0 _ O
  | cons G C=>
   refine Bv ?_;have a7:(((G::C).map V.int).length:Int)=(C.length:Int)+1:=by simp
   have I:(0:Int)<(((G::C).map V.int).length:Int):=by lk
   obtain⟨z,hz⟩:∃z,atI ((G::C).map V.int) (a % (((G::C).map V.int).length:Int))=P3^.int z:=by
    have h1:=Int.emod_nonneg a (show(((G::C).map V.int).length:Int)≠0 by lk);have Z:=Int.emod_lt_of_pos a I;generalize a % (((G::C).map V.int).length:Int)=j at h1 Z;obtain⟨k,rfl⟩:∃k:Nat,j=(k:Int):=#[j.toNat,by lk];have hk:k<(G::C).length:=by rw[No]at Z;lk
    refine#[(G::C)[k],AJ ?_];rw[jG,On hk];rfl
   exists _,rfl,d,_,0,_,rfl,rfl,l^O _ _ f1,rfl,_,rfl,_,rfl,d,_,0,_,rfl,rfl,l^O _ _ f1,rfl,_,_,rfl,.inl #[_,SqL.of^O _ _ B,rfl],_,_,rfl,rfl,I,c,_,_,_,rfl,rfl,SqL.of^O _ _ B,hz;exact D z _ O
end
end K39
namespace Nt
open L2 Dp
abbrev EE(a:D->Nat->Prop):E2:={nx:=λn _=>Kd.sh=.sh/\a .non n,rt:=a}
theorem Ba{b:BW}{k:DW}{P:v_ D->Nat->Prop}(g:D->D)(I:v_ Slot->Prop):∀(e a:v_ D) (n:Nat) (c:v_ Slot),
  (∀d∈e,∀(c:v_ Slot) (n:Nat) (l:D->Nat->v_ Slot->Prop),I c->(∀i,I i->l (g d) n i)->b d c λm=>k n m λy p=>l y p m)->I c->P (a++e.map g) n->D6 b DU k P e a n c
 |[],a,n,c,_,_,h=>by rw[qP,jZ]at h;exact h
 |d::e,a,n,c,o,j,h=>o d Rs c n _ j λi f=>
  Ba g I e _ n _ (λd q=>o d^Sc _ q) f (by simp_all)
def FW{b:Type}{l:v_ b}{p:b->Bool}{P:D->Prop}(h:P^.bl^l.all p):MX [.lst^l.map λa=>.bl^p a] P:=
 #[_,_,rfl,Hy p l,by simp_all]
def Sf{b1 b2:Bool}{P:D->Nat->Prop}{n:Nat}{k:(D->Nat->Prop)->Prop}(a:b1=t_->P (.bl b2) n->k P)(h:P (.bl (b1&&b2)) n):(match (.bl b1:D)with|.bl t_=>k P|.bl u_=>P (.bl u_) n|_=>False):=YD a h
abbrev Wb(g:D->Bool):W2:=aD 1 λa=>.bl^g^a.getD 0 .non
def Wb.out{g:D->Bool}{a:v_ Slot}{n:Nat}{P:D->Nat->Prop}(h:Wb g a n P):∃d,a=[.sh d]/\P (.bl^g d) n:=by
 let#[b,c,rfl,h]:=h
 match b,c with
 |[d],_=>simp_all
def RJ:D->Bool
 |.int _=>t_
 |_=>u_
def tupleOfB(k:Int):D->Bool
 |.tup a=>((a.length:Int)==k)
 |_=>u_
def YY(d e:D):w_ Bool:=match d,e with
 |.int i,.int j=>P3 (decide (i<j))
 |.str i,.str j=>P3 (decide (cs i<cs j))
 |.tup c,.tup f=>match JU c,JU f with
  |some a,P3 b=>if CT a b then P3^Gs a b else s_
  |_,_=>s_
 |_,_=>s_
def Zc{d e:D}{b:Bool}{P:D->Prop}(h:YY d e=P3 b)(p:P^.bl b):FV d e P:=by
 unfold YY at h
 split at h
 .cases h;exact p
 .cases h;exact p
 .split at h
  .rename_i a c f g
   split at h
   .rename_i i
    cases h;exact#[a,c,f,g,i,p]
   .cases h
  .cases h
 .cases h
def Zu:v_ D->Bool
 |x::y::r=>(YY x y==P3 t_)&&Zu (y::r)
 |_=>t_
abbrev L3:W2:=Wb RJ
abbrev CF:W2:=λa n P=>∃k d,a=[.sh^.int k,.sh d]/\P (.bl^tupleOfB k d) n
abbrev KD:W2:=λc n P=>∃d a,c=[.sh d]/\Eg d=P3 a/\a.length<=200000/\(∀x∈a,∀y∈a,∃b,YY x y=P3 b)/\P (.bl^Zu a) n
def Sd:Ac:=(Aq^F_ (KU "int"^AC 0)^Yg^KU "bool"^AC 0)
def Md:Ac:=(Aq^F_ (KU "tuple"^AC 1)^AX (J7 u_) (CI EB^AF (AC 1) AV)^AC 0)
def Qr:Ac:=(Aq^CI MX^AF (Bi [s_,s_] (Ye^AF (AC 0)^AF (IF Co (AC 0) (Bk^wC^D.int 1) BG) AV) (Bz 2^Aa (AT 0)^Aa (AT 1) BM) DU^AX FV (AC 0)^AC 1) AV)
section
variable {ss:v_ Slot}{n:Nat}{Pd:D->Nat->Prop}
def P0(h:L3 ss n Pd):Sd (EE Pd) n (ss++T0 0 .no):=by
 let#[d,rfl,q]:=h.out;cases d <;>exact q
def K0(h:CF ss n Pd):Md (EE Pd) n (ss++T0 0 .no):=by
 let#[k,d,rfl,h]:=h;cases d with
 |tup a=>exact#[_,_,rfl,rfl,h]
 |_=>exact h
def cX{b:Type}(a:v_ b):Dp.cutD a (P3 1) s_=a.drop 1:=by
 unfold Dp.cutD;rw[HT.sIx_none,show 1=((1:Nat):Int)from rfl,HT.sIx_nat]
 by_cases h:1<=a.length
 .rw[lX h]
  exact px^by simp_all
 grind
theorem UL:∀c:v_ D,((EH c^c.drop 1).all λd=>match d with|.tup [a,b]=>YY a b==P3 t_|_=>u_)=Zu c
 |[]=>rfl
 |[x]=>rfl
 |x::y::r=>by
  have e:=UL (y::r);show((EH _ (y::r)).all _)=_;unfold EH Zu;rw[List.zipWith_cons_cons,qH]
  congr 1
def Yc{c e:v_ D}{d:D}(h:d∈EH c e):∃a∈c,∃b∈e,d=.tup [a,b]:=by
 unfold EH at h;let#[i,f]:=List.getElem?_of_mem h;rw[oI]at f;cases g:c[i]? with
 |none=>simp_all
 | some a=>
  cases j:e[i]? with
  |none=>simp_all
  |some b=>
   rw[g,j]at f;exact#[a,jo g,b,jo j,(jH f).symm]
def OB(h:KD ss n Pd):Qr (EE Pd) n (ss++T0 0 .no):=by
 let#[d,c,rfl,e,A,f,h]:=h
 have i:(EH c^c.drop 1).length<=10000000/\D6 (Bz 2^Aa (AT 0)^Aa (AT 1) BM) DU (AX FV (AC 0)^AC 1) (λg k=>MX [.lst g] λz=>Pd z k) (EH c^c.drop 1) [] n [.no,.no]:=by
  refine#[by unfold EH;rw[List.length_zipWith];lk,?_];refine Ba (λd=>.bl (match d with|.tup [a,b]=>YY a b==P3 t_|_=>u_)) (λj=>∃s t,j=[s,t]) _ _ _ _ ?_ #[_,_,rfl] ?_
  .rintro z l j m o ⟨s,t,rfl⟩ q
   let#[a,u,b,v,rfl]:=Yc l;let#[r,w]:=f a u b^List.mem_of_mem_drop v;exists rfl,rfl;show FV a b λy=>o y m [.sh a,.sh b];refine Zc w ?_
   simp_all
  .rw[jQ]
   refine FW (p:=fun(d:D)=>match d with|.tup [a,b]=>YY a b==P3 t_|_=>u_) ?_;rw[UL];exact h
 cases d with
 |lst x=>
  cases e;exact#[_,_,c,c.drop 1,rfl,rfl,by rw[cX];rfl,i]
 |tup x=>
  cases e;exact#[_,_,c,c.drop 1,rfl,rfl,by rw[cX];rfl,i]
 |_=>cases e
end
def strsOf(a:v_ D):v_ Str:=(Sg a).getD []
def YH{a:Type}(p:a->Bool)(l:v_ a):(l.map p).all id=l.all p:=by simp_all
def Pm{x:Str}(h:∀c∈cs x,c<1114112):PyData.strOk x=t_:=by
 unfold PyData.strOk;rw[←Array.all_toList,kr];intro c a;exact decide_eq_true^h c a
def ER{x:Str}(h:SI x):Cd^.str x:=#[rfl,Pm λc a=>by have:=h.2.2 c a;lk,eq _]
def QM{a:v_ Str}(h:∀p∈a,SI p):D_^a.map .str=t_/\lZ^Bp^a.map .str=t_/\kj^Bp^a.map .str=0:=by
 induction a with
 |nil=>exact#[rfl,rfl,rfl]
 | cons p r b=>
  let#[e,c,f]:=b λq d=>h q^Sc _ d;exists by assumption,?_
  .rw[ju,Bp,lZ,c,Bool.and_true]
   exact(ER^h p Rs).2.1
  assumption
def Ic{a:v_ Str}(h:∀p∈a,SI p):Cd^.tup^a.map .str:=by
 let#[b,c,d]:=QM h;exists b,c;show kj _+1<=100
 simp_all
def Hf(x y:Str):DQ (.str x)^.str y=(x==y):=rfl
def Ec(a:v_ Str):strsOf^a.map .str=a:=by unfold strsOf;rw[Qv];rfl
section
def gW{d:D}(h:tupleOfB 2 d=t_):∃a b,d=.tup [a,b]:=by
 cases d with
 |tup c=>
  have:=eq_of_beq h
  match c,this with
  |[a,b],_=>grind
  |[],h=>cases h
  |[_],h=>cases h
  |_::_::_::r,h=>grind
 |_=>cases h
end
mutual
def fine(B:Nat):D->Prop
 |.int i=>i.natAbs<=B
 |.str x=>∀c∈cs x,c<1114112
 |.tup ds=>He B ds
 |.lst ds=>He B ds
 |.dic _ _=>False
 |.fdi _ _=>False
 |.dit _ _=>False
 |_=>True
def He(B:Nat):v_ D->Prop
 |[]=>True
 |d::ds=>fine B d/\He B ds
end
mutual
def DC:D->Nat
 |.int _=>200
 |.str x=>x.length
 |.tup ds=>Ct ds
 |.lst ds=>Ct ds
 |_=>0
def Ct:v_ D->Nat
 |[]=>0
 |d::ds=>DC d+1+Ct ds
end
mutual
def Gz:D->Nat
 |.tup ds=>IG ds+1
 |.lst ds=>IG ds+1
 |_=>0
def IG:v_ D->Nat
 |[]=>0
 |d::ds=>max (Gz d)^IG ds
end
theorem fines_iff{B:Nat}:∀{b:v_ D},He B b↔∀d∈b,fine B d
 |[]=>#[(λ_ d h=>by cases h),λ_=>trivial]
 | d::b=>by
  have c:=@fines_iff B b;constructor
  .rintro⟨f,g⟩ e a
   rcases UF.mp a with rfl|a
   .exact f
   .exact c.mp g e a
  .exact λh=>#[h d Rs,c.mpr λe a=>h e^Sc _ a]
theorem dps_le{k:Nat}:∀{a:v_ D},IG a<=k↔∀d∈a,Gz d<=k
 |[]=>#[(λ_ d h=>by cases h),λ_=>eq _]
 | d::a=>by
  have c:=@dps_le k a;show max (Gz d)^IG a<=k↔_;rw[Nat.max_le,c];constructor
  .rintro⟨f,g⟩ e b
   rcases UF.mp b with rfl|b
   .exact f
   .exact g e b
  .exact λh=>#[h d Rs,λe b=>h e^Sc _ b]
theorem B8:∀(b a:v_ D),Ct (b++a)=Ct b+Ct a
 |[],a=>by simp[Ct]
 |d::b,a=>by
  rw[oF];show DC d+1+Ct (b++a)=DC d+1+Ct b+Ct a;rw[B8 b a];lk
theorem TC:∀(a:v_ D),Ct a.reverse=Ct a
 |[]=>rfl
 |d::a=>by
  rw[my,B8,TC a];show Ct a+(DC d+1+0)=DC d+1+Ct a;lk
def Pl(a:v_ D)(k:Nat):Ct^a.take k<=Ct a:=by
 have:=B8 (a.take k)^a.drop k
 rw[lQ]at this;lk
def WO(a:v_ D)(k:Nat):Ct^a.drop k<=Ct a:=by
 have:=B8 (a.take k)^a.drop k
 rw[lQ]at this;lk
def TD{c:v_ D}{d:D}(h:d∈c):DC d+1<=Ct c:=by
 let#[a,b,rfl]:=List.append_of_mem h;rw[B8];show _<=_+(DC d+1+Ct b);lk
theorem Dx:∀(a:v_ D),a.length<=Ct a
 |[]=>eq _
 |d::a=>by
  have:=Dx a
  show a.length+1<=DC d+1+Ct a;lk
def Jy(a:v_ D)(b c:w_ Int):Ct^Dp.cutD a b c<=Ct a:=jJ (Pl _ _)^WO _ _
def Ci{a:v_ D}{b c:w_ Int}{d:D}(h:d∈Dp.cutD a b c):d∈a:=List.mem_of_mem_drop^List.mem_of_mem_take h
def F2{B C:Nat}(h:B<=C):∀(n:Nat),(∀d:D,sizeOf d<=n->fine B d->fine C d)/\∀a:v_ D,sizeOf a<=n->He B a->He C a:=by
 intro n
 induction n with
 |zero=>
  refine#[λd e _=>?_,λa e _=>?_]
  .cases d <;>simp at e
  .cases a <;>simp at e
 | succ n f=>
  refine#[λd e c=>?_,λa e c=>?_]
  .cases d with
   |int i=>exact jJ (show i.natAbs<=B from c) h
   |str x=>exact c
   |tup a=>exact f.2 a (by simp at e;lk) c
   |lst a=>exact f.2 a (by simp at e;lk) c
   |dic g a=>exact(show False from c).elim
   |fdi g a=>exact(show False from c).elim
   |dit g a=>exact(show False from c).elim
   |non=>trivial
   |bl b=>trivial
  .cases a with
   |nil=>trivial
   |cons d a=>exact#[f.1 d (by simp at e;lk) c.1,f.2 a (by simp at e;lk) c.2]
def fine.mono{B C:Nat}{d:D}(a:fine B d)(h:B<=C):fine C d:=(F2 h _).1 d (Op _) a
mutual
theorem T3{B:Nat}(hB:B<10 ^ 45):∀{d:D},fine B d->HZ d=t_/\(toPy d).showable=t_/\(toPy d).canLay0=t_/\(toPy d).depth=Gz d/\(toPy d).leavesShort 60=t_/\(toPy d).weight<=DC d
 |.non,_=>#[rfl,rfl,rfl,rfl,rfl,Op _]
 |.bl b,_=>#[rfl,rfl,rfl,rfl,rfl,Op _]
 | .int i,h=>by
  have h':i.natAbs<=B:=h;have hlt:i.natAbs<10 ^ 45:=mh h' hB;have h2:i.natAbs<2 ^ 150:=Nat.lt_trans hlt^by cbv
  have hl:i.natAbs.log2<150:=by
   by_cases h0:i.natAbs=0
   .rw[h0];decide
   .exact(Nat.log2_lt h0).mpr h2
  refine#[rfl,?_,rfl,rfl,?_,?_]
  .show decide (i.natAbs.log2<1920)=t_
   exact decide_eq_true^by lk
  .show decide ((PyData.shown^.int i).length<=60)=t_
   refine decide_eq_true ?_
   have:=int_text_length_le10 (a:=i) (k:=45) (by cbv) hlt
   show(lE^toString i).length<=60;rw[PySem.ofString_length];lk
  .show(if i==0 then 0 else i.natAbs.log2+1)<=200
   split <;>lk
 |.str x,h=>by
  have h':∀c∈cs x,c<1114112:=h;refine#[rfl,rfl,Pm h',rfl,?_,Op _];show(x.cps.toList.all λc=>decide (c<16 ^ 8))=t_;rw[kr];intro c hc;exact decide_eq_true^Nat.lt_trans (h' c hc)^by cbv
 |.tup ds,h=>by
  let#[h1,h2,h3,h4,h5,h6]:=Ld hB (ds:=ds) h;refine#[h1,h2,h3,?_,h5,h6];show kj^Bp ds+1=IG ds+1;rw[h4]
 |.lst ds,h=>by
  let#[h1,h2,h3,h4,h5,h6]:=Ld hB (ds:=ds) h;refine#[h1,h2,h3,?_,h5,h6];show kj^Bp ds+1=IG ds+1;rw[h4]
 |.dic ks ds,h=>(show False from h).elim
 |.fdi ks ds,h=>(show False from h).elim
 |.dit ks ds,h=>(show False from h).elim
theorem Ld{B:Nat}(hB:B<10 ^ 45):∀{ds:v_ D},He B ds->D_ ds=t_/\PyData.showableAll^Bp ds=t_/\lZ^Bp ds=t_/\kj^Bp ds=IG ds/\p_ 60^Bp ds=t_/\PyData.weightAll^Bp ds<=Ct ds
 |[],_=>#[rfl,rfl,rfl,rfl,rfl,Op _]
 | d::ds,h=>by
  let#[h1,h2,h3,h4,h5,h6]:=T3 hB (d:=d) h.1;let#[g1,g2,g3,g4,g5,g6]:=Ld hB (ds:=ds) h.2;refine#[?_,?_,?_,?_,?_,?_]
  .show(HZ d&&D_ ds)=t_
   rw[h1,g1];rfl
  .show((toPy d).showable&&PyData.showableAll^Bp ds)=t_
   rw[h2,g2];rfl
  .show((toPy d).canLay0&&lZ^Bp ds)=t_
   rw[h3,g3];rfl
  .show max (toPy d).depth^kj^Bp ds=max (Gz d)^IG ds
   rw[h4,g4]
  .show((toPy d).leavesShort 60&&p_ 60^Bp ds)=t_
   rw[h5,g5];rfl
  .show(toPy d).weight+1+PyData.weightAll^Bp ds<=DC d+1+Ct ds
   omega
end
def Cb{B:Nat}{d:D}(a:B<10 ^ 45)(h:fine B d)(hd:Gz d<=100):Cd d:=by
 let#[b,f,c,e,g,i]:=T3 a h;exact#[b,c,by rw[e];exact hd]
def Vd(b:v_ D)(a:Int)(h:0<=a):Ct^Dp.cutD b s_^P3 a+Ct^Dp.cutD b (P3 a)^P3 (a+1)<=Ct b:=by
 obtain⟨k,rfl⟩:∃k:Nat,a=k:=#[a.toNat,by lk]
 have c:Dp.cutD b s_^P3 k=b.take^min k b.length:=by
  unfold Dp.cutD;rw[HT.sIx_none,HT.sIx_nat,p8,Nat.sub_zero]
 have d:Dp.cutD b (P3 (k:Int))^P3 ((k:Int)+1)=(b.drop^min k b.length).take (min (k+1) b.length - min k b.length):=by
  unfold Dp.cutD;rw[show((k:Int)+1)=(k+1:Nat) by lk,HT.sIx_nat,HT.sIx_nat]
 rw[c,d];have e:=B8 (b.take^min k b.length)^b.drop^min k b.length;rw[lQ]at e;have f:=Pl (b.drop^min k b.length) (min (k+1) b.length - min k b.length);lk
def SX(b:v_ D)(a:Nat):Dp.cutD b s_^P3 (a:Int)=b.take^min a b.length:=by
 unfold Dp.cutD;rw[HT.sIx_none,HT.sIx_nat,p8,Nat.sub_zero]
def Qd(b:v_ D)(a:Nat):Dp.cutD b (P3 (a:Int)) s_=b.drop^min a b.length:=by
 unfold Dp.cutD;rw[HT.sIx_none];exact px^by simp_all
def bO{b:v_ D}{a:Nat}(h:a<b.length)(e:D):Ct (Dp.cutD b s_^P3 (a:Int)++[e]++Dp.cutD b (P3 ((a:Int)+1)) s_)+DC b[a]=Ct b+DC e:=by
 have c:Dp.cutD b (P3 (a+1)) s_=b.drop (a+1):=by
  rw[show((a:Int)+1)=(a+1:Nat) by lk,Qd,lX^by lk]
 rw[SX b a,c,lX^by lk,B8,B8];have d:=B8 (b.take a)^b.drop a;rw[lQ,kJ h]at d;have f:Ct (b[a]::b.drop (a+1))=DC _+1+Ct _:=rfl;have g:Ct [e]=DC e+1+0:=rfl;lk
def item(d:D):Prop:=fine 1000001 d/\DC d<=450/\Gz d<=1
theorem IP{k:Nat}:∀{a:v_ D},(∀d∈a,DC d+1<=k)->Ct a<=k*a.length
 |[],_=>eq _
 |d::a,h=>by
  have c:=IP λe b=>h e^Sc _ b;show DC d+1+Ct a<=k*(a.length+1)
  grind
def Dh{B:Nat}{a:v_ D}(h:∀d∈a,fine B d):fine B^.tup a:=fines_iff.mpr h
def item_str{x:Str}(b:x.length<=8)(a:∀c∈cs x,c<1114112):item^.str x:=#[a,by show x.length<=450;lk,eq _]
def C1{x:Str}(h:SI x):item^.str x:=item_str h.2.1 λc a=>by have:=h.2.2 c a;lk
def QO{a b:Str}{l:Int}(e:item^.str a)(f:item^.str b)(h:a.length<=8)(i:b.length<=8)(g:l.natAbs<=1000001):item^.tup [.str a,.str b,.int l]:=by
 exists Dh λd c=>?_,?_
 .simp at c
  rcases c with rfl|rfl|rfl
  .exact e.1
  .exact f.1
  .exact g
 .show a.length+1+(b.length+1+(200+1+0))<=450
  omega
 .show max 0^max 0^max 0 0+1<=1
  decide
def LW{N:Net}(ok:N.Ok):∀d∈N.ts.map Aj,item d:=λd c=>by
 let#[t,e,rfl]:=TM.mp c;let#[f,g,_,h,i]:=ok.tin t e;have a:=ok.names _ f;have b:=ok.names _ g;exact QO (C1 a) (C1 b) a.2.1 b.2.1^by lk
def ZS{N:Net}(ok:N.Ok):∀d∈N.ps.map D.str,item d:=λd a=>by
 let#[x,b,rfl]:=TM.mp a;exact C1^ok.names x b
def ao{b c:v_ D}(hx:∀d∈b,item d)(e:∀d∈c,item d)(f:b.length<=26)(g:c.length<=80):fine 1000001^.tup [.tup b,.tup c]/\DC^.tup [.tup b,.tup c]<=48000/\Gz^.tup [.tup b,.tup c]<=3:=by
 have h:=IP λd a=>pV (hx d a).2.1;have i:=IP λd a=>pV (e d a).2.1;have j:=dps_le.mpr λd a=>(hx d a).2.2;have k:=dps_le.mpr λd a=>(e d a).2.2;exists Dh λd a=>?_,?_
 .simp at a
  rcases a with rfl|rfl
  .exact Dh λd a=>(hx d a).1
  .exact Dh λd a=>(e d a).1
 .show Ct b+1+(Ct c+1+0)<=48000
  omega
 .show max (IG b+1)^max (IG c+1) 0+1<=3
  omega
def Qs{p:D->Prop}{xs:v_ D}(h:∀d∈xs,p d){o:Int}(b:0<=o)(c:o<(xs.length:Int)):∃z,atI xs o=P3 z/\p z:=by
 obtain⟨k,rfl⟩:∃k:Nat,o=k:=#[o.toNat,by lk];have a:k<xs.length:=by lk
 exact#[_,AJ^On a,h _^jm a]
def F6(x:Str):¬cs x<cs x:=mP _
def z1:1<=sizeLine:=by cbv
def z2:2<=sizeLine:=by cbv
def z3:3<=sizeLine:=by cbv
def z4:4<=sizeLine:=by cbv
def z0:0<=sizeLine:=eq _
def iy:L9 10 6:=#[by cbv,by cbv,by cbv]
def dg(s t:BP):Decidable (s=t):=
 if h:s.a=t.a/\s.b=t.b/\s.len=t.len then .isTrue (by let#[a,b,l]:=s;let#[g,i,j]:=t;let#[c,d,f]:=h;simp only at c d f;subst c d f;rfl)else .isFalse λe=>h^by rw[e];exact#[rfl,rfl,rfl]
instance:DecidableEq BP:=dg
abbrev EF(a:D->Nat->Prop):E2:={nx:=λn _=>Kd.fr=.sh/\a .non n,rt:=a}
def Pw(t:BP):v_ Key:=[.inl t.len,.inr t.a,.inr t.b]
def Om(a:v_ BP):Prop:=a.Pairwise λs t=>Bw (Pw t)^Pw s=u_
def P4:D->D
 |.tup [x,y,z]=>.tup [z,x,y]
 |d=>d
def gy(x:Str×Int):D:=.tup [.str x.1,.int x.2]
abbrev YO:W2:=λa n P=>∃x y z:D,a=[.sh^.tup [x,y,z]]/\P (.tup [z,x,y]) n
def Er:W2:=λc n P=>∃(d:D) (b:v_ BP),c=[.sh d]/\Eg d=P3^b.map Aj/\b.length<64/\∀a:v_ BP,a.Perm b->Om a->P (.lst^a.map Aj) n
def Vf:Ac:=(Aq^BK^AF (AX Az (AC 0)^wC^D.int 2)^AF (AX Az (AC 0)^wC^D.int 0)^AF (AX Az (AC 0)^wC^D.int 1) AV)
def Ls:Ac:=(Aq^V5 YO^AC 0)
theorem Tc{g:Type}{R:g->g->Prop}(c:∀a b,R a b->R b a->a=b):∀{d f:v_ g},d.Perm f->d.Pairwise R->f.Pairwise R->d=f
 |[],f,p,_,_=>(List.nil_perm.mp p).symm
 |a::d,[],p,_,_=>absurd (List.perm_nil.mp p)^lI _ _
 | a::d,b::f,p,i,j=>by
  have e:a=b:=by
   rcases UF.mp^p.mem_iff.mp Rs with e|h
   .exact e
   .rcases UF.mp^p.mem_iff.mpr^Rs with e|k
    .exact e.symm
    .exact c a b ((kM.mp i).1 b k)^(kM.mp j).1 a h
  subst e;rw[Tc c ((List.perm_cons a).mp p) (kM.mp i).2 (kM.mp j).2]
def Pa{b:Type}{f:b->D}{g:D->b}(e:∀x,g^f x=x){c:v_ D}{d:v_ b}(h:c.Perm^d.map f):∃a:v_ b,a.Perm d/\c=a.map f:=by
 exists c.map g,?_
 .have:=h.map g
  rw[kh,show g∘f=id from funext e,nL]at this;exact this
 .rw[kh]
  have:∀x∈c,(f∘g) x=x:=λx i=>by
   let#[t,_,rfl]:=TM.mp^h.mem_iff.mp i
   grind
  rw[List.map_congr_left this,List.map_id']
def cS:D->BP
 |.tup [.str a,.str b,.int l]=>#[a,b,l]
 |_=>#["","",0]
section
variable {ss:v_ Slot}{n:Nat}{Pd:D->Nat->Prop}
def Rh(h:YO ss n Pd):Vf (EE Pd) n (ss++T0 0 .no):=by
 let#[x,y,z,rfl,p]:=h;exact#[_,AJ rfl,_,AJ rfl,_,AJ rfl,z3,p]
def XD{a:v_ BP}(h:ID (λx=>Cz^P4 x)^a.map Aj):Om a:=by
 unfold ID at h;rw[m6]at h;exact h.imp λ{s t} z=>z _ _ rfl rfl
def Py(h:Er ss n Pd):Ls (EF Pd) n (ss++T0 0 .no):=by
 let#[d,e,rfl,f,b,p]:=h;unfold Ls;refine#[e.map Aj,P4,f,by rw[No];exact b,λx a Q i=>?_,#[λx a=>?_,λx a y j k l m o=>?_],λq r s=>?_]
 .let#[t,_,rfl]:=TM.mp a
  exact#[_,_,_,rfl,i]
 .let#[t,_,rfl]:=TM.mp a
  exact#[Pw t,rfl,lI _ _]
 .let#[t,_,rfl]:=TM.mp a
  let#[u,_,rfl]:=TM.mp j;cases(show P3^Pw t=P3 k from m);cases(show P3^Pw u=P3 l from o);rfl
 .let#[c,v,rfl]:=Pa (g:=cS) (λ_=>rfl) r
  exact p c v^XD s
def OR{N:Net}(ok:N.Ok){x:Str}{p:Str×Int}(h:p∈EA N.ts x):p.1∈N.ps/\1<=p.2/\p.2<=1000000/\∃t∈N.ts,t.len=p.2/\((t.a=x/\t.b=p.1)\/(t.b=x/\t.a=p.1)):=by
 let#[t,c,h]:=lN.mp h;let#[g,i,j,d,f]:=ok.tin t c
 rcases jK.mp h with h|h
 .split at h
  .rename_i e
   rw[Tk.mp h];exact#[i,d,f,t,c,rfl,.inl #[e,rfl]]
  .cases h
 .split at h
  .rename_i e
   rw[Tk.mp h];exact#[g,d,f,t,c,rfl,.inr #[e,rfl]]
  .cases h
def OX(s t:BP):DQ (Aj s)^Aj t=t_↔s=t:=by
 let#[a,b,l]:=s;let#[c,d,e]:=t;show(a==c&&(b==d&&(l==e&&t_)))=t_↔_
 simp_all
def Ib{a:v_ D}(h:∀d∈a,item d):Cd^.lst a:=by
 have c:=dps_le.mpr λd b=>(h d b).2.2;exact Cb (by cbv) (fines_iff.mpr λd b=>(h d b).1)^by show IG a+1<=100;lk
theorem F3{a b:Type}(f:a->b):∀(l:v_ a) (i:Nat),(l.map f).eraseIdx i=(l.eraseIdx i).map f
 |[],i=>rfl
 |x::l,0=>rfl
 |x::l,i+1=>by
  show f x::(l.map f).eraseIdx i=f x::(l.eraseIdx i).map f;rw[F3 f l i]
def Zg{N:Net}(ok:N.Ok){x o:Str}{s t:BP}(j:s∈N.ts)(k:t∈N.ts)(e:By s t)(l:(s.a=x/\s.b=o)\/(s.b=x/\s.a=o))(m:(t.a=x/\t.b=o)\/(t.b=x/\t.a=o)):False:=by
 have i:=(ok.tin s j).2.2.1;have lt:=(ok.tin t k).2.2.1;have c:∀a,¬cs a<cs a:=λa=>mP _
 rcases l with⟨d,f⟩|⟨d,f⟩ <;>rcases m with⟨g,h⟩|⟨g,h⟩ <;>rw[d,f]at i <;>rw[g,h]at lt
 .rcases e with e|⟨_,e⟩
  .rw[d,g]at e;exact c _ e
  grind
 .grind
 .exact c _^List.lt_trans i lt
 .rcases e with e|⟨_,e⟩
  .rw[f,h]at e;exact c _ e
  grind
def U_{N:Net}(ok:N.Ok)(x:Str):((EA N.ts x).map (·.1)).Nodup:=by
 have m:∀c:v_ BP,(∀t∈c,t∈N.ts)->c.Pairwise By->((EA c x).map (·.1)).Nodup:=by
  intro c
  induction c with
  |nil=>intro _ _;exact kR
  | cons t c o=>
   intro d l;have k:=o (λs i=>d s^Sc _ i) (kM.mp l).2;have lt:=(ok.tin t^d t Rs).2.2.1
   have f:∀y,((t.a=x/\t.b=y)\/(t.b=x/\t.a=y))->y∉(EA c x).map (·.1):=λy p q=>by
    let#[s,i,h]:=OQ q;exact Zg ok (d t Rs) (d s^Sc _ i) ((kM.mp l).1 s i) p h
   have e:EA (t::c) x=((if t.a=x then [(t.b,t.len)]else [])++(if t.b=x then [(t.a,t.len)]else []))++EA c x:=by
    unfold EA;rw[List.flatMap_cons]
   rw[e]
   by_cases j:t.a=x
   .have g:¬t.b=x:=λz=>by rw[j,z]at lt;exact mP _ lt
    rw[if_pos j,if_neg g,jZ,oM,ju,ja];exact#[f _^.inl #[j,rfl],k]
   .rw[if_neg j,jQ]
    by_cases g:t.b=x
    .rw[if_pos g,oM,ju,ja]
     exact#[f _^.inr #[g,rfl],k]
    .rw[if_neg g,jQ]
     exact k
 exact m N.ts (λ_ h=>h) ok.trise
end
def E6(t:BP):v_ Key:=[.inr t.a,.inr t.b,.inl t.len]
def fZ(t:BP):v_ Key:=[.inr t.a,.inr t.b]
def Hm(a:v_ BP):Prop:=a.Pairwise λs t=>Bw (E6 t)^E6 s=u_
def S0(N:Net)(d:D):Prop:=∃a:v_ BP,d=.tup [.tup^N.ps.map .str,.tup^a.map Aj]/\(∀t∈a,t∈N.ts)/\a.Pairwise By
noncomputable def thinB(N:Net)(d:D):Bool:=@decide (S0 N d)^mY _
def thinB_iff{N:Net}{d:D}:thinB N d=t_↔S0 N d:=by
 unfold thinB
 grind
def Xv{N:Net}{d:D}{b:Bool}(h:b=t_↔S0 N d):b=thinB N d:=by
 rw[kT,thinB_iff];exact h
def df(N:Net)(d:D):Prop:=∃s∈N.ts,d=Aj s
noncomputable def KZ(N:Net)(d:D):Bool:=@decide (df N d)^mY _
def tofB_iff{N:Net}{d:D}:KZ N d=t_↔df N d:=by
 unfold KZ
 grind
def aN{a:Str}{x:D}(h:DQ (.str a) x=t_):x=.str a:=by
 cases x with
 |str b=>
  have h:(a==b)=t_:=h
  grind
 |_=>cases h
def fY{a:Str}{x:D}(h:DQ x^.str a=t_):x=.str a:=by
 cases x with
 |str b=>
  have h:(b==a)=t_:=h
  grind
 |_=>cases h
theorem JZ:∀{a:v_ D}{b:v_ Str},pB (Bp a)^Bp^b.map .str=t_->a=b.map .str
 |[],[],_=>rfl
 |[],_::_,h=>by cases h
 |_::_,[],h=>by cases h
 |x::a,p::b,h=>by
  have h:(kE _ _&&pB _ _)=t_:=h;rw[jN]at h;rw[fY h.1,JZ h.2];rfl
theorem eqvAll_refl:∀a:v_ Str,pB (Bp^a.map .str)^Bp^a.map .str=t_
 |[]=>rfl
 |p::a=>by
  show((p==p)&&pB _ _)=t_;rw[beq_self_eq_true,eqvAll_refl a];rfl
def eqD_strs{p:D}{a:v_ Str}:DQ p^.tup^a.map .str=t_↔p=.tup^a.map .str:=by
 constructor
 .intro h
  cases p with
  |tup b=>rw[JZ h]
  |_=>cases h
 .rintro rfl
  exact eqvAll_refl a
def VX{s:BP}{d:D}(h:DQ (Aj s) d=t_):∃z,d=.tup [.str s.a,.str s.b,z]/\∀i,z=.int i->i=s.len:=by
 cases d with
 | tup c=>
  match c,h with
  |[x,y,z],h=>
   have h:(kE (toPy^.str s.a)^toPy x&&(kE (toPy^.str s.b)^toPy y&&(kE (.int s.len)^toPy z&&t_)))=t_:=h;rw[Bool.and_true,jN,jN]at h;refine#[z,by rw[aN (a:=s.a) (x:=x) h.1,aN (a:=s.b) (x:=y) h.2.1],λi e=>?_];subst e;have f:(s.len==i)=t_:=h.2.2
   grind
  |[],h=>cases h
  |[x],h=>exact absurd h^by show ¬((kE (toPy^.str s.a)^toPy x&&u_)=t_);simp
  |[x,y],h=>exact absurd h^by show ¬((kE (toPy^.str s.a)^toPy x&&(kE (toPy^.str s.b)^toPy y&&u_))=t_);simp
  |x::y::z::u::r,h=>exact absurd h^by show ¬((kE (toPy^.str s.a)^toPy x&&(kE (toPy^.str s.b)^toPy y&&(kE (.int s.len)^toPy z&&u_)))=t_);simp
 |_=>cases h
theorem Ov{f:BP->D}{k:BP->v_ Key}(d:∀s t,YY (f s)^f t=P3^Bw (k s)^k t):∀{ts:v_ BP},Zu^ts.map f=t_↔ts.Pairwise λs t=>Bw (k s)^k t=t_
 |[]=>#[λ_=>.nil,λ_=>rfl]
 |[t]=>#[λ_=>pf _ _,λ_=>rfl]
 | s::t::r=>by
  show((YY _ _==P3 _)&&Zu^(t::r).map f)=t_↔_;rw[jN,Ov d (ts:=t::r),d,kM (a:=s)];constructor
  .rintro⟨b,e⟩
   have b:=jH^eq_of_beq b;refine#[λu c=>?_,e]
   rcases UF.mp c with rfl|c
   .exact b
   .exact Cy _ _ _ b^(kM.mp e).1 u c
  simp_all
def SD(s t:BP):YY (Aj s)^Aj t=P3^Bw (E6 s)^E6 t:=by
 show(if(t_&&(t_&&(t_&&t_)))=t_ then P3^Gs (E6 s)^E6 t else s_)=_;rw[if_pos (show(t_&&(t_&&(t_&&t_)))=t_ from rfl),J5 _ _ rfl]
def ekey_iff{s t:BP}:Bw (fZ s)^fZ t=t_↔By s t:=by
 show(if kg _=.inr _ then(if kg _=.inr _ then u_ else decide (cs _<cs _))else decide (cs _<cs _))=t_↔(cs _<cs _\/(s.a=t.a/\cs _<cs _))
 by_cases c:s.a=t.a
 .rw[if_pos^by rw[c]]
  by_cases d:s.b=t.b
  .simp_all
  .rw[if_neg λe=>d^lu e,decide_eq_true_eq,c]
   constructor
   .intro h;simp_all
   grind
 simp_all
def MY(s:BP):¬By s s:=by
 rintro(h|⟨_,h⟩) <;>exact F6 _ h
def Nu{s t:BP}(h:By s t):Bw (E6 s)^E6 t=t_:=by
 show(if kg _=.inr _ then(if kg _=.inr _ then(if nZ _=.inl _ then u_ else decide _)else decide (cs _<cs _))else decide (cs _<cs _))=t_
 rcases h with h|⟨h,c⟩
 .rw[if_neg λe=>F6 s.a^by simp_all,decide_eq_true h]
 .rw[if_pos (by rw[h]),if_neg λe=>F6 s.b^by grind,decide_eq_true c]
theorem M7:∀{e:v_ BP},e.Pairwise By->∀s∈e,∀t∈e,s.a=t.a->s.b=t.b->s=t
 |[],_,s,c,_,_,_,_=>by cases c
 | x::e,h,s,c,t,d,g,i=>by
  have h:=kM.mp h
  rcases UF.mp c with j|c
  .rcases UF.mp d with f|d
   .rw[j,f]
   .rcases h.1 t d with h|⟨_,h⟩
    .grind
    grind
  .rcases UF.mp d with f|d
   .rcases h.1 s c with h|⟨_,h⟩
    .rw[←f,g]at h;exact absurd h^F6 _
    grind
   .exact M7 h.2 s c t d g i
def Zf{N:Net}(ok:N.Ok){s t:BP}(f:s∈N.ts)(g:t∈N.ts)(h:Bw (E6 s)^E6 t=t_):By s t:=by
 have h:(if kg _=.inr _ then(if kg _=.inr _ then(if nZ _=.inl _ then u_ else decide _)else decide _)else decide _)=t_:=h
 by_cases c:s.a=t.a
 .rw[if_pos^by rw[c]]at h
  by_cases d:s.b=t.b
  .rw[if_pos (by rw[d]),if_pos^by rw[M7 ok.trise s f t g c d]]at h
   cases h
  .rw[if_neg λe=>d^lu e,decide_eq_true_eq]at h
   exact .inr #[c,h]
 .rw[if_neg λe=>c^lu e,decide_eq_true_eq]at h
  exact .inl h
def CD{a:v_ BP}(h:a.Pairwise By):a.Nodup:=h.imp λ{s t} h e=>by rw[e]at h;exact MY _ h
def sub_len{l m:v_ BP}(a:l.Nodup)(b:m.Nodup)(h:∀t∈l,t∈m):l.length<=m.length:=by
 have:l.Perm (m.filter λt=>decide (t∈l)):=(pC a^b.filter _).mpr λt=>by
  simp_all
 rw[this.length_eq];exact mE _ _
def WR{N:Net}(ok:N.Ok){a:v_ BP}(h:∀t∈a,t∈N.ts)(b:a.Pairwise By):Net.Ok #[N.ps,a]:=#[ok.names,ok.rise,λt c=>ok.tin t^h t c,b]
theorem Mw{P:BP->Prop}:∀{b:v_ D},(∀d∈b,∃s,P s/\d=Aj s)->∃a:v_ BP,b=a.map Aj/\∀t∈a,P t
 |[],_=>#[[],rfl,λt h=>by cases h]
 |d::b,h=>by
  let#[s,f,rfl]:=h d Rs;let#[a,rfl,g]:=Mw λe c=>h e^Sc _ c;refine#[s::a,rfl,λt z=>?_]
  grind
def Ph{N:Net}{a:v_ D}(h:a.all^KZ N=t_):∃b:v_ BP,a=b.map Aj/\∀t∈b,t∈N.ts:=
 Mw λd c=>by
  let#[s,f,e]:=tofB_iff.mp^kr.mp h d c;exact#[s,f,e]
def UZ{N:Net}(ok:N.Ok)(p:D)(b:v_ D):(DQ p^.tup^N.ps.map .str&&(b.all^KZ N&&Zu b))=thinB N^.tup [p,.tup b]:=by
 refine Xv #[λh=>?_,λh=>?_]
 .rw[jN,jN]at h
  let#[f,rfl,a]:=Ph h.2.1;exists f,by rw[eqD_strs.mp h.1],a
  have:=(Ov SD).mp h.2.2
  exact this.imp_of_mem λ{s t} g c z=>Zf ok (a s g) (a t c) z
 .let#[f,e,a,i]:=h
  cases e;rw[jN,jN];refine#[eqD_strs.mpr rfl,kr.mpr λd j=>?_,(Ov SD).mpr^i.imp λ{s t} z=>Nu z];let#[t,c,rfl]:=TM.mp j;exact tofB_iff.mpr #[t,a t c,rfl]
def Pg{N:Net}{d:D}(h:∀p a,d≠.tup [p,.tup a]):thinB N d=u_:=by
 rw[ji];intro z;let#[b,e,_]:=thinB_iff.mp z;exact h _ _ e
end Nt
namespace L2
open PySem.W
end L2
namespace Dp
open L2
end Dp
namespace Nt
open L2 Dp
def look(a:v_ BP)(x y:Str):w_ Int:=((EA a x).find? λz=>decide (z.1=y)).map (·.2)
def IZ(a:v_ BP):Str->v_ Str->Int->w_ Int
 |_,[],s=>P3 s
 |x,y::r,s=>match look a x y with
  |some l=>IZ a y r (s+l)
  |none=>s_
def WZ:w_ Int->D
 |some i=>.int i
 |none=>.non
def Dg:D->Bool
 |.str _=>t_
 |_=>u_
def XX(N:Net):v_ Str->D
 |x::r=>if x∈N.ps then WZ^IZ N.ts x r 0 else .non
 |[]=>.non
def SG(N:Net):D->D
 |.tup a=>if a.all Dg then XX N^strsOf a else .non
 |_=>.non
def Dv(d:D):Prop:=fine (10 ^ 40) d/\DC d<=160000/\Gz d<=50
abbrev cv:W2:=λa n P=>∃(N:Net) (d:D),a=[.sh^enc N,.sh d]/\N.Ok/\N.ps.length<=26/\N.ts.length<=60/\Dv d/\P (SG N d) n
def Qp:Ac:=(Ae (BC (EI (B0^AZ^KU "tuple"^AC 1)^AZ^AX (J7 u_) (CI EB^AF (AC 1) AV)^wC^D.int 0) (Aq^wC D.non) Av)
 (Ae (BC (B0^AZ^CI MX^AF (Bi [s_] (A0^AC 1) (AT 0) DU^KU "str"^AC 0) AV) (Aq^wC D.non) Av)
 (Ae (A3 2^AR PD^AB (AE^AC 0) AQ)
 (Ae (BC (AZ^AX (GC t_) (AX Az (AC 1)^wC^D.int 0)^AC 2) (Aq^wC D.non) Av)
 (Ae (A3 3^wC^D.int 0)
 (Ae (Cs (Ye^AF (AC 1)^AF (IF Co (AC 1) (Bk^wC^D.int 1) BG) AV) (Bz 2^Aa (AT 4)^Aa (AT 5) BM) (Ae (BC (AZ^AX (GC t_) (AC 5)^AX Bx (AC 2)^AC 4) (Aq^wC D.non) Av)
 (WA 3^AX Bx (AX Bx (AC 2)^AC 4)^AC 5)))
 (Aq^AC 3)))))))
theorem Kc:∀{b:v_ D},b.all Dg=t_->∃a:v_ Str,b=a.map .str
 |[],_=>#[[],rfl]
 |d::r,h=>by
  rw[qH,jN]at h;let#[a,e]:=Kc h.2;cases d with
  |str x=>exact#[x::a,by grind]
  |_=>cases h.1
def all_strs(a:v_ Str):(a.map D.str).all Dg=t_:=by rw[List.all_map];exact kr.mpr λ_ _=>rfl
theorem Np{g:Str->D}{x:Str}:∀{a:v_ Str},BY (a.map .inr) (a.map g)^.inr x=if x∈a then P3^g x else s_
 |[]=>rfl
 |p::a=>by
  show(if kg p=.inr x then P3 _ else BY _ _ _)=_;rw[Np]
  grind
theorem Nq{y:Str}:∀{a:v_ (Str×Int)},BY (a.map λx=>.inr x.1) (a.map λx=>.int x.2)^.inr y=((a.find? λz=>decide (z.1=y)).map (·.2)).map .int
 |[]=>rfl
 |p::b=>by
  show(if kg _=.inr y then P3 _ else BY _ _ _)=_;rw[Nq]
  by_cases e:p.1=y
  .simp_all
  simp_all
def XW{N:Net}(ok:N.Ok){x y:Str}{l:Int}(h:look N.ts x y=P3 l):y∈N.ps/\1<=l/\l<=1000000:=by
 unfold look at h;cases c:(EA N.ts x).find? λz=>decide (z.1=y)with
 |none=>grind
 |some z=>
  have d:=oW c;let#[t,b,a]:=lN.mp^mM c;let#[e,f,_,g,i]:=ok.tin t b
  rcases jK.mp a with a|a
  .simp_all
  simp_all
section
variable {ss:v_ Slot}{n:Nat}{Pd:D->Nat->Prop}
theorem QJ{N:Net}(ok:N.Ok){d:E2}{e f:Slot}:∀(r:v_ Str) (x:Str) (s:Int) (a b:Slot),x∈N.ps->(match IZ N.ts x r s with|some l=>∀a b,d.nx n [e,f,.sh^FA N,.sh^.int l,a,b]|none=>d.rt .non n)->
  A7 (Bz 2^Aa (AT 4)^Aa (AT 5) BM) (Ae (BC (AZ^AX (GC t_) (AC 5)^AX Bx (AC 2)^AC 4) (Aq^wC D.non) Av)^WA 3^AX Bx (AX Bx (AC 2)^AC 4)^AC 5) d (EH ((x::r).map .str)^r.map .str) n [e,f,.sh^FA N,.sh^.int s,a,b]
 |[],x,s,a,b,g,h=>h a b
 | y::r,x,s,a,b,g,h=>by
  have i:BY (N.ps.map .inr) (N.ps.map^YX N.ts)^.inr x=P3^YX N.ts x:=by rw[Np,if_pos g]
  exists rfl,rfl;exists _,_,.inr x,_,rfl,rfl,i,_,_,.inr y,rfl,rfl;rw[Nq];unfold IZ at h;have j:((EA N.ts x).find? λz=>decide (z.1=y)).map (·.2)=look N.ts x y:=rfl;rw[j];cases c:look N.ts x y with
  |none=>rw[c]at h;exact Bv h
  |some l=>
   rw[c]at h;have k:BY ((EA N.ts x).map λz=>.inr z.1) ((EA N.ts x).map λz=>.int z.2)^.inr y=P3^.int l:=by rw[Nq,j,c];rfl
   refine Bl #[s,rfl,_,_,.inr x,_,rfl,rfl,i,_,_,.inr y,_,rfl,rfl,k,l,rfl,?_];exact QJ ok r y (s+l) _ _ (XW ok c).1 h
def N7(t:cv ss n Pd):Qp (EE Pd) n (ss++T0 4 .no):=by
 let#[N,d,rfl,ok,v,lt,fd,p]:=t;cases d with
 | tup b=>
  have w:=Dx b;have x:Ct b<=160000:=fd.2.1;have f:Pd (if b.all Dg then XX N^strsOf b else .non) n:=p;exists _,_,rfl,rfl;show if((b.length:Int)==0)=t_ then _ else _
  cases b with
  |nil=>exact Bv f
  | cons g h=>
   rw[show(((g::h).length:Int)==0)=u_ from beq_eq_false_iff_ne.mpr^by rw[jC];lk];refine Bl #[by lk,?_];refine Ba (λd=>.bl^Dg d) (λq=>∃s,q=[s]) _ _ _ _ ?_ #[_,rfl] ?_
   .rintro d z q m A ⟨s,rfl⟩ i
    have:=i [.sh d] #[_,rfl]
    cases d <;>exact this
   rw[jQ];exists _,_,rfl,Hy Dg (g::h);rw[YH];show if(!(g::h).all Dg)=t_ then _ else _
   cases k:(g::h).all Dg with
   |false=>rw[k]at f;exact Bv f
   | true=>
    rw[k]at f;let#[u,e]:=Kc k;rw[e,Ec]at f;cases u with
    |nil=>cases e
    | cons y r=>
     rw[ju]at e;cases e;refine Bl #[N,rfl,ok,by lk,by lk,?_];exists .str y,AJ (j:=0) rfl,_,_,.inr y,rfl,rfl;show if(!(BY (N.ps.map .inr) (N.ps.map^YX N.ts)^.inr y).isSome)=t_ then _ else _
     rw[Np];have a:Pd (if y∈N.ps then WZ^IZ N.ts y r 0 else .non) n:=f
     by_cases o:y∈N.ps
     .rw[if_pos o]at a ⊢
      refine Bl #[_,_,(y::r).map .str,r.map .str,rfl,rfl,by show P3^Dp.cutD (D.str y::r.map .str) (P3 1) s_=_;rw[cX];rfl,?_];refine QJ ok r y 0 _ _ o ?_;cases c:IZ N.ts y r 0 with
      |none=>rw[c]at a;exact a
      |some l=>rw[c]at a;exact λ_ _=>a
     .rw[if_neg o]at a ⊢
      exact Bv a
 |_=>exact p
theorem CM{b:BW}{p:IE}{q:DW}{P:v_ D->Nat->Prop}(c:D->Bool)(g:D->D)(I:v_ Slot->Prop):∀(j e:v_ D) (n:Nat) (f:v_ Slot),
  (∀d∈j,∀(f:v_ Slot) (n:Nat) (r:D->Nat->v_ Slot->Prop) (s:Nat->v_ Slot->Prop),I f->(∀i,I i->c d=t_->r (g d) n i)->(∀i,I i->c d=u_->s n i)->b d f λk=>p n k λc t=>if c=t_ then q t k λy u=>r y u k else s t k)->I f->P (e++(j.filter c).map g) n->D6 b p q P j e n f
 |[],e,n,f,_,_,h=>by rw[List.filter_nil,qP,jZ]at h;exact h
 |d::j,e,n,f,l,m,h=>l d Rs f n _ _ m
  (λi a v=>CM c g I j _ n _ (λd o=>l d^Sc _ o) a^by simp_all)
  (λi a v=>CM c g I j _ n _ (λd o=>l d^Sc _ o) a^by grind)
end
def cr:W2:=λa n P=>∃(N:Net) (d:D),a=[.sh^enc N,.sh d]/\N.Ok/\Cd d/\P (.bl^KZ N d) n
def YM:W2:=λa n P=>∃(N:Net) (d:D),a=[.sh^enc N,.sh d]/\N.Ok/\N.ps.length<=24/\N.ts.length<=60/\fine (10 ^ 41) d/\DC d<=200000/\Gz d<=90/\P (.bl^thinB N d) n
def Jh:Ac:=(Aq^F_ (AX (MW u_) (AC 1)^AX Az (AC 0)^wC^D.int 1)^AR L3^AB (AE^AX Az (AC 1)^wC^D.int 2) AQ)
def Nf:Ac:=(Ae (BC (EI (B0^AZ^AR CF^AB (AE^wC^D.int 2)^AB (AE^AC 1) AQ)^B0^AZ^KU "tuple"^AX Az (AC 1)^wC^D.int 1) (Aq^wC^D.bl u_) Av)
 (Aq^F_ (AX SQ (AX Az (AC 1)^wC^D.int 0)^AX Az (AC 0)^wC^D.int 0)^F_ (CI MX^AF (Bi [P3 0,s_] (A0^AX Az (AC 1)^wC^D.int 1) (AT 1) DU^AR cr^AB (AE^AC 0)^AB (AE^AC 1) AQ) AV)^AR KD^AB (AE^AX Az (AC 1)^wC^D.int 1) AQ))
def Ti{a:v_ BP}(h:ID Cz^a.map Aj):Hm a:=by
 unfold ID at h;rw[m6]at h;exact h.imp λ{s t} z=>z _ _ rfl rfl
def EQ{N:Net}(ok:N.Ok){ts:v_ BP}(h:∀t∈ts,t∈N.ts):Cd^.tup^ts.map Aj/\Cd^.lst^ts.map Aj:=by
 have b:∀d∈ts.map Aj,item d:=λd a=>by
  let#[t,c,rfl]:=TM.mp a;exact LW ok _^TM.mpr #[t,h t c,rfl]
 have e:IG^ts.map Aj<=1:=dps_le.mpr λd a=>(b d a).2.2;exact#[Cb (B:=1000001) (by cbv) (fines_iff.mpr λd a=>(b d a).1) (by show IG^ts.map Aj+1<=100;lk),Ib b]
def D8{N:Net}(ok:N.Ok){t:BP}(h:t∈N.ts):Cd^Aj t:=by
 have a:=LW ok _^TM.mpr #[t,h,rfl];exact Cb (B:=1000001) (by cbv) a.1^by have:=a.2.2;lk
def Ou{a:v_ BP}{t:BP}:((a.map Aj).any λy=>DQ y^Aj t)=decide (t∈a):=by
 rw[kT,mU,decide_eq_true_eq];constructor
 .rintro⟨d,b,e⟩
  let#[s,c,rfl]:=TM.mp b;rw[←(OX s t).mp e];exact c
 .intro h
  exact#[Aj t,TM.mpr #[t,h,rfl],(OX t t).mpr rfl]
theorem Tq:∀a:v_ D,a.length<=Ct a
 |[]=>eq _
 |x::a=>by
  have:=Tq a
  show a.length+1<=DC x+1+Ct a;lk
theorem QL:∀c:v_ BP,200*c.length<=Ct^c.map Aj
 |[]=>eq _
 |t::c=>by
  have:=QL c
  show 200*(c.length+1)<=t.a.length+1+(t.b.length+1+(200+1+0))+1+Ct^c.map Aj;lk
section
variable {ss:v_ Slot}{n:Nat}{Pd:D->Nat->Prop}
def OA(h:cr ss n Pd):Jh (EE Pd) n (ss++T0 0 .no):=by
 let#[N,d,rfl,ok,g,p]:=h;unfold Jh;exists _,AJ (j:=1) rfl,g,(EQ ok λ_ h=>h).1,_,rfl;cases c:(N.ts.map Aj).any λy=>DQ y d with
 | false=>
  have:KZ N d=u_:=by
   rw[ji];intro z;let#[s,f,rfl]:=tofB_iff.mp z;rw[Ou,decide_eq_true f]at c;cases c
  rw[this]at p;exact p
 | true=>
  let#[e,k,q]:=mU.mp c;let#[s,f,rfl]:=TM.mp k;let#[z,rfl,l]:=VX q;exists _,AJ (j:=2) rfl,[z],rfl,rfl
  have:KZ N^.tup [.str s.a,.str s.b,z]=RJ z:=by
   rw[kT,tofB_iff];constructor
   .rintro⟨t,_,e⟩
    have e:z=.int t.len:=by injection e with e;injection e with _ e;injection e with _ e;injection e
    rw[e];rfl
   .intro m
    cases z with
    |int i=>exact#[s,f,by rw[l i rfl];rfl]
    |_=>cases m
  rw[this]at p;exact p
def Rk(h:YM ss n Pd):Nf (EE Pd) n (ss++T0 0 .no):=by
 let#[N,d,rfl,ok,H,I,o,u,v,p]:=h;unfold Nf;exists 2,d,rfl;cases f:tupleOfB 2 d with
 |false=>
  rw[Pg λp c e=>by rw[e]at f;cases f]at p;exact Bv p
 | true=>
  let#[x,y,rfl]:=gW f;refine Bl #[_,AJ (j:=1) rfl,?_];cases y with
  | tup c=>
   rw[←UZ ok]at p;have w:fine (10 ^ 41) x:=o.1;have z:He (10 ^ 41) c:=o.2.1;have A:max (Gz x)^max (IG c+1) 0+1<=90:=v;have C:DC x+1+(Ct c+1+0)<=200000:=u;refine Bl #[_,AJ (j:=0) rfl,_,AJ (j:=0) rfl,Cb (B:=10 ^ 41) (by cbv) w^by lk,Ic ok.names,?_];refine Sf (b1:=DQ x^.tup^N.ps.map .str) (b2:=c.all^KZ N&&Zu c) (P:=Pd) (n:=n) (k:=λP=>_) (λ_ g=>?_) p;refine#[_,AJ (j:=1) rfl,by show c.length<=10000000;have:=Tq c;lk,?_];refine Ba (λd=>.bl^KZ N d) (λq=>∃s,q=[.sh^enc N,s]) _ _ _ _ ?_ #[_,rfl] ?_
   .rintro e r q m J ⟨s,rfl⟩ i
    have D:IG c<=88:=by lk
    exact#[N,e,rfl,ok,Cb (B:=10 ^ 41) (by cbv) (fines_iff.mp z e r) (by have:=dps_le.mp D e r;lk),i _ #[_,rfl]]
   rw[jQ];exists _,_,rfl,Hy (KZ N) c;rw[YH];refine Sf (b1:=c.all^KZ N) (b2:=Zu c) (P:=Pd) (n:=n) (k:=λP=>_) (λl g=>?_) g;let#[E,rfl,F]:=Ph l
   have:=QL E
   refine#[_,AJ (j:=1) rfl,_,_,rfl,rfl,by rw[No];lk,λa l b G=>?_,g];let#[s,_,rfl]:=TM.mp l;let#[t,_,rfl]:=TM.mp G;exact#[_,SD s t]
  |_=>
   rw[Pg λp c e=>by cases e]at p;exact Bv p
end
def WJ{s t:BP}(h:E6 s=E6 t):s=t:=by
 let#[a,b,l]:=s;let#[c,d,e]:=t;unfold E6 at h;simp only[List.cons.injEq,Sum.inl.injEq,Sum.inr.injEq,and_true]at h;let#[rfl,rfl,rfl]:=h;rfl
def Kb{c d:v_ BP}(p:c.Perm d)(e:Hm c)(f:Hm d):c=d:=Tc (λa b x y=>WJ^Dd _ _ y x) p e f
def Lr{a:v_ BP}(h:a.Pairwise By):Hm a:=h.imp λ{s t} z=>by
 cases e:Bw (E6 t)^E6 s with
 |false=>rfl
 |true=>
  have:=Cy _ _ _ (Nu z) e
  rw[C9]at this;cases this
def Cj:W2:=λa n P=>∃l t b x:Int,a=[.sh^.int l,.sh^.tup [.int t,.int b],.sh^.int x]/\1<=b/\b<=1000000/\1<=t/\t<=1000000/\P (.bl (decide (l*b<=x*t))) n
def Qq:Ac:=(Aq^AX QW (AX Le (AC 0)^AX Az (AC 1)^wC^D.int 1)^AX Le (AC 2)^AX Az (AC 1)^wC^D.int 0)
section
variable {ss:v_ Slot}{n:Nat}{Pd:D->Nat->Prop}
def gM{i j:Int}(a:0<=j)(b:j<=1000000):CMul i j:=.inr #[by lk,by lk]
def N_(h:Cj ss n Pd):Qq (EE Pd) n (ss++T0 0 .no):=by
 let#[l,t,b,x,rfl,d,a,e,c,p]:=h;exact#[_,AJ rfl,gM (by lk) a,_,AJ rfl,gM (by lk) c,p]
end
def Ed(N:Net)(x y:Str)(l:Int):Prop:=(y,l)∈EA N.ts x
inductive Wk (N:Net) (s:Str):Str->Int->Prop
 |nil:Wk N s s 0
 |snoc {x y:Str}{d l:Int}:Wk N s x d->Ed N x y l->Wk N s y (d+l)
def Least(N:Net)(s x:Str)(d:Int):Prop:=Wk N s x d/\∀a,Wk N s x a->d<=a
def Ed.pos{N:Net}(ok:N.Ok){x y:Str}{l:Int}(h:Ed N x y l):1<=l/\l<=1000000:=by
 let#[_,a,b,_]:=OR ok h
 simp_all
def Ed.ins{N:Net}(ok:N.Ok){x y:Str}{l:Int}(h:Ed N x y l):y∈N.ps:=(OR ok h).1
def Wk.pos{N:Net}(ok:N.Ok){s x:Str}{d:Int}(h:Wk N s x d):0<=d:=by
 induction h with
 |nil=>lk
 |snoc _ a b=>have:=a.pos ok;lk
def Least.unique{N:Net}{s x:Str}{d a:Int}(h:Least N s x d)(b:Least N s x a):d=a:=by
 have:=h.2 a b.1
 have:=b.2 d h.1
 omega
def Hl{N:Net}{s:Str}{F:Str->w_ Int}(c:∃d,F s=P3 d/\d<=0)(f:∀x d,F x=P3 d->Wk N s x d)(j:∀x d y l,F x=P3 d->Ed N x y l->∃b,F y=P3 b/\b<=d+l):
  (∀x d,F x=P3 d->Least N s x d)/\∀x d,Wk N s x d->F x≠s_:=by
 have a:∀x d,Wk N s x d->∃b,F x=P3 b/\b<=d:=by
  intro x d h
  induction h with
  |nil=>exact c
  |snoc _ k m=>
   grind
 refine#[λx d e=>#[f x d e,λb h=>?_],λx d h e=>?_]
 .let#[g,i,n]:=a x b h
  simp_all
 .let#[g,i,_]:=a x d h
  grind
def T8{N:Net}{t:BP}(c:t∈N.ts):Ed N t.a t.b t.len/\Ed N t.b t.a t.len:=by
 constructor
 .exact lN.mpr #[t,c,lJ _^by simp_all]
 .exact lN.mpr #[t,c,jU _^by simp_all]
def Ed.tie{N:Net}(ok:N.Ok){x y:Str}{l:Int}(h:Ed N x y l):∃t∈N.ts,t.len=l/\((t.a=x/\t.b=y)\/(t.b=x/\t.a=y)):=by
 let#[_,_,_,t,c,e,h]:=OR ok h;exact#[t,c,e,h]
structure Dmap (ks:List Key) (ds:List D) (enc:α->D) (F:Str->Option α):Prop where
 len:ks.length=ds.length
 at_:∀x:Str,BY ks ds^.inr x=(F x).map enc
 dom:∀k∈ks,∃x:Str,k=.inr x
 nd:ks.Nodup
def Dmap.mem{c:Type}{b:v_ Key}{ds:v_ D}{enc:c->D}{F:Str->w_ c}(h:Dmap b ds enc F)(x:Str):(.inr x∈b)↔F x≠s_:=by
 constructor
 .intro a e
  let#[z,d]:=IN h.len a;rw[h.at_,e]at d;cases d
 .intro f
  by_cases a:kg x∈b
  .exact a
  .have:=Mt (ds:=ds) a
   rw[h.at_]at this
   simp_all
def Dmap.one{b:Type}{enc:b->D}{s:Str}{a:b}:Dmap [.inr s] [enc a] enc (λx=>if x=s then P3 a else s_):=by
 refine#[rfl,λx=>?_,λk c=>#[s,Tk.mp c],ja.mpr #[jO,kR]];show(if kg s=.inr x then P3 _ else s_)=(if x=s then P3 a else s_).map _
 by_cases e:x=s
 .simp_all
 .rw[if_neg e,if_neg λz=>e (lu z).symm];rfl
def IR{b:Type}(F:Str->w_ b)(x:Str)(a:b):Str->w_ b:=λy=>if y=x then P3 a else F y
def Bu{b:Type}{F:Str->w_ b}{x:Str}{a:b}:IR F x a x=P3 a:=if_pos rfl
def Bq{b:Type}{F:Str->w_ b}{x y:Str}{a:b}(h:y≠x):IR F x a y=F y:=if_neg h
def Dmap.put{d:Type}{f:v_ Key}{g:v_ D}{enc:d->D}{F:Str->w_ d}(h:Dmap f g enc F)(x:Str)(a:d):Dmap (DN f^.inr x) (DZ f g (.inr x)^enc a) enc^IR F x a:=by
 exists TU h.len,λy=>?_,λk c=>?_
 .rw[WE h.len]
  unfold IR
  by_cases e:y=x
  .rw[if_pos e,if_pos^by rw[e]];rfl
  .rw[if_neg e,if_neg λz=>e^lu z,h.at_]
 .unfold DN at c
  split at c
  .exact h.dom k c
  .rcases jK.mp c with c|c
   .exact h.dom k c
   simp_all
 .unfold DN
  split
  .exact h.nd
  .rename_i i
   rw[lL];refine#[h.nd,ja.mpr #[jO,kR],λa j b l e=>i^hasK_iff.mpr ?_]
   grind
def Dmap.le{d:Type}{a:v_ Key}{g:v_ D}{enc:d->D}{F:Str->w_ d}(h:Dmap a g enc F){b:v_ Str}(i:∀x,F x≠s_->x∈b):a.length<=b.length:=by
 have:∀(a:v_ Key) (b:v_ Str),a.Nodup->(∀k∈a,∃x:Str,k=.inr x/\x∈b)->a.length<=b.length:=by
  intro a
  induction a with
  |nil=>simp_all
  | cons k a l=>
   intro b c e;let#[x,rfl,n]:=e k Rs;have c:=ja.mp c
   have o:=l (b.erase x) c.2 λj m=>by
    let#[y,rfl,p]:=e j^Sc _ m
    grind
   grind
 refine this a b h.nd λk f=>?_;let#[x,rfl]:=h.dom k f;exact#[x,rfl,i x^(h.mem x).mp f]
abbrev L_:=Str->w_ (Int×w_ Str)
structure Dj (N:Net) (s:Str) (F:L_) (Wt:List Str):Prop where
 start:F s=P3 (0,s_)
 ins:∀x,F x≠s_->x∈N.ps
 wk:∀x d p,F x=P3 (d,p)->Wk N s x d
 prev:∀x d p,F x=P3 (d,p)->(p=s_/\x=s)\/∃y dy q l,p=P3 y/\F y=P3 (dy,q)/\y∉Wt/\Ed N y x l/\d=dy+l
 wfound:∀x∈Wt,F x≠s_
 nd:Wt.Nodup
 done:∀x d p y l,F x=P3 (d,p)->x∉Wt->Ed N x y l->∃dy q,F y=P3 (dy,q)/\dy<=d+l
 near:∀x d p y dy q,F x=P3 (d,p)->x∉Wt->F y=P3 (dy,q)->y∈Wt->d<=dy
def Dj.init{N:Net}{s:Str}(c:s∈N.ps):Dj N s (λx=>if x=s then P3 (0,s_)else s_) [s]:=by
 have a:∀x d p,(if x=s then P3 ((0:Int),(s_:w_ Str))else s_)=P3 (d,p)->x=s/\d=0/\p=s_:=λx d p e=>by
  grind
 refine#[if_pos rfl,λx e=>?_,λx d p e=>?_,λx d p e=>?_,λx b=>?_,ja.mpr #[jO,kR],λx d p y l e b=>?_,λx d p y f q e b=>?_]
 .grind
 .let#[rfl,rfl,rfl]:=a x d p e
  exact .nil
 .let#[rfl,rfl,rfl]:=a x d p e
  exact .inl #[rfl,rfl]
 .simp_all
 .exact absurd (Tk.mpr (a x d p e).1) b
 .exact absurd (Tk.mpr (a x d p e).1) b
structure Dm (N:Net) (s:Str) (F:L_) (Wt:List Str) (v:Str) (dv:Int) (seen:List (Str×Int)):Prop where
 start:F s=P3 (0,s_)
 ins:∀x,F x≠s_->x∈N.ps
 wk:∀x d p,F x=P3 (d,p)->Wk N s x d
 prev:∀x d p,F x=P3 (d,p)->(p=s_/\x=s)\/∃y dy q l,p=P3 y/\F y=P3 (dy,q)/\y∉Wt/\Ed N y x l/\d=dy+l
 wfound:∀x∈Wt,F x≠s_
 nd:Wt.Nodup
 done:∀x d p y l,F x=P3 (d,p)->x∉Wt->x≠v->Ed N x y l->∃dy q,F y=P3 (dy,q)/\dy<=d+l
 near:∀x d p y dy q,F x=P3 (d,p)->x∉Wt->F y=P3 (dy,q)->y∈Wt->d<=dy
 here:∃p,F v=P3 (dv,p)
 out:v∉Wt
 least:∀x d p,F x=P3 (d,p)->x∉Wt->d<=dv
 gone:∀y l,(y,l)∈seen->∃dy q,F y=P3 (dy,q)/\dy<=dv+l
def Dj.take{N:Net}{s:Str}{F:L_}{c:v_ Str}(h:Dj N s F c){v:Str}{dv:Int}{p:w_ Str}(o:v∈c)(e:F v=P3 (dv,p))(i:∀y∈c,∀g q,F y=P3 (g,q)->dv<=g):Dm N s F (c.erase v) v dv []:=by
 have f:∀x,x∈c.erase v->x∈c:=λx b=>List.mem_of_mem_erase b;have m:v∉c.erase v:=λz=>(h.nd.mem_erase_iff.mp z).1 rfl
 have a:∀x,x∉c.erase v->x=v\/x∉c:=λx b=>by
  grind
 refine#[h.start,h.ins,h.wk,λx d q ex=>?_,λx b=>h.wfound x^f x b,h.nd.erase v,λx d q y l ex b r t=>?_,λx d q y g j ex b n k=>?_,#[p,e],m,λx d q ex b=>?_,λy l k=>by cases k]
 .rcases h.prev x d q ex with z|⟨y,g,j,l,u,w,A,B,C⟩
  .exact .inl z
  .exact .inr #[y,g,j,l,u,w,λz=>A^f y z,B,C]
 .rcases a x b with z|z
  .exact absurd z r
  .exact h.done x d q y l ex z t
 .rcases a x b with z|z
  .subst z
   rw[e]at ex;cases ex;exact i y (f y k) g j n
  .exact h.near x d q y g j ex z n^f y k
 .rcases a x b with z|z
  .grind
  .exact h.near x d q v dv p ex z e o
def Dm.finish{N:Net}{s:Str}{F:L_}{b:v_ Str}{v:Str}{dv:Int}{a:v_ (Str×Int)}(h:Dm N s F b v dv a)(f:∀y l,Ed N v y l->(y,l)∈a):Dj N s F b:=by
 refine#[h.start,h.ins,h.wk,h.prev,h.wfound,h.nd,λx d p y l e g c=>?_,h.near]
 by_cases z:x=v
 .subst z
  let#[j,i]:=h.here;rw[i]at e;cases e;exact h.gone y l^f y l c
 .exact h.done x d p y l e g z c
def Dm.find{N:Net}(ok:N.Ok){s:Str}{F:L_}{m:v_ Str}{v:Str}{dv:Int}{j:v_ (Str×Int)}(h:Dm N s F m v dv j){y:Str}{l:Int}(w:Ed N v y l)(K:F y=s_):Dm N s (IR F y (dv+l,P3 v)) (m++[y]) v dv (j++[(y,l)]):=by
 have L:=(w.pos ok).1;let#[A,B]:=h.here;have C:∀x d p,F x=P3 (d,p)->x≠y:=λx d p e z=>by rw[z,K]at e;cases e
 have f:∀x d p,F x=P3 (d,p)->IR F y (dv+l,P3 v) x=P3 (d,p):=λx d p e=>by rw[Bq^C x d p e];exact e
 have Q:y∉m:=λz=>h.wfound y z K
 have c:∀x d p,IR F y (dv+l,P3 v) x=P3 (d,p)->(x=y/\d=dv+l/\p=P3 v)\/(x≠y/\F x=P3 (d,p)):=λx d p e=>by
  by_cases z:x=y
  .rw[z,Bu]at e;cases e;exact .inl #[z,rfl,rfl]
  .rw[Bq z]at e;exact .inr #[z,e]
 have k:∀x,x∉m++[y]->x∉m/\x≠y:=λx g=>#[λz=>g^lJ _ z,λz=>g^jU _^by rw[z];exact Tk.mpr rfl]
 have M:v∉m++[y]:=λz=>by
  rcases jK.mp z with z|z
  .exact h.out z
  .exact C v dv A B^Tk.mp z
 refine#[f _ _ _ h.start,λx g=>?_,λx d p e=>?_,λx d p e=>?_,λx g=>?_,?_,λx d p z o e g R D=>?_,λx d p z O q e g E i=>?_,#[A,f _ _ _ B],M,λx d p e g=>?_,λz o i=>?_]
 .by_cases z:x=y
  .rw[z];exact w.ins ok
  .rw[Bq z]at g;exact h.ins x g
 .rcases c x d p e with⟨rfl,rfl,_⟩|⟨_,e⟩
  .exact .snoc (h.wk v dv A B) w
  .exact h.wk x d p e
 .rcases c x d p e with⟨rfl,rfl,rfl⟩|⟨_,e⟩
  .exact .inr #[v,dv,A,l,rfl,f _ _ _ B,M,w,rfl]
  .rcases h.prev x d p e with z|⟨u,P,q,o,S,G,r,T,U⟩
   .exact .inl z
   .refine .inr #[u,P,q,o,S,f _ _ _ G,λz=>?_,T,U]
    rcases jK.mp z with z|z
    .exact r z
    .exact C u P q G^Tk.mp z
 .rcases jK.mp g with g|g
  .have:=h.wfound x g
   cases e:F x with
   |none=>exact absurd e this
   |some a=>rw[f x a.1 a.2 e];intro z;cases z
  .rw[Tk.mp g,Bu];intro z;cases z
 .rw[lL]
  exact#[h.nd,ja.mpr #[jO,kR],λa V b W e=>Q^by rw[←Tk.mp W,←e];exact V]
 .let#[n,t]:=k x g
  rcases c x d p e with⟨z,_⟩|⟨_,e⟩
  .exact absurd z t
  .let#[H,I,r,J]:=h.done x d p z o e n R D
   exact#[H,I,f _ _ _ r,J]
 .let#[n,t]:=k x g
  rcases c x d p e with⟨z,_⟩|⟨_,ex⟩
  .exact absurd z t
  .rcases c z O q E with⟨_,G,_⟩|⟨X,E⟩
   .have:=h.least x d p ex n
    omega
   .rcases jK.mp i with i|i
    .exact h.near x d p z O q ex n E i
    .exact absurd (Tk.mp i) X
 .let#[n,t]:=k x g
  rcases c x d p e with⟨z,_⟩|⟨_,e⟩
  .exact absurd z t
  .exact h.least x d p e n
 .rcases jK.mp i with i|i
  .let#[H,I,r,J]:=h.gone z o i
   exact#[H,I,f _ _ _ r,J]
  .cases Tk.mp i
   exact#[_,_,Bu,mO _]
def Dm.nearer{N:Net}(ok:N.Ok){s:Str}{F:L_}{k:v_ Str}{v:Str}{dv:Int}{f:v_ (Str×Int)}(h:Dm N s F k v dv f){y:Str}{l A:Int}{J:w_ Str}(o:Ed N v y l)(B:F y=P3 (A,J))(Q:dv+l<A):Dm N s (IR F y (dv+l,P3 v)) k v dv (f++[(y,l)]):=by
 have K:=(o.pos ok).1;let#[r,t]:=h.here
 have L:y∈k:=by
  by_cases z:y∈k
  .exact z
  .have:=h.least y A J B z
   omega
 have M:v≠y:=λz=>h.out (by rw[z];exact L);have c:∀x,x∉k->IR F y (dv+l,P3 v) x=F x:=λx b=>Bq λz=>b^by rw[z];exact L
 have a:∀x d p,IR F y (dv+l,P3 v) x=P3 (d,p)->(x=y/\d=dv+l/\p=P3 v)\/(x≠y/\F x=P3 (d,p)):=λx d p e=>by
  by_cases z:x=y
  .rw[z,Bu]at e;cases e;exact .inl #[z,rfl,rfl]
  .rw[Bq z]at e;exact .inr #[z,e]
 have g:∀x d p,F x=P3 (d,p)->∃O q,IR F y (dv+l,P3 v) x=P3 (O,q)/\O<=d:=λx d p e=>by
  by_cases z:x=y
  .subst z
   rw[B]at e;cases e;exact#[_,_,Bu,by lk]
  .exact#[d,p,by rw[Bq z];exact e,mO _]
 have R:s≠y:=λz=>by
  have:=h.start
  rw[z,B]at this;cases this
  have:=(h.wk v dv r t).pos ok
  omega
 refine#[by rw[Bq R];exact h.start,λx b=>?_,λx d p e=>?_,λx d p e=>?_,λx b=>?_,h.nd,λx d p z m e b S C=>?_,λx d p z P q e b D i=>?_,#[r,by rw[Bq M];exact t],h.out,λx d p e b=>?_,λz m i=>?_]
 .by_cases z:x=y
  .rw[z];exact o.ins ok
  .rw[Bq z]at b;exact h.ins x b
 .rcases a x d p e with⟨rfl,rfl,_⟩|⟨_,e⟩
  .exact .snoc (h.wk v dv r t) o
  .exact h.wk x d p e
 .rcases a x d p e with⟨rfl,rfl,rfl⟩|⟨_,e⟩
  .exact .inr #[v,dv,r,l,rfl,by rw[Bq M];exact t,h.out,o,rfl]
  .rcases h.prev x d p e with z|⟨u,T,q,m,U,V,j,n,W⟩
   .exact .inl z
   .exact .inr #[u,T,q,m,U,by rw[c u j];exact V,j,n,W]
 .by_cases z:x=y
  .rw[z,Bu];intro w;cases w
  .rw[Bq z];exact h.wfound x b
 .rw[c x b]at e
  let#[E,G,j,X]:=h.done x d p z m e b S C;let#[H,I,n,Y]:=g z E G j;exact#[H,I,n,by lk]
 .rw[c x b]at e
  rcases a z P q D with⟨rfl,rfl,_⟩|⟨Z,D⟩
  .have:=h.least x d p e b
   omega
  .exact h.near x d p z P q e b D i
 .rw[c x b]at e
  exact h.least x d p e b
 .rcases jK.mp i with i|i
  .let#[E,G,j,X]:=h.gone z m i
   let#[H,I,n,Y]:=g z E G j;exact#[H,I,n,by lk]
  .cases Tk.mp i
   exact#[_,_,Bu,mO _]
def Dm.skip{N:Net}{s:Str}{F:L_}{c:v_ Str}{v:Str}{dv:Int}{a:v_ (Str×Int)}(h:Dm N s F c v dv a){y:Str}{l d:Int}{e:w_ Str}(i:F y=P3 (d,e))(f:d<=dv+l):Dm N s F c v dv (a++[(y,l)]):=by
 refine#[h.start,h.ins,h.wk,h.prev,h.wfound,h.nd,h.done,h.near,h.here,h.out,h.least,λz g b=>?_]
 rcases jK.mp b with b|b
 .exact h.gone z g b
 simp_all
structure Told (N:Net) (s:Str) (F:L_):Prop where
 start:F s=P3 (0,s_)
 ins:∀x,F x≠s_->x∈N.ps
 least:∀x d p,F x=P3 (d,p)->Least N s x d
 all:∀x d,Wk N s x d->F x≠s_
 prev:∀x d p,F x=P3 (d,p)->(p=s_/\x=s)\/∃y dy q l,p=P3 y/\F y=P3 (dy,q)/\Ed N y x l/\d=dy+l
def Dj.told{N:Net}{s:Str}{F:L_}(h:Dj N s F []):Told N s F:=by
 have c:=Hl (N:=N) (s:=s) (F:=λx=>(F x).map (·.1)) #[0,by rw[h.start];rfl,mO _] (λx d e=>by
  let#[#[g,p],a,b]:=jx.mp e;cases b;exact h.wk x _ p a) (λx d y l e i=>by
  let#[#[g,p],a,b]:=jx.mp e;cases b;let#[f,q,j,k]:=h.done x _ p y l a jO i;exact#[f,by rw[j];rfl,k])
 refine#[h.start,h.ins,λx d p e=>c.1 x d (by rw[e];rfl),λx d m e=>c.2 x d m (by rw[e];rfl),λx d p e=>?_]
 rcases h.prev x d p e with z|⟨y,f,q,l,a,b,_,n,o⟩
 .exact .inl z
 simp_all
abbrev Kn:=Str->w_ Int
structure Bf (N:Net) (s:Str) (c:Nat) (K:Kn):Prop where
 start:∃d,K s=P3 d/\d<=0
 ins:∀x,K x≠s_->x∈N.ps
 wk:∀x d,K x=P3 d->Wk N s x d
 top:∀x d,K x=P3 d->d<=1000000*(c:Int)
def big:Nat:=27000001
def wt(K:Kn)(x:Str):Nat:=match K x with
 |some d=>d.toNat
 |none=>big
def Vu(a:v_ Str)(K:Kn):Nat:=(a.map^wt K).sum
theorem WQ{f g:Str->Nat}:∀{a:v_ Str},(∀x∈a,f x<=g x)->(a.map f).sum<=(a.map g).sum
 |[],_=>Op _
 |x::a,h=>by
  have c:=WQ λy b=>h y^Sc _ b
  grind
theorem WP{f g:Str->Nat}:∀{b:v_ Str},(∀x∈b,f x<=g x)->(∃x∈b,f x<g x)->(b.map f).sum<(b.map g).sum
 |[],_,#[x,c,_]=>by cases c
 | x::b,h,#[y,a,d]=>by
  have i:=h x Rs;rw[ju,ju,List.sum_cons,List.sum_cons]
  rcases UF.mp a with rfl|a
  .have e:=WQ λy a=>h y^Sc _ a
   omega
  .have e:=WP (λy a=>h y^Sc _ a) #[y,a,d]
   omega
def Bf.put {N:Net} (ok:N.Ok) {s:Str}{c c':Nat}{K:Kn} (h:Bf N s c K) (t:c' ≤ 26) (m:c ≤ c') {x y:Str}{d l:Int} (hx:K x=P3 d) (b:Ed N x y l) (n:K y=s_ → c'=c + 1) (f:∀ a,K y=P3 a → d + l < a):Bf N s c'^IR K y (d + l) ∧ Vu N.ps^IR K y (d + l) < Vu N.ps K:=by
  have u:=b.pos ok;have v:=(h.wk x d hx).pos ok;have o:Wk N s y (d + l):=.snoc (h.wk x d hx) b;have A:=h.top x d hx
  have p : d + l ≤ 1000000 * (c':Int):=by
    cases e:K y with
    | none => rw[n e];have:((c + 1:Nat):Int)=(c:Int) + 1:=by lk
              rw[this,Int.mul_add];lk
    | some a=>
      have B:=f a e;have q:=h.top y a e;have:(1000000:Int) * (c:Int) ≤ 1000000 * (c':Int):=mw (by lk) (by lk);lk
  refine#[#[?_,λz i=>?_,λz g e=>?_,λz g e=>?_],WP (λz _=>?_) #[y,b.ins ok,?_]]
  · let#[j,k,r]:=h.start
    by_cases z:s=y
    · have:=f j^by rw[←z];exact k
      omega
    .exact#[j,by rw[Bq z];exact k,r]
  · by_cases e:z=y
    .rw[e];exact b.ins ok
    .rw[Bq e]at i;exact h.ins z i
  · by_cases w:z=y
    .rw[w,Bu]at e;cases e;rw[w];exact o
    .rw[Bq w]at e;exact h.wk z g e
  · by_cases w:z=y
    .rw[w,Bu]at e;cases e;exact p
    · rw[Bq w]at e
      have q:=h.top z g e;have:(1000000:Int) * (c:Int) ≤ 1000000 * (c':Int):=mw (by lk) (by lk);lk
  · unfold wt
    by_cases w:z=y
    · rw[w,Bu]
      cases e:K y with
      |none=>show(d + l).toNat ≤ big;unfold big;lk
      |some a=>show(d + l).toNat ≤ a.toNat;have:=f a e;lk
    · rw[Bq w]
      exact Op _
  · unfold wt
    rw[Bu];cases e:K y with
    |none=>show(d + l).toNat < big;unfold big;lk
    |some a=>show(d + l).toNat < a.toNat;have:=f a e;lk
def Bf.init{N:Net}{s:Str}(b:s∈N.ps):Bf N s 1 (λx=>if x=s then P3 0 else s_):=by
 have a:∀x d,(if x=s then P3 (0:Int)else s_)=P3 d->x=s/\d=0:=λx d e=>by
  grind
 refine#[#[0,if_pos rfl,mO _],λx e=>by grind,λx d e=>?_,λx d e=>?_]
 .let#[rfl,rfl]:=a x d e
  exact .nil
 .let#[rfl,rfl]:=a x d e
  decide
def Ka(K:Kn)(e:Str×Str×Int):Prop:=∀d,K e.1=P3 d->∃a,K e.2.1=P3 a/\a<=d+e.2.2
structure LTold (N:Net) (s:Str) (K:Kn):Prop where
 ins:∀x,K x≠s_->x∈N.ps
 least:∀x d,K x=P3 d->Least N s x d
 all:∀x d,Wk N s x d->K x≠s_
 top:∀x d,K x=P3 d->d<=30000000
def Bf.told{N:Net}(ok:N.Ok){s:Str}{c:Nat}{K:Kn}(h:Bf N s c K)(n:c<=26)(f:∀t∈N.ts,Ka K (t.a,t.b,t.len)/\Ka K (t.b,t.a,t.len)):LTold N s K:=by
 have g:=Hl h.start h.wk (λx d y l e j=>by
  let#[t,i,k,m]:=j.tie ok;subst k
  rcases m with⟨rfl,rfl⟩|⟨rfl,rfl⟩
  .exact(f t i).1 d e
  .exact(f t i).2 d e)
 exact#[h.ins,g.1,g.2,λx d e=>by have:=h.top x d e;lk]
def walk(N:Net):v_ Str->Int->Prop
 |[],_=>False
 |[_],d=>d=0
 |x::y::r,d=>∃l e,Ed N x y l/\walk N (y::r) e/\d=l+e
def UV{N:Net}{x y:Str}{r:v_ Str}{d l:Int}(a:Ed N x y l)(h:walk N (y::r) d):walk N (x::y::r) (l+d):=#[l,d,a,h,rfl]
def Far(N:Net)(a b:Str):w_ Int->Prop
 |some d=>Least N a b d
 |none=>∀d,¬Wk N a b d
def Far.unique{N:Net}{a b:Str}{o c:w_ Int}(h:Far N a b o)(e:Far N a b c):o=c:=by
 cases o with
 |none=>
  cases c with
  |none=>rfl
  |some d=>exact absurd (e.1)^h d
 |some d=>
  cases c with
  |none=>exact absurd (h.1)^e d
  |some f=>rw[Least.unique (h) e]
def Told.far{N:Net}{s:Str}{F:L_}(h:Told N s F)(x:Str):Far N s x ((F x).map (·.1)):=by
 cases e:F x with
 |none=>exact λd b=>h.all x d b e
 |some a=>exact h.least x _ _ e
def LTold.far{N:Net}{s:Str}{K:Kn}(h:LTold N s K)(x:Str):Far N s x^K x:=by
 cases e:K x with
 |none=>exact λd a=>h.all x d a e
 |some d=>exact h.least x d e
def Way(N:Net)(a b:Str)(o:w_^v_ Str):Prop:=match o with
 |some w=>∃d r,w=a::r/\w.getLast?=P3 b/\walk N w d/\Least N a b d/\w.length<=30/\∀x∈w,x∈N.ps
 |none=>∀d,¬Wk N a b d
def fC:w_ Str->D
 |some y=>.str y
 |none=>.non
def HS:w_ Int->D
 |some y=>.int y
 |none=>.non
def fB:w_^v_ Str->D
 |some w=>.tup^w.map .str
 |none=>.non
def Il(p:Int×w_ Str):D:=.tup [.int p.1,fC p.2]
def okN(N:Net):Prop:=N.Ok/\N.ps.length<=25/\N.ts.length<=60
def YQ:W2:=λf n P=>∃(a:v_ Str) (b:v_ Key) (c:v_ D) (F:L_),f=[.br^.lst^a.map .str,.br^.dic b c]/\Dmap b c Il F/\(∀x∈a,F x≠s_)/\a≠[]/\a.length<=100 /\
 ∀v∈a,(∀y∈a,∀d g e h,F v=P3 (d,g)->F y=P3 (e,h)->d<=e)->P (.str v) n
def Iy:W2:=λc n P=>∃(N:Net) (s:Str),c=[.sh^enc N,.sh^.str s]/\okN N/\s∈N.ps/\∀(a:v_ Key) (b:v_ D) (F:L_),Dmap a b Il F->Told N s F->P (.dic a b) n
def RE:W2:=λc n P=>∃(N:Net) (a b:Str),c=[.sh^enc N,.sh^.str a,.sh^.str b]/\okN N/\a∈N.ps/\b∈N.ps/\∀o,Far N a b o->P (HS o) n
def Zw:W2:=λc n P=>∃(N:Net) (a b:Str),c=[.sh^enc N,.sh^.str a,.sh^.str b]/\okN N/\a∈N.ps/\b∈N.ps/\∀o,Way N a b o->P (fB o) n
def Hq:Ac:=(Aq^AX Az (CI aL^AF (Bi [P3 1,s_] (A0^As 0) (AT 1) DU^BK^AF (AX Az (AX Bx (As 0)^AC 1)^wC^D.int 0)^AF (AC 1) AV) AV)^wC^D.int 1)
def Hr:Ac:=(Ae (A3 2^AR PD^AB (AE^AC 0) AQ)
 (Ae (DL 3^RK (AC 1)^BK^AF (wC^D.int 0)^AF (wC D.non) AV)
 (Ae (DL 4^CG^AF (AC 1) AV)
 (Ae (IK (ah^As 4) (Ae (A3 5^AR YQ^AB (Bt^As 4)^AB (Bt^As 3) AQ)
 (Ae (IL 4 "list" fV^AF (AC 5) AV)
 (Cs (wItems^AX Bx (AC 2)^AC 5) (Bz 2^Aa (AT 6)^Aa (AT 7) BM) (Ae (A3 8^AX A5 (AX Az (AX Bx (As 3)^AC 5)^wC^D.int 0)^AC 7)
 (BC (AZ^AX (GC t_) (AC 6)^As 3) (Ae (IL 4 "list" EC^AF (AC 6) AV)
 (JC 3 (AC 6)^BK^AF (AC 8)^AF (AC 5) AV))^BC (AZ^AX FV (AC 8)^AX Az (AX Bx (As 3)^AC 6)^wC^D.int 0) (JC 3 (AC 6)^BK^AF (AC 8)^AF (AC 5) AV) Av))))))
 (KS 3)))))
def aR:Ac:=(Ae (A3 3^AR Iy^AB (AE^AC 0)^AB (AE^AC 1) AQ)
 (Aq^dY (AZ^AX (GC u_) (AC 2)^AC 3) (AX Az (AX Bx (AC 3)^AC 2)^wC^D.int 0)^wC D.non))
def Qn:Ac:=(Ae (A3 3^AR Iy^AB (AE^AC 0)^AB (AE^AC 1) AQ)
 (Ae (BC (AZ^AX (GC t_) (AC 2)^AC 3) (Aq^wC D.non) Av)
 (Ae (DL 4^CG AV)
 (Ae (A3 5^AC 2)
 (Ae (IK (AZ^AX (Di t_) (AC 5)^wC D.non) (Ae (IL 4 "list" EC^AF (AC 5) AV)
 (A3 5^AX Az (AX Bx (AC 3)^AC 5)^wC^D.int 1)))
 (Aq^S3^As 4))))))
def h_{i j:Int}{x y:Str}(h:Bw [.inl j,.inr y] [.inl i,.inr x]=u_):i<=j:=by
 have h:(if nZ j=.inl i then(if kg y=.inr x then u_ else decide _)else decide _)=u_:=h
 grind
section
variable {ss:v_ Slot}{n:Nat}{Pd:D->Nat->Prop}
def MH(h:YQ ss n Pd):Hq (EE Pd) n (ss++T0 0 .no):=by
 let#[g,l,o,F,rfl,M,w,i,N,p]:=h;unfold Hq;exists by show(g.map D.str).length<=10000000;rw[No];lk
 have c:∀x∈g,∃d q,F x=P3 (d,q):=λx b=>by
  cases e:F x with
  |none=>exact absurd e^w x b
  |some a=>exact#[a.1,a.2,rfl]
 refine Ba (λd=>match d with|.str x=>.tup [.int ((F x).getD (0,s_)).1,.str x]|d=>d) (λt=>∃s,t=[.br^.dic l o,s]) _ _ _ _ ?_ #[_,rfl] ?_
 .rintro d A t m O ⟨s,rfl⟩ B
  let#[x,b,rfl]:=TM.mp A;let#[C,q,ex]:=c x b;exists l,o,_,Il (C,q),rfl,rfl,by rw[M.at_,ex];rfl,_,AJ (j:=0) rfl,(by cbv:2<=sizeLine)
  grind
 rw[jQ,kh];refine#[_,rfl,?_,#[λx b=>?_,λx b y k E G H I=>?_],λx b f=>?_]
 .rw[No]
  cases g with
  |nil=>exact absurd rfl i
  |cons a r=>exact Nat.succ_pos _
 .let#[z,_,rfl]:=TM.mp b
  exact#[_,rfl,lI _ _]
 .let#[z,_,rfl]:=TM.mp b
  let#[u,_,rfl]:=TM.mp k;cases(show P3 [nZ _,kg _]=P3 E from H);cases(show P3 [nZ _,kg _]=P3 G from I);rfl
 .let#[v,J,rfl]:=TM.mp b
  refine#[_,AJ (j:=1) rfl,p v J λy k P Q R S K L=>?_]
  have:=h_ (f _ (TM.mpr #[y,k,rfl]) _ _ rfl rfl)
  rw[K,L]at this;exact this
def A2(x:Str):keyOf^.str x=P3^.inr x:=rfl
def VA{N:Net}(ok:N.Ok){a:v_ Str}(h:∀x∈a,x∈N.ps):Cd^.lst^a.map .str:=Ib λd b=>by
  let#[x,c,rfl]:=TM.mp b;exact C1^ok.names x^h x c
def KP{N:Net}{d:v_ Str}(b:d.Nodup)(h:∀x∈d,x∈N.ps):d.length<=N.ps.length:=by
 have:∀(a c:v_ Str),a.Nodup->(∀x∈a,x∈c)->a.length<=c.length:=by
  intro a
  induction a with
  |nil=>grind
  |cons x a g=>
   intro c b f;have k:=f x Rs;have b:=ja.mp b;have l:=g (c.erase x) b.2 λj i=>(List.mem_erase_of_ne λe=>b.1^by simp_all).mpr^f j^Sc _ i
   grind
 simp_all
def K6(a:v_ Key)(k:Key):(DN a k).length=if Lb a k=t_ then a.length else a.length+1:=by
 unfold DN
 split
 .rfl
 simp_all
def Dmap.has{b:Type}{a:v_ Key}{d:v_ D}{enc:b->D}{F:Str->w_ b}(h:Dmap a d enc F){x:Str}:(F x=s_->Lb a^.inr x=u_)/\(F x≠s_->Lb a^.inr x=t_):=by
 constructor
 .intro e
  cases c:Lb a _ with
  |false=>rfl
  |true=>exact absurd e^(h.mem x).mp^hasK_iff.mp c
 .intro e
  exact hasK_iff.mpr^(h.mem x).mpr e
def Ub{N:Net}{x:Str}(hx:x∈N.ps):BY (N.ps.map .inr) (N.ps.map^YX N.ts)^.inr x=P3^YX N.ts x:=by
 have c:∀a:v_ _,x∈a->BY (a.map .inr) (a.map^YX N.ts)^.inr x=P3^YX N.ts x:=by
  intro a
  induction a with
  |nil=>grind
  | cons q a b=>
   intro h;show(if kg q=.inr x then P3 _ else BY _ _ _)=_
   by_cases e:q=x
   .grind
   .rw[if_neg λz=>e^lu z]
    exact b^(UF.mp h).resolve_left λz=>e z.symm
 simp_all
def Yb(l:v_ (Str×Int)):EH ((l.map λx=>(.inr x.1:Key)).map dJ) (l.map λx=>.int x.2)=l.map gy:=by
 induction l with
 |nil=>rfl
 |cons p l a=>
  show D.tup _::EH _ _=gy p::l.map _;rw[←a];rfl
def MI(h:Iy ss n Pd):Hr (EF Pd) n (ss++T0 7 .no):=by
 let#[N,s,rfl,#[ok,lp,lt],hs,p]:=h;have a2:=PySem.sizeLine_eq;unfold Hr;refine#[N,rfl,ok,by lk,by lk,?_];exists(by cbv:2<=sizeLine),_,A2 s,(by cbv:1<=sizeLine);refine IJ (λm O Y=>O=n/\∃(r:v_ Str) (f:v_ Key) (g:v_ D) (F:L_) (s5 G H I:Slot),Y=[.sh^enc N,.sh^.str s,.sh^FA N,.ow^.dic f g,.ow^.lst^r.map .str,s5,G,H,I]/\Dmap f g Il F/\Dj N s F r/\m+f.length=N.ps.length+r.length) (N.ps.length) #[rfl,[s],[.inr s],[Il (0,s_)],_,_,_,_,_,rfl,Dmap.one,Dj.init hs,rfl] ?_ ?_
 .rintro m O Y N' ⟨rfl,r,f,g,F,s5,G,H,I,rfl,M,J,hm⟩ hN
  cases r with
  |nil=>
   exact#[u_,rfl,_,rfl,p f g F M J.told]
  | cons u w=>
   exists t_,rfl;have o:∀x∈u::w,x∈N.ps:=λx K=>J.ins x^J.wfound x K;have wl:=KP J.nd o;refine#[u::w,f,g,F,rfl,M,J.wfound,lI _ _,by lk,λv L R=>?_]
   obtain⟨B,pv,X⟩:∃d q,F v=P3 (d,q):=by
    cases e:F v with
    |none=>exact absurd e^J.wfound v L
    |some a=>exact#[a.1,a.2,rfl]
   have A:=J.take L X λy hy S q C=>R y hy B pv S q X C;have T:=o v L;have U:(u::w).idxOf v<(u::w).length:=List.idxOf_lt_length_of_mem L;have V:(u::w)[(u::w).idxOf v]?=P3 v:=by rw[On U,List.getElem_idxOf]
   have ee:((u::w).map D.str).eraseIdx^(u::w).idxOf v=((u::w).erase v).map D.str:=by
    rw[List.erase_eq_eraseIdx_of_idxOf (rfl:(u::w).idxOf v=_),F3]
   exists _,rfl,rfl,_,_,(u::w).idxOf v,rfl,rfl,VA ok o,ER^ok.names v T,#[.str v,by rw[jG,V];rfl,by show(v==v)=t_;exact beq_self_eq_true v],λk x hk K=>?_
   .rw[jG]at K
    let#[t,ht,rfl]:=jx.mp K;have a3:k<(u::w).length:=(ZB.mp ht).1;have hh:=List.not_of_lt_findIdx (p:=λy=>y==v) (xs:=u::w) hk;have e2:(u::w)[k]=t:=(ZB.mp ht).2;have h3:((u::w)[k]==v)=u_:=hh;rw[e2]at h3;exact h3
   rw[ee];exists _,_,_,YX N.ts v,rfl,A2 v,Ub T,_,_,rfl,λk hk=>?_
   .let#[q,hq,rfl]:=TM.mp hk
    have:=(ok.names _ (OR ok hq).1).2.1
    show q.1.length<=sizeLine;lk
   rw[Yb];have el:=List.length_erase_of_mem L
   have E:∀(i b:v_ (Str×Int)) (r:v_ Str) (f:v_ Key) (g:v_ D) (F:L_) (G H I:Slot),b++i=EA N.ts v->Dmap f g Il F->Dm N s F r v B b->m+f.length=N.ps.length+r.length+1->
     A7 (Bz 2^Aa (AT 6)^Aa (AT 7) BM) (Ae (A3 8^AX A5 (AX Az (AX Bx (As 3)^AC 5)^wC^D.int 0)^AC 7)
 (BC (AZ^AX (GC t_) (AC 6)^As 3) (Ae (IL 4 "list" EC^AF (AC 6) AV)
 (JC 3 (AC 6)^BK^AF (AC 8)^AF (AC 5) AV))^BC (AZ^AX FV (AC 8)^AX Az (AX Bx (As 3)^AC 6)^wC^D.int 0) (JC 3 (AC 6)^BK^AF (AC 8)^AF (AC 5) AV) Av)) {EF Pd with nx:=N',ct:=N',bk:=KS 3^EF Pd} (i.map gy) O [.sh^enc N,.sh^.str s,.sh^FA N,.ow^.dic f g,.ow^.lst^r.map .str,.sh^.str v,G,H,I]:=by
    intro i
    induction i with
    |nil=>
     intro b r f g F G H I e M A hm;rw[jZ]at e;exact hN (m - 1) O _ (by have:=M.le A.ins;lk) #[rfl,r,f,g,F,_,_,_,_,rfl,M,A.finish λy l hy=>by rw[e];exact hy,by have:=M.le A.ins;lk]
    | cons q i ih=>
     intro b r f g F G H I e M A hm;let#[y,l]:=q;have he:Ed N v y l:=by show(y,l)∈EA N.ts v;rw[←e];exact jU _ Rs
     have e':(b++[(y,l)])++i=EA N.ts v:=by rw[j6];exact e
     let#[pv,X]:=A.here;have kl:=M.le A.ins;have a4:=he.ins ok;have o:∀x∈r,x∈N.ps:=λx K=>A.ins x^A.wfound x K;have wl:=KP A.nd o;exists rfl,rfl;exists f,g,_,Il (B,pv),rfl,A2 v,by rw[M.at_,X];rfl,_,AJ (j:=0) rfl;exists f,g,_,rfl,A2 y;show if(!(BY f g^.inr y).isSome)=t_ then _ else _
     cases C:F y with
     |none=>
      have a0:=(M.has (x:=y)).1 C;rw[M.at_,C];refine Bv #[_,rfl,rfl,_,_,rfl,rfl,by rw[No];lk,?_];exists f,g,rfl,(by cbv:2<=sizeLine),_,A2 y,by lk
      have:=ih (b++[(y,l)]) (r++[y]) (DN f^.inr y) (DZ f g (.inr y)^Il (B+l,P3 v)) _ (.sh^.str y) (.sh^.int l) (.sh^.int (B+l)) e' (M.put y (B+l,P3 v)) (A.find ok he C)^by rw[K6,if_neg (by rw[a0];decide),jD,jV];lk
      rw[jz]at this;exact this
     | some a=>
      let#[S,qy]:=a;have W:=(M.has (x:=y)).2 (by rw[C];intro z;cases z);rw[M.at_,C];refine Bl #[f,g,_,Il (S,qy),rfl,A2 y,by rw[M.at_,C];rfl,_,AJ (j:=0) rfl,?_];show if decide (B+l<S)=t_ then _ else _
      by_cases c:B+l<S
      .rw[decide_eq_true c]
       refine Bv #[f,g,rfl,(by cbv:2<=sizeLine),_,A2 y,by lk,?_];exact ih (b++[(y,l)]) r (DN f^.inr y) (DZ f g (.inr y)^Il (B+l,P3 v)) _ (.sh^.str y) (.sh^.int l) (.sh^.int (B+l)) e' (M.put y (B+l,P3 v)) (A.nearer ok he C c)^by rw[K6,if_pos W];lk
      .rw[decide_eq_false c]
       exact Bl^ih (b++[(y,l)]) r f g F (.sh^.str y) (.sh^.int l) (.sh^.int (B+l)) e' M (A.skip C^by lk) hm
   exact E (EA N.ts v) [] ((u::w).erase v) f g F _ _ _ rfl M A (by have:=List.length_pos_of_mem L;lk)
 .rintro O Y P Q a1 h
  unfold ah As at h ⊢
  split at h
  all_goals first
   |exact h.elim
   |(let#[c,hc,h]:=h;exact#[c,hc,a1 _ _ h])
def bJ(h:RE ss n Pd):aR (EE Pd) n (ss++T0 1 .no):=by
 let#[N,a,b,rfl,d,i,k,p]:=h;unfold aR;refine#[N,a,rfl,d,i,λf g F M T=>?_];exists f,g,_,rfl,A2 b;show if((BY f g^.inr b).isSome)=t_ then _ else _
 have c:=p _^T.far b;cases e:F b with
 |none=>
  rw[M.at_,e];rw[e]at c;exact Bl c
 |some x=>
  rw[M.at_,e];rw[e]at c;exact Bv #[f,g,_,Il x,rfl,A2 b,by rw[M.at_,e];rfl,_,AJ (j:=0) rfl,c]
end
structure WInv (N:Net) (F:L_) (b:Str) (db:Int) (acc:List Str) (pl:Option Str):Prop where
 st:(acc=[]/\pl=P3 b)\/∃z r dz,acc.reverse=z::r/\F z=P3 (dz,pl)/\walk N acc.reverse (db - dz)/\acc.reverse.getLast?=P3 b
 nd:acc.Nodup
 ins:∀x∈acc,x∈N.ps
 less:∀y dy q,pl=P3 y->F y=P3 (dy,q)->∀x∈acc,∃dx qx,F x=P3 (dx,qx)/\dy<dx
 fnd:∀y,pl=P3 y->F y≠s_
def wm(F:L_):w_ Str->Nat
 |none=>0
 |some y=>((F y).getD (0,s_)).1.toNat+1
def WInv.step{N:Net}(ok:N.Ok){a:Str}{F:L_}(T:Told N a F){b:Str}{k:Int}{K:w_ Str}(eb:F b=P3 (k,K)){m:v_ Str}{y:Str}{g:Int}{f:w_ Str}(h:WInv N F b k m^P3 y)(c:F y=P3 (g,f)):WInv N F b k (m++[y]) f/\wm F f<wm F^P3 y:=by
 have L:=(T.least y g f c).1.pos ok
 have A:∀w o q,f=P3 w->F w=P3 (o,q)->o<g:=λw o q e i=>by
  rcases T.prev y g f c with⟨z,_⟩|⟨B,s,C,l,j,n,t,u⟩
  .rw[e]at z;cases z
  .rw[e]at j
   cases j;rw[i]at n;cases n
   have:=(t.pos ok).1
   omega
 have D:∀w,f=P3 w->F w≠s_:=λw e=>by
  rcases T.prev y g f c with⟨z,_⟩|⟨B,s,C,l,j,n,_⟩
  .rw[e]at z;cases z
  .rw[e]at j
   cases j;rw[n];intro z;cases z
 exists#[.inr ?_,?_,λx d=>?_,λw o q e i x d=>?_,D]
 .rw [List.reverse_append,List.reverse_singleton,oM]
  rcases h.st with⟨rfl,e⟩|⟨z,r,E,j,n,t,u⟩
  .cases e
   rw[eb]at c;cases c;exact#[_,_,_,rfl,eb,(by show k - k=0;lk),rfl]
  .exists y,m.reverse,g,rfl,c,?_
   .rw[j]at t ⊢
    rcases T.prev z E (P3 y) n with⟨w,_⟩|⟨B,s,C,l,M,G,O,Q⟩
    .cases w
    .cases M
     rw[c]at G;cases G
     have:=UV O t
     rw[show l+(k - E)=k - g by lk]at this;exact this
   .rw[j]at u ⊢
    exact u
 .rw[lL]
  refine#[h.nd,ja.mpr #[jO,kR],λx d z P e=>?_];rw[Tk.mp P]at e;let#[H,I,ex,v]:=h.less y g f rfl c x d;rw[e,c]at ex;cases ex;lk
 .rcases jK.mp d with d|d
  .exact h.ins x d
  .rw[Tk.mp d]
   exact T.ins y^by rw[c];intro z;cases z
 .have J:=A w o q e i
  rcases jK.mp d with d|d
  .let#[H,I,ex,v]:=h.less y g f rfl c x d
   exact#[H,I,ex,by lk]
  .rw[Tk.mp d]
   exact#[g,f,c,J]
 .cases f with
  |none=>exact Nat.succ_pos _
  | some w=>
   cases i:F w with
   |none=>exact absurd i (D w rfl)
   |some p=>
    have J:=A w p.1 p.2 rfl i;have R:=(T.least w p.1 p.2 i).1.pos ok;show((F w).getD (0,s_)).1.toNat+1<((F y).getD (0,s_)).1.toNat+1;rw[i,c];show p.1.toNat+1<g.toNat+1;lk
section
variable {ss:v_ Slot}{n:Nat}{Pd:D->Nat->Prop}
def Uh(h:Zw ss n Pd):Qn (EE Pd) n (ss++T0 3 .no):=by
 let#[N,a,b,rfl,f,G,hb,p]:=h;have H:=PySem.sizeLine_eq;have ok:=f.1;unfold Qn;refine#[N,a,rfl,f,G,λs t F M T=>?_];exists s,t,_,rfl,A2 b;show if(!(BY s t^.inr b).isSome)=t_ then _ else _
 have d:=T.far b;cases g:F b with
 |none=>
  rw[M.at_,g];rw[g]at d;exact Bv^p s_ d
 | some x=>
  let#[i,I]:=x;rw[M.at_,g];refine Bl #[z0,?_];refine IJ (λm u v=>u=n/\∃(c:v_ Str) (k:w_ Str),v=[.sh^enc N,.sh^.str a,.sh^.str b,.sh^.dic s t,.ow^.lst^c.map .str,.sh^fC k]/\WInv N F b i c k/\m=wm F k) (wm F^P3 b) #[rfl,[],P3 b,rfl,#[.inl #[rfl,rfl],kR,(λx o=>by cases o),(λ_ _ _ _ _ x o=>by cases o),λy e=>by cases e;rw[g];intro z;cases z],rfl] ?_ ?_
  .rintro m u v N' ⟨rfl,c,k,rfl,J,rfl⟩ K
   have wl:=KP J.nd J.ins;have L:=f.2.1;cases k with
   | none=>
    exists rfl,_,rfl
    rcases J.st with⟨_,e⟩|⟨z,r,O,R,A,S,U⟩
    .cases e
    .have V:z=a:=by
      rcases T.prev z O s_ A with⟨_,w⟩|⟨w',W,q',l,X,_⟩
      .exact w
      .cases X
     subst V;rw[T.start]at A;cases A;rw[←oG];refine p (P3 c.reverse) #[i - 0,r,R,U,S,?_,by rw[kG];lk,λx o=>J.ins x^lO.mp o];rw[show i - 0=i by lk];exact T.least b i I g
   | some y=>
    cases B:F y with
    |none=>exact absurd B (J.fnd y rfl)
    |some q=>
     let#[Y,C]:=q;let#[Z,D]:=J.step ok T g B;exists rfl;refine#[_,rfl,rfl,_,_,rfl,rfl,by rw[No];lk,?_];exists s,t,_,Il (Y,C),rfl,A2 y,by rw[M.at_,B];rfl,_,AJ (j:=1) rfl;refine K (wm F C) _ _ D #[rfl,c++[y],C,?_,Z,rfl];rw[jz];rfl
  .rintro u v P Q E h
   unfold AZ AX AC wC Di at h ⊢
   split at h
   .exact#[h.1,E _ _ h.2]
   .exact h.elim
end
def ZQ{w:v_ Str}{b:Str}(h:w.getLast?=P3 b):atI (w.map D.str) (-1)=P3^.str b:=by
 let#[a,rfl]:=List.getLast?_eq_some_iff.mp h;rw[jz];exact Qt _ _
def ends(t:BP):Str×Str:=(t.a,t.b)
def eL(p q:Str×Str):Prop:=cs p.1<cs q.1\/(p.1=q.1/\cs p.2<cs q.2)
def UD{a e:Type}(f:a->e)(b:v_ a)(c d:w_ Int):Dp.cutD (b.map f) c d=(Dp.cutD b c d).map f:=by
 unfold Dp.cutD
 simp_all
def F5{b:Type}(a:v_ b)(c d:w_ Int):(Dp.cutD a c d).Sublist a:=(pD _ _).trans^List.drop_sublist _ _
def Zs{ps:v_ Str}{r:Int}(b:0<=r)(c:r<(ps.length:Int)):∃x∈ps,atI (ps.map D.str) r=P3^.str x:=by
 obtain⟨k,rfl⟩:∃k:Nat,r=k:=#[r.toNat,by lk];have a:k<ps.length:=by lk
 exact#[_,jm a,AJ^by simp_all]
def Tx{a:v_ Key}{b:v_ D}{K:Kn}(M:Dmap a b D.int K)(x:Str):(BY a b^.inr x).getD .non=HS^K x:=by
 rw[M.at_];cases K x <;>rfl
def bC{N:Net}(a:okN N):fine 1000001^enc N/\DC^enc N<=48000/\Gz^enc N<=3:=ao (ZS a.1) (LW a.1) (by rw[No];have:=a.2.1;lk)^by rw[No];have:=a.2.2;lk
def sub(N:Net)(kept:v_ BP):Net:=#[N.ps,N.ts.filter λu=>decide (u∈kept)]
def PN:W2:=λc n P=>∃(N:Net) (z:D) (b:v_ BP),c=[.sh^enc N,.br z]/\Eg z=P3^b.map Aj/\b.length<64/\∀a:v_ BP,a.Perm b->Hm a->P (enc #[N.ps,a]) n
def Ck:W2:=λd n P=>∃(N:Net) (s:Str) (z:D) (a:v_ BP),d=[.br z,.sh^.str s]/\Eg z=P3^a.map Aj/\(∀u,u∈a↔u∈N.ts)/\okN N/\s∈N.ps/\∀(b:v_ Key) (c:v_ D) (K:Kn),Dmap b c D.int K->LTold N s K->P (.dic b c) n
def Qo:Ac:=(Aq^BK^AF (AX Az (AC 0)^wC^D.int 0)^AF (CI BI^AF (CI CK^AF (As 1) AV) AV) AV)
def bD{N:Net}(ok:N.Ok){kept a:v_ BP}(d:∀t∈kept,t∈N.ts)(nd:kept.Nodup)(b:a.Perm kept)(c:Hm a):(#[N.ps,a]:Net)=sub N kept:=by
 congr 1
 refine Kb ((pC (b.nodup_iff.mpr nd)^(CD ok.trise).filter _).mpr λt=>?_) c^Lr^ok.trise.filter _;rw[b.mem_iff]
 simp_all
def Wk.mono{N a:Net}(h:∀t∈N.ts,t∈a.ts){s x:Str}{d:Int}(b:Wk N s x d):Wk a s x d:=by
 induction b with
 |nil=>exact .nil
 |snoc _ c e=>
  refine .snoc e ?_;let#[t,f,z]:=lN.mp c;exact lN.mpr #[t,h t f,z]
theorem LR{f g:Type}:∀{l:v_ (f×g)},(l.map (·.1)).Nodup->∀{p q:f×g},p∈l->q∈l->p.1=q.1->p=q
 |a::l,d,p,q,h,i,e=>by
  rw[ju,ja]at d
  rcases UF.mp h with b|b <;>rcases UF.mp i with c|c
  .rw[b,c]
  .grind
  .exact absurd (TM.mpr #[p,b,by rw[e,c]]) d.1
  .exact LR d.2 b c e
def ZO{N:Net}(ok:N.Ok){x y:Str}{l:Int}(h:Ed N x y l):look N.ts x y=P3 l:=by
 unfold look;cases e:(EA _ x).find? _ with
 |none=>exact absurd (List.find?_eq_none.mp e _ h)^by simp
 |some q=>
  have a:=of_decide_eq_true^oW (p:=λz=>decide _) e;rw[LR (U_ ok x) (mM e) h a];rfl
section
variable {ss:v_ Slot}{n:Nat}{Pd:D->Nat->Prop}
def Um(h:PN ss n Pd):Qo (EE Pd) n (ss++T0 0 .no):=by
 let#[N,z,s,rfl,c,d,p]:=h;unfold Qo;refine#[_,AJ (j:=0) rfl,z,_,rfl,c,by simp_all,#[λx a=>?_,λx a y e f i k l=>?_],λm o q=>?_]
 .let#[t,_,rfl]:=TM.mp a
  exact#[E6 t,rfl,lI _ _]
 .let#[t,_,rfl]:=TM.mp a
  let#[u,_,rfl]:=TM.mp e;cases(show P3^E6 t=P3 f from k);cases(show P3^E6 u=P3 i from l);rfl
 .let#[b,r,rfl]:=Pa (g:=cS) (λ_=>rfl) o
  exact#[z2,p b r^Ti q]
end
def thn(N:Net)(a:v_ BP):Prop:=(∀t∈a,t∈N.ts)/\a.Pairwise By
def Tr(N:Net)(a:v_ BP):v_ BP:=N.ts.filter λt=>decide (t∉a)
abbrev IH(w:v_ Str):D:=.tup^w.map .str
def ie(t b:Int):Prop:=1<=b/\b<=1000000/\1<=t/\t<=1000000
def S1(k:Nat)(M:Net)(a b:Str)(w:v_ Str)(d:Int):Prop:=(∃r,w=a::r)/\w.getLast?=P3 b/\walk M w d/\w.length<=k/\∀x∈w,x∈M.ps
theorem thn.okN{N:Net}(a:okN N){b:v_ BP}(h:thn N b):okN #[N.ps,b]:=#[WR a.1 h.1 h.2,a.2.1,by
 have:=sub_len (CD h.2) (CD a.1.trise) h.1
 have:=a.2.2
 grind]
theorem thn.thinB{N:Net}{a:v_ BP}(h:thn N a):thinB N^enc #[N.ps,a]=t_:=thinB_iff.mpr #[a,rfl,h.1,h.2]
theorem Hc{N:Net}(ok:N.Ok){s x:Str}:∀(k:Nat) (d:Int),d.toNat<=k->Wk N s x d->∃e,Least N s x e/\e<=d
 | k,d,g,h=>by
  by_cases c:∃a,Wk N s x a/\a<d
  .let#[a,b,lt]:=c
   have i:=b.pos ok
   match k with
   |0=>lk
   |k+1=>
    let#[e,j,f]:=Hc ok k a (by lk) b
    grind
  .exact#[d,#[h,λa b=>mL λz=>c #[a,b,by lk]],mO _]
section
def Wk.cons{N:Net}{x y z:Str}{l d:Int}(e:Ed N x y l)(h:Wk N y z d):Wk N x z (l+d):=by
 induction h with
 |nil=>rw[Int.add_comm];exact .snoc .nil e
 |snoc h f a=>rw[←Int.add_assoc];exact .snoc a f
theorem II{N:Net}(ok:N.Ok){b:Str}:∀{w:v_ Str}{d:Int},walk N w d->w.getLast?=P3 b->∀x∈w,∃e,Wk N x b e/\e<=d
 |[],_,h,_,_,_=>h.elim
 |[y],d,h,a,x,c=>by
  cases a;rw[Tk.mp c,show d=0 from h];exact#[0,.nil,mO _]
 | y::z::r,d,h,a,x,c=>by
  let#[l,f,g,i,rfl]:=h;rw[List.getLast?_cons_cons]at a
  have:=(g.pos ok).1
  rcases UF.mp c with rfl|c
  .let#[e,j,k]:=II ok i a z Rs
   exact#[l+e,Wk.cons g j,by lk]
  .let#[e,j,k]:=II ok i a x c
   grind
end
def Ud:D->v_ Str
 |.tup a=>strsOf a
 |_=>[]
def dI(M:Net)(a b:Str)(d:D):D:=match SG M d with
 |.int l=>if((Ud d).head?==P3 a&&(Ud d).getLast?==P3 b)=t_ then .int l else .non
 |_=>.non
def UQ:W2:=λc n P=>∃(M:Net) (a b:Str) (d:D),c=[.sh^enc M,.sh^.str a,.sh^.str b,.sh d]/\okN M/\Dv d/\P (dI M a b d) n
def Dr:Ac:=(Ae (A3 4^AR cv^AB (AE^AC 0)^AB (AE^AC 3) AQ)
 (Ae (BC (EI (AZ^AX (Di u_) (AC 4)^wC D.non)^EI (AZ^AX (J7 t_) (AX Az (AC 3)^wC^D.int 0)^AC 1)^AZ^AX (J7 t_) (AX Az (AC 3)^Nn^wC^D.int 1)^AC 2) (Aq^wC D.non) Av)
 (Aq^AC 4)))
def NL(M:Net)(d:D):SG M d=.non\/∃(x:Str) (r:v_ Str) (l:Int),d=IH (x::r)/\SG M d=.int l:=by
 cases d with
 | tup g=>
  by_cases b:g.all Dg=t_
  .let#[a,rfl]:=Kc b
   have e:SG M^.tup^a.map .str=XX M a:=by
    show(if(a.map D.str).all Dg then XX M^strsOf^a.map .str else .non)=_;rw[if_pos b,Ec]
   rw[e];cases a with
   |nil=>exact .inl rfl
   | cons x r=>
    show(if x∈M.ps then Nt.WZ^IZ M.ts x r 0 else .non)=.non\/_
    by_cases f:x∈M.ps
    .rw[if_pos f]
     cases c:IZ M.ts x r 0 with
     |none=>exact .inl rfl
     |some l=>exact .inr #[x,r,l,rfl,by show(if x∈M.ps then Nt.WZ^IZ M.ts x r 0 else .non)=_;rw[if_pos f,c];rfl]
    simp_all
  .exact .inl^if_neg b
 |_=>exact .inl rfl
def NO(M:Net)(a b:Str)(d:D):dI M a b d=.non\/∃l,dI M a b d=.int l:=by
 unfold dI
 split
 .split
  .grind
  grind
 grind
def C7{a:v_ D}(h:Dv^.tup a){d:D}(hd:d∈a):Dv d:=by
 have b:Ct a<=160000:=h.2.1;have c:IG a+1<=50:=h.2.2
 have:=TD hd
 have:=dps_le.mp (Op _) d hd
 exact#[fines_iff.mp h.1 d hd,by lk,by lk]
def Xa{N:Net}{a:v_ BP}:(N.ts.map Aj).filter (λd=>!((a.map Aj).any λy=>DQ y d))=(Tr N a).map Aj:=by
 rw[oX]
 congr 1
 refine pL λt _=>?_;show(!((a.map _).any _))=decide _;rw[Ou,decide_not]
section
variable {ss:v_ Slot}{n:Nat}{Pd:D->Nat->Prop}
def Yy(h:UQ ss n Pd):Dr (EE Pd) n (ss++T0 1 .no):=by
 let#[M,a,b,d,rfl,c,k,p]:=h;unfold Dr;exists M,d,rfl,c.1,by have:=c.2.1;lk,c.2.2,k;unfold dI at p
 rcases NL M d with e|⟨x,r,l,rfl,e⟩
 .rw[e]at p ⊢
  exact#[rfl,p]
 .rw[e]at p ⊢
  have m:Ud^IH (x::r)=x::r:=Ec _;simp only[m]at p;obtain⟨y,f⟩:∃y,(x::r).getLast?=P3 y:=#[_,List.getLast?_eq_some_getLast^by simp];exists rfl,.str x,AJ (j:=0) rfl;show if(!(x==a))=t_ then _ else _
  rw[f]at p;have p:Pd (if(P3 x==P3 a&&P3 y==P3 b)=t_ then .int l else .non) n:=p;rw[qF,qF]at p;cases g:x==a with
  |false=>rw[g]at p;exact Bv p
  |true=>
   rw[g]at p;refine Bl #[1,rfl,.str y,ZQ f,?_];show if(!(y==b))=t_ then _ else _
   cases i:y==b with
   |false=>rw[i]at p;exact Bv p
   |true=>rw[i]at p;exact Bl p
def fI(d e:D):lq ("word":Str)^(["word","number"]:v_ Str).zip [d,e]=P3 d:=rfl
def fH(d e:D):lq ("number":Str)^(["word","number"]:v_ Str).zip [d,e]=P3 e:=by simp[lq];rw[show(("number":Str)=="word")=u_ by cbv]
end
def YI{M:Net}(ok:M.Ok){a x:Str}{K:Kn}(T:LTold M a K){c:Int}(e:K x=P3 c)(h:x≠a):∃y b l,K y=P3 b/\look M.ts y x=P3 l/\b+l=c:=by
 let#[i,j]:=T.least x c e;cases i with
 |nil=>exact absurd rfl h
 | @snoc y _ d l w f=>
  have k:=T.all y d w;cases g:K y with
  |none=>exact absurd g k
  |some b=>
   let#[m,n]:=T.least y b g;exists y,b,l,g,ZO ok f
   have:=n d w
   have:=j _^.snoc m f
   omega
structure i6 (M:Net) (K:Kn) (acc:List Str) (x:Str):Prop where
 lst:acc.getLast?=P3 x
 nd:acc.Nodup
 ins:∀u∈acc,u∈M.ps
 far:∀dx,K x=P3 dx->∀u∈acc,∃du,K u=P3 du/\dx<=du
end Nt
namespace L2
open PySem.AutoSeq1 (wpAny_loadPart')
def Yl{prog:jM}{w:jT}{A:jY}{R:Result->Go->Prop}{s:Go}(t:Db)(items:Array Ev)(n:Nat)(x:Ev)(e:Ev->Bool)(j:Nat)(hj:j<items.size)(hit:e items[j]=t_)(hno:∀m (hm:m<items.size),m<j->e items[m]=u_)
  (hl:s.heap.get? t=P3 {cls:=.type "tuple",dict:=s_,data:=.seq items n,slots:=#[]}) (he:∀y,y∈items->PySem.SeqAt.EqAt A.in1 s y x^e y)
  (h:R (.ok^.ret^.int (j:Int) s.toks) {s with toks:=s.toks+1}):
  wpAny (model prog w) A.in1 (kz.«tuple.index» #[[.ref t,x],[]]) (λfin s'=>match fin with|.done f=>R (.ok f) s'|.again c'=>c'.quiet=t_/\codeAny (model prog w) A c' R s') (λe s'=>R (.error e) s') s:=by
 let#[hp,g,d,tk,os]:=s
 wp_walk using kN hl
 have go:∀(Q:w_ _×Unit->Go->Prop) (E:Ev->Go->Prop),(∀r,Q (P3 r,()) #[hp,g,d,tk+1,os]\/True)->∀(k i:Nat),i<=j->i+k=items.size->
   (∀r:Fin,r=.done^.ret^.int (j:Int) tk->Q (P3 r,()) #[hp,g,d,tk+1,os])->
   wpAny (model prog w) A.in1 (forIn (List.range' i k 1) ((s_:w_ Fin),()) (fun(i:Nat) __s=>match items[i]? with
      | some y=>do
       let __do_lift ←eqBool y x
       if __do_lift=t_ then do
         let __do_lift ←retInt (i:Int)
         pure (ForInStep.done (P3 __do_lift,()))
        else pure^lW (s_,())
      |x=>pure^lW (s_,()))) Q E #[hp,g,d,tk,os]:=by
  intro Q E _ k
  induction k with
  |zero=>intro i h1 h2;lk
  | succ k ih=>
   intro i h1 h2 hQ;have hlt:i<items.size:=by lk
   rw[List.range'_succ,nP];have hi:items[i]?=P3 items[i]:=kZ hlt;simp only[hi];refine Ch^Ch^he _ (pJ hlt) prog w _ _ ?_
   by_cases c:i=j
   .subst c
    rw[hit]
    wp_walk
    exact hQ _ rfl
   .rw[hno i hlt^by lk]
    wp_walk
    exact ih (i+1) (by lk) (by lk) hQ
 show wpAny (model prog w) A.in1 (forIn [:min items.size items.size] ((s_:w_ Fin),()) _) _ _ _;rw[Std.Legacy.Range.forIn_eq_forIn_range']
 have er:List.range' (Std.Legacy.Range.start [:min items.size items.size]) (qA [:min items.size items.size])^Std.Legacy.Range.step [:min items.size items.size]=List.range' 0 items.size 1:=by
  simp[qA]
 rw[er];refine go _ _ (λ_=>.inr trivial) items.size 0 (eq _) (Nat.zero_add _) λr er=>?_;subst er;exact Re h
section
variable {X:Cx}
def eF:V->v_ V->Hp->VK->Prop:=λx g H Q=>∃(a:Db) (c:v_ V) (y:V) (b:v_ nR) (d:nR) (j:Nat),x=.ref a/\g=[y]/\H a=P3^.tup c/\RVs H b c/\RV H d y/\lZ b=t_/\d.canLay0=t_/\d.depth<=100 /\
 (∃e,b[j]?=P3 e/\kE e d=t_)/\(∀m f,m<j->b[m]?=P3 f->kE f d=u_)/\Q (.int (j:Int)) H
def bu{k:Nat}(O:Room k X.A):dM X "tuple.index" eF:=by
 intro P s Z H x vs v us Q I S T h;let#[l,U,y,b,d,j,rfl,rfl,V,f,W,C,Y,dd,#[dj,hj,a0],g,q]:=h;cases S;let#[u,rfl,ru]:=T.one;let#[z,a,r,#[#[a1,dt,D,sl],e,E,n,G,J,K]]:=(show ObjOk X.prog X.w H s.heap l^.tup U from I.hok l _ V);simp only at E G J K;subst E G J K;let#[as,ra]:=RVs.reads I f r;let#[bs,rb]:=RV.reads I W ru;have L:=PySem.SeqAt.readsAll_map b a as C ra;have M:b.length=a.length:=by rw[←L,No]
 have hu:=O.un;have N:min (kj b) d.depth<=d.depth:=nC _ _
 have i:∀m o,b[m]?=P3 o->∀(h:m<a.toArray.size),PySem.SeqAt.readOf s.heap a.toArray[m]=o:=λm o e h=>by
  rw[←L,jG]at e;have h':m<a.length:=by simpa using h
  simp_all
 have a2:j<a.length:=by grind
 have p:=Yl (prog:=X.prog) (w:=X.w) (A:=X.A) (R:=wants (EP X P Z Q) X.xe) l a.toArray n u (λy=>kE (PySem.SeqAt.readOf s.heap y) d) j (by lk) (by simp_all) (λm t B=>by
  have c:m<b.length:=by simp_all
  rw[i m b[m] (On c) t];exact g m b[m] B (On c)) e (PySem.SeqAt.items_eqAt (vs:=a.toArray) (by lk) rb C Y^by lk) #[.int j,H,I.tok _,#[_,rfl],q]
 exact lU^mJ PySem.F.slot_tuple_index.plain PySem.F.entry_tuple_index^PySem.F.slot_tuple_index.check _ _ _ _ _ _ _ _ #[_,e,rfl] (PySem.F.args_tuple_index_2 _ _) p
def gc(r:V->v_ V->Hp->VK->Prop)(d:TE)(t:TA):TE:=λZ H Q=>d Z H λx c=>(∃a b,x=.ref a/\c a=P3^.tup b)/\t Z c λb H2=>r x b H2 Q
def bY{o e:jX}{f:v_ jX}{u:TE}{t:TA}{name:Str}{d c:Pos}{l:String}{r:V->v_ V->Hp->VK->Prop}(j:Slot "tuple" name l)(p:typeOf^.builtin l=pure^.type "method_descriptor")(B:dM X l r)(C:PE X o u)(D:PA X (e::f) t)
  (g:attributeBase o name X.env^eval o X.env=eval o X.env:=by rfl)
  (k:((backTo c^starEach (e::f) X.env).all (λx=>!x.1)&&(backToKw c^keywordEach [] X.env).all (λx=>x.1.isSome)
   && decide ((e::f).length+([]:v_ lh).length+(if([]:v_ lh).isEmpty then 0 else 1)<30))=t_:=by rfl)
  (i:(d.endLine==c.line)=t_:=by rfl) (E:starEach (e::f) X.env=(u_,eval e X.env)::starEach f X.env:=by rfl) (m:(backTo c^starEach f X.env).any (·.1)=u_:=by rfl):
  PE X (.Call (.Attribute o name d) (e::f) [] c) (gc r u t):=by
 intro q s Z H Q I h;refine wpAny_Call_method_late g k i rfl (thn (C q s Z H _ I h) λv G #[x,J,w,y,#[a,xs,ex,K],L]=>?_);subst ex;have M:v=jE a:=y;subst M;let#[z,N,_,o,O,P,n,e3,e4,e5]:=(w.hok a _ K);refine#["tuple",l,PySem.F.plainAttrs_tuple,j,p,#[o,O,P],λb eb=>by simp_all,?_];have A:=D c q G Z J _ w L;rw[E]at A ⊢;refine lr (by grind)^nB ?_;exact thn A λR S #[T,H2,U,W,Y]=>B q S Z H2 (.ref a) T (.ref a) R Q U y W Y
end
end L2
namespace Dp
open L2
section
variable {X:Cx}{zU:Kd}{a e:Expr}{es:v_ Expr}{wa:DW}{ws:Ea}
def fT(d:D)(c:v_ D)(P:D->Prop):Prop:=∃(b:v_ D) (y:D) (j:Nat),d=.tup b/\c=[y]/\Cd^.tup b/\Cd y/\(∃x,b[j]?=P3 x/\DQ x y=t_)/\(∀m x,m<j->b[m]?=P3 x->DQ x y=u_)/\P^.int (j:Int)
def aj(c:DW)(ws:Ea):DW:=λn b P=>c n b λd e=>(∃f,d=.tup f)/\ws e b λg h=>fT d g λz=>P z h
def fg{K:Frag}:i7 K .sh "tuple" eF fT:=by
 intro U M H d F x G P Q k I l n w q;let#[h,y,j,rfl,rfl,#[o,r,_],#[s,t,u],#[J,b,c],f,w]:=w;let#[v,rfl,z]:=FK n;let#[a,A,rfl,B,C]:=l.tup
 have g:∀(m:Nat) (p:nR),(Bp h)[m]?=P3 p->∃x,h[m]?=P3 x/\p=toPy x:=λm p e=>by
  rw[DX,jG]at e;let#[x,i,rfl]:=jx.mp e
  grind
 refine#[a,A,v,_,_,j,rfl,rfl,B,C.rv o,z.rv s,r,t,u,#[_,by rw[DX,jG,b];rfl,c],λm p D e=>?_,q _ H (.int j) .refl rfl w];let#[E,i,rfl]:=g m p e;exact f m E D i
def X6{k:Nat}{f b:Pos}(E:Room k X.A)(G:DE X a zU wa)(I:aX X (e::es) ws)
  (h:attributeBase a "index" X.env^eval a X.env=eval a X.env:=by rfl)
  (j:((backTo b^starEach (e::es) X.env).all (λx=>!x.1)&&(backToKw b^keywordEach [] X.env).all (λx=>x.1.isSome)
   && decide ((e::es).length+([]:v_ lh).length+(if([]:v_ lh).isEmpty then 0 else 1)<30))=t_:=by rfl)
  (i:(f.endLine==b.line)=t_:=by rfl) (s:starEach (e::es) X.env=(u_,eval e X.env)::starEach es X.env:=by rfl) (c:(backTo b^starEach es X.env).any (·.1)=u_:=by rfl):
  DE X (.Call (.Attribute a "index" f) (e::es) [] b) .sh (aj wa ws):=by
 let#[t,J,K]:=G;let#[u,L,N]:=I;refine#[_,bY PySem.F.slot_tuple_index PySem.F.type_tuple_index (bu E) J L h j i s c,λC M H n y Z P Q R w q=>?_];refine K C M H n y Z _ _ R w λx O d S o T U p=>?_;have r:=R.step o T;have B:=U.tpOf R.dom R.vM;let#[#[W,rfl],p]:=p;refine#[by let#[a,Y,rfl,hn,s]:=B.tup;exact#[a,Y,rfl,hn],?_];refine N C M O S y Z _ _ r p λvs H2 ds n2 l D r2 p2=>?_;have m:=r.step l D;refine fg C.V M H2 (.tup W) ds x vs _ _ m.dom m.vM (B.pres (r.pres l) l R.uV) r2 p2 λv H3 z g vr pz=>?_;exact q v H3 z n2 ((o.trans l).trans g.ext) (D.grow g) (VR.back (o.trans l) vr) pz
end
end Dp
namespace Nt
open L2 Dp
def Xq:D->Bool
 |.int i=>decide (0<=i)
 |_=>u_
def dH(N:Net):D->Bool
 |.tup a=>((a.length:Int)==(N.ps.length:Int))&&a.all Xq
 |_=>u_
def gq:D->Int
 |.int i=>i
 |_=>0
def K9(N:Net)(b:v_ D)(a:Str):Int:=gq^(BY (N.ps.map .inr) b^.inr a).getD .non
def Qx(i:Int):Int:=if i<0 then -i else i
def JY(N:Net):D->Bool
 |.tup c=>dH N^.tup c&&N.ts.all λt=>decide (Qx (K9 N c t.a - K9 N c t.b)<=t.len)
 |_=>u_
def MZ(m:Int):w_ Int->Int
 |some d=>if d<m then d else m
 |none=>m
def PK:W2:=λa n P=>∃(N:Net) (d:D),a=[.sh^enc N,.sh d]/\okN N/\P (.bl^dH N d) n
def YR:W2:=λd n P=>∃(N:Net) (c:v_ D) (a b:Str),d=[.sh^enc N,.sh^.tup c,.sh^.str a,.sh^.str b]/\okN N/\c.length=N.ps.length/\(∀x∈c,Xq x=t_)/\a∈N.ps/\b∈N.ps/\P (.int^Qx (K9 N c a - K9 N c b)) n
def UR:W2:=λa n P=>∃(N:Net) (d:D),a=[.sh^enc N,.sh d]/\okN N/\P (.bl^JY N d) n
def PL:W2:=λa n P=>∃(N:Net) (s:Str) (m:Int),a=[.sh^enc N,.sh^.str s,.sh^.int m]/\okN N/\s∈N.ps/\∀F:L_,Told N s F->P (.tup (N.ps.map λx=>.int (MZ m ((F x).map (·.1))))) n
def Gb:Ac:=(Aq^F_ (AR CF^AB (AE^CI EB^AF (AX Az (AC 0)^wC^D.int 0) AV)^AB (AE^AC 1) AQ)^CI MX^AF (Bi [s_] (A0^AC 1) (AT 0) DU^F_ (AR L3^AB (AE^AC 0) AQ)^AX (f2 λi j=>D.bl (decide (j<=i))) (AC 0)^wC^D.int 0) AV)
def Oo:Ac:=(Aq^CI cI^AF (AX GW (AX Az (AC 1)^aj (AX Az (AC 0)^wC^D.int 0)^AF (AC 2) AV)^AX Az (AC 1)^aj (AX Az (AC 0)^wC^D.int 0)^AF (AC 3) AV) AV)
def Lu:Ac:=(Ae (BC (B0^AZ^AR PK^AB (AE^AC 0)^AB (AE^AC 1) AQ) (Aq^wC^D.bl u_) Av)
 (Aq^CI MX^AF (Bi [P3 0,P3 1,s_,s_,s_] (A0^AX Az (AC 0)^wC^D.int 1) (Bz 3^Aa (AT 2)^Aa (AT 3)^Aa (AT 4) BM) DU^AX QW (AR YR^AB (AE^AC 0)^AB (AE^AC 1)^AB (AE^AC 2)^AB (AE^AC 3) AQ)^AC 4) AV))
def Fg:Ac:=(Ae (A3 3^AR Iy^AB (AE^AC 0)^AB (AE^AC 1) AQ)
 (Aq^CI BI^AF (Bi [P3 2,P3 3,s_] (A0^AX Az (AC 0)^wC^D.int 0) (AT 2) DU^dY (AZ^AX (GC u_) (AC 2)^AC 1) (CI NU^AF (AC 0)^AF (AX Az (AX Bx (AC 1)^AC 2)^wC^D.int 0) AV)^AC 0) AV))
theorem S8:∀{b:v_ Key}{a:v_ D}{k:Key}{z:D},BY b a k=P3 z->z∈a
 |[],_,k,z,h=>by cases h
 |_::_,[],k,z,h=>by cases h
 |e::b,d::a,k,z,h=>by
  have c:(if e=k then P3 d else BY b a k)=P3 z:=h
  split at c
  .grind
  .exact Sc _^S8 c
theorem WD:∀{b:v_ Str}{c:v_ D}{j:Nat}{a:Str},b.Nodup->b[j]?=P3 a->BY (b.map .inr) c^.inr a=c[j]?
 |[],c,j,a,_,h=>by simp at h
 |p::b,[],j,a,_,h=>by rfl
 | p::b,x::c,j,a,d,h=>by
  rw[ja]at d;show(if kg p=.inr a then P3 x else BY _ c _)=_;cases j with
  |zero=>
   grind
  |succ j=>
   rw[if_neg λz=>d.1 (by rw[lu z];exact jo h),WD d.2 h];simp
def ge_int{d:D}(h:Xq d=t_):∃i,d=.int i/\0<=i:=by
 cases d with
 |int i=>exact#[i,rfl,of_decide_eq_true h]
 |_=>cases h
def Yw{c:v_ Str}(h:rising c):c.Nodup:=List.Pairwise.imp (λ{a b} z e=>by grind) h
def gS{N:Net}{b:v_ D}(f:b.length=N.ps.length)(d:∀x∈b,Xq x=t_){a:Str}(e:a∈N.ps):BY (N.ps.map .inr) b^.inr a=P3^.int^K9 N b a:=by
 let#[z,c]:=IN (ds:=b) (by grind)^TM.mpr #[a,e,rfl];let#[i,rfl,_]:=ge_int^d z^S8 c;unfold K9;rw[c];rfl
section
variable {ss:v_ Slot}{n:Nat}{Pd:D->Nat->Prop}
def K3(h:PK ss n Pd):Gb (EE Pd) n (ss++T0 0 .no):=by
 let#[N,d,rfl,c,p]:=h;have f:=c.2.1;unfold Gb;exists _,AJ (j:=0) rfl,_,_,rfl,rfl,_,d,rfl;cases d with
 | tup a=>
  have g:Pd (.bl (((a.length:Int)==(N.ps.length:Int))&&a.all Xq)) n:=p;rw[No];refine Sf (b1:=((a.length:Int)==(N.ps.length:Int))) (λk l=>?_) g;have o:a.length=N.ps.length:=by have:=beq_iff_eq.mp k;lk
  refine#[by show a.length<=10000000;lk,?_];refine Ba (λd=>.bl^Xq d) (λe=>∃s,e=[s]) _ _ _ _ ?_ #[_,rfl] ?_
  .rintro d q e m r ⟨s,rfl⟩ b
   exists[d],rfl,rfl;cases d with
   |int i=>exact b _ #[_,rfl]
   |_=>exact b _ #[_,rfl]
  .rw[jQ]
   exact FW (p:=Xq) (P:=λz=>Pd z n) l
 |_=>exact p
def aH{N:Net}(b:okN N){d:v_ D}(k:d.length=N.ps.length)(l:∀x∈d,Xq x=t_){a:Str}(f:a∈N.ps):∃j:Nat,d[j]?=P3^.int^K9 N d a/\Cd^.tup^N.ps.map .str/\Cd^.str a/\(∃x,(N.ps.map D.str)[j]?=P3 x/\DQ x^.str a=t_)/\∀(m:Nat) (x:D),m<j->(N.ps.map D.str)[m]?=P3 x->DQ x^.str a=u_:=by
 have g:=Yw b.1.rise;let#[j,h]:=mC.mp f;refine#[j,by rw[←WD g h,gS k l f],Ic b.1.names,?_,#[.str a,by simp_all,by rw[Hf,beq_self_eq_true]],λm x s i=>?_]
 .exact Cb (B:=0) (by cbv) (λc o=>by have:=(b.1.names a f).2.2 c o;lk)^eq _
 .rw[jG]at i
  let#[y,p,rfl]:=jx.mp i;rw[Hf,beq_eq_false_iff_ne];intro e;subst e;let#[t,q]:=ZB.mp p;let#[u,r]:=ZB.mp h
  have:=(List.getElem_inj g).mp^q.trans r.symm
  omega
def MG(h:YR ss n Pd):Oo (EE Pd) n (ss++T0 0 .no):=by
 let#[N,v,a,b,rfl,d,e,f,g,k,p]:=h;let#[i,l,c,m,o,q]:=aH d e f g;let#[j,r,_,s,t,u]:=aH d e f k;exact#[_,AJ rfl,#[_,rfl],_,_,i,rfl,rfl,c,m,o,q,_,AJ l,_,AJ rfl,#[_,rfl],_,_,j,rfl,rfl,c,s,t,u,_,AJ r,p]
def P1(h:UR ss n Pd):Lu (EE Pd) n (ss++T0 0 .no):=by
 let#[N,d,rfl,e,p]:=h;have ok:=e.1;have u:=e.2.2;unfold Lu;exists N,d,rfl,e;show if(!(dH N d))=t_ then _ else _
 cases g:dH N d with
 | false=>
  have:JY N d=u_:=by
   cases d with
   |tup c=>show(dH N^.tup c&&_)=u_;rw[g];rfl
   |_=>rfl
  rw[this]at p;exact Bv p
 | true=>
  cases d with
  | tup c=>
   have f:(((c.length:Int)==(N.ps.length:Int))&&c.all Xq)=t_:=g;rw[jN]at f;have v:c.length=N.ps.length:=by have:=beq_iff_eq.mp f.1;lk
   have w:∀x∈c,Xq x=t_:=kr.mp f.2;have k:Pd (.bl (dH N^.tup c&&N.ts.all λt=>decide (Qx (K9 N c t.a - K9 N c t.b)<=t.len))) n:=p;rw[g,Bool.true_and]at k;refine Bl #[_,AJ (j:=1) rfl,by show(N.ts.map Aj).length<=10000000;rw[No];lk,?_];refine Ba (λd=>match d with|.tup [.str a,.str b,.int l]=>.bl (decide (Qx (K9 N c a - K9 N c b)<=l))|_=>.non) (λo=>∃q r s,o=[.sh^enc N,.sh^.tup c,q,r,s]) _ _ _ _ ?_ #[_,_,_,rfl] ?_
   .rintro d y o m D ⟨q,r,s,rfl⟩ i
    let#[t,A,rfl]:=TM.mp y;let#[B,C,_]:=ok.tin t A;exact#[rfl,rfl,N,c,t.a,t.b,rfl,e,v,w,B,C,i _ #[_,_,_,rfl]]
   .rw[jQ,kh]
    exact FW (p:=λt:BP=>decide (Qx (K9 N c t.a - K9 N c t.b)<=t.len)) (P:=λz=>Pd z n) k
  |_=>cases g
def Jn(h:PL ss n Pd):Fg (EE Pd) n (ss++T0 1 .no):=by
 let#[N,s,m,rfl,b,i,p]:=h;have k:=b.2.1;unfold Fg;refine#[N,s,rfl,b,i,λc e F M T=>?_];refine#[_,AJ (j:=0) rfl,by grind,?_];refine Ba (λd=>match d with|.str x=>.int (MZ m ((F x).map (·.1)))|_=>.non) (λf=>∃g,f=[.sh^.int m,.sh^.dic c e,g]) _ _ _ _ ?_ #[_,rfl] ?_
 .rintro d l f o r ⟨g,rfl⟩ a
  let#[x,t,rfl]:=TM.mp l;exists c,e,_,rfl,A2 x;show if((BY c e^.inr x).isSome)=t_ then _ else _
  have a:r (.int (MZ m ((F x).map (·.1)))) o [.sh^.int m,.sh^.dic c e,.sh^.str x]:=a _ #[.sh^.str x,rfl];rw[M.at_];cases ex:F x with
  |none=>
   rw[ex]at a;exact Bl a
  |some q=>
   rw[ex]at a;exact Bv #[c,e,_,Il q,rfl,A2 x,by rw[M.at_,ex];rfl,_,AJ (j:=0) rfl,a]
 .rw[jQ,kh]
  exact p F T
end
def cW{m:Int}(a:0<=m){o:w_ Int}(b:∀d,o=P3 d->0<=d):0<=MZ m o/\MZ m o<=m:=by
 cases o with
 |none=>exact#[a,mO _]
 |some d=>
  show 0<=(if d<m then d else m)/\(if d<m then d else m)<=m
  grind
end Nt
namespace Dp
open L2
mutual
def flat:D->Bool
 |.tup ds=>Xr ds
 |.lst _=>u_
 |.dic _ _=>u_
 |.fdi _ _=>u_
 |.dit _ _=>u_
 |_=>t_
def Xr:v_ D->Bool
 |[]=>t_
 |d::ds=>flat d&&Xr ds
end
section
variable {K:Frag}{M M':Addr->Prop}{H:Hp}
mutual
theorem ZZ:∀(d:D) {v:V},flat d=t_->At K M H d v->At K M' H d v
 |.non,_,_,h=>h
 |.bl _,_,_,h=>h
 |.int _,_,_,h=>h
 |.str _,_,_,h=>h
 |.tup ds,_,f,#[a,vs,e,n,h]=>#[a,vs,e,n,QU ds f h]
 |.lst _,_,f,_=>by cases f
 |.dic _ _,_,f,_=>by cases f
 |.fdi _ _,_,f,_=>by cases f
 |.dit _ _,_,f,_=>by cases f
theorem QU:∀(ds:v_ D) {vs:v_ V},Xr ds=t_->Ats K M H ds vs->Ats K M' H ds vs
 |[],_,_,h=>h
 |d::ds,_,f,#[v,r,e,h,hs]=>#[v,r,e,ZZ d (jN _ _▸f:_/\_).1 h,QU ds (jN _ _▸f:_/\_).2 hs]
end
end
end Dp
set_option maxHeartbeats 400000
namespace Dp
open L2
end Dp
namespace Nt
open L2 Dp
abbrev ic(t b:Int):D:=.tup [.int t,.int b]
def I_:W2:=λa n P=>∃t b l:Int,a=[.sh^ic t b,.sh^.int l]/\ie t b/\P (.int (l*t / b+1)) n
def Ir:Ac:=(Aq^AX A5 (AX (Vv Vs λi j=>D.int (i / j)) (AX Le (AC 1)^AX Az (AC 0)^wC^D.int 0)^AX Az (AC 0)^wC^D.int 1)^wC^D.int 1)
def T4{M:Net}{a:v_ D}(h:JY M^.tup a=t_):a.length=M.ps.length/\∀x∈a,Xq x=t_:=by
 have h:=(jN _ _▸h).1;have h:=jN _ _▸h
 grind
section
variable {ss:v_ Slot}{n:Nat}{Pd:D->Nat->Prop}
def P2(h:I_ ss n Pd):Ir (EE Pd) n (ss++T0 0 .no):=by
 let#[t,b,l,rfl,#[a,c,d,e],p]:=h;exact#[_,AJ rfl,.inr^by lk,_,AJ rfl,#[by lk,by lk],p]
end
def Za{M:Net}(ok:M.Ok){s x:Str}{o:w_ Int}(h:Far M s x o):∀d,o=P3 d->0<=d:=λd e=>by
 rw[e]at h;exact(h).1.pos ok
end Nt
set_option maxHeartbeats 4000000
namespace Dp
open L2
def S7(j i:Nat)(e:DW):Ac:=λf n a=>∃b c,i≠j/\a[j]?=P3^.ow^.lst b/\a[i]?=P3^.ow^.lst c/\e n a λd g=>∃(k:Nat) (x:D),d=.int (k:Int)/\c[k]?=P3 x/\k<2 ^ 60/\b.length<sizeLine/\f.nx g^(a.set i^.ow^.lst^c.eraseIdx k).set j^.ow^.lst (b++[x])
section
variable {X:Cx}{κ zQ:Kd}{e:Expr}{we:DW}{pos p apos cpos p2 apos2 cpos2:Pos}{x y:Str}{i j:Nat}
abbrev fS(X:Cx)(cpos:Pos)(e:jX):Bool:=((backTo cpos^starEach [e] X.env).all (λx=>!x.1)&&(backToKw cpos^keywordEach [] X.env).all (λx=>x.1.isSome)
   && decide ([e].length+([]:v_ lh).length+(if([]:v_ lh).isEmpty then 0 else 1)<30))
def VY(hy:PE X (.Name y p2)^CA j)(h:PE X (.Name x p)^CA i)(ha:DE X e zQ we)
  (r:attributeBase (.Name x p) "pop" X.env^eval (.Name x p) X.env=eval (.Name x p) X.env:=by rfl) (A:fS X cpos e=t_:=by rfl)
  (s:(apos.endLine==cpos.line)=t_:=by rfl) (B:starEach [e] X.env=(u_,eval e X.env)::starEach [] X.env:=by rfl) (f:(backTo cpos^starEach [] X.env).any (·.1)=u_:=by rfl)
  (g:attributeBase (.Name y p2) "append" X.env^eval (.Name y p2) X.env=eval (.Name y p2) X.env:=by rfl) (u:fS X cpos2^.Call (.Attribute (.Name x p) "pop" apos) [e] [] cpos=t_:=by rfl)
  (l:(apos2.endLine==cpos2.line)=t_:=by rfl) (q:starEach [.Call (.Attribute (.Name x p) "pop" apos) [e] [] cpos] X.env=(u_,eval (.Call (.Attribute (.Name x p) "pop" apos) [e] [] cpos) X.env)::starEach [] X.env:=by rfl) (c:(backTo cpos2^starEach [] X.env).any (·.1)=u_:=by rfl)
  (P:swapsWith (.Call (.Attribute (.Name y p2) "append" apos2) [.Call (.Attribute (.Name x p) "pop" apos) [e] [] cpos] [] cpos2) s_ pos.line X.env=pure u_:=by rfl):
  DS X κ (.Expr (.Call (.Attribute (.Name y p2) "append" apos2) [.Call (.Attribute (.Name x p) "pop" apos) [e] [] cpos] [] cpos2) pos) (S7 j i we):=by
 let#[t,a1,a2]:=ha;refine#[_,TY (Te PySem.F.plainAttrs_list PySem.F.slot_list_append PySem.F.type_list_append BA hy (BZ (Te PySem.F.plainAttrs_list PySem.F.slot_list_pop PySem.F.type_list_pop QF h (BZ a1 CJ B) r A s B f) CJ q) g u l q c) P,λC M H n ρ Z D2 E R L w=>?_];let#[N,Q,S,hj,T,w]:=w;let#[b,U,m2,V,W]:=R.sl j _ hj;exists .ref b,getD_some U,OU (show fK "list"^.lst N from rfl)^W.att V;let#[a,Y,m,nv,tt]:=R.sl i _ T;exists .ref a,getD_some Y,OU (show fK "list"^.lst Q from rfl)^tt.att nv;refine a2 C M H n ρ Z _ _ R w λv H1 d n1 ee f1 r1 p=>?_;let#[k,z,rfl,hx,hk,hl,p]:=p;have R1:=R.step ee f1;let#[a',D,m',a6,O,hH,G]:=R1.sl i _ T;rw[Y]at D;cases D;let#[v',ev,hv]:=G.get hx;have a0:k<O.length:=(ZB.mp ev).1;exists a,O,(k:Int),k,v',rfl,by rw[Ij r1],hH,by lk,by lk,M6 a0,ev;have R2:=R1.mut (e:=.lst^Q.eraseIdx k) T Y (o:=.lst^O.eraseIdx k) #[O.eraseIdx k,Ah,(G.eraseIdx k).pres^CP m' hH];have I:(ρ.set i^.ow^.lst^Q.eraseIdx k)[j]?=P3^.ow^.lst N:=by rw[nA S];exact hj
 let#[b',J,a3,a5,us,a4,K]:=R2.sl j _ I;rw[U]at J;cases J;exact DB M _ b (.lst N) [z] [v'] _ _ a3 #[us,a4,K] (Ats.one^hv.pres^CP m' hH) #[N,z,rfl,rfl,hl,p] λo d' zz vv t2 hz pp=>L.nx M _ n1 _ Z (R2.mut I U t2) pp
end
end Dp
namespace Nt
open L2 Dp
def L8:W2:=λb n P=>∃m:Nat,b=[.fd,.sh^.int m]/\m<=24/\1<=n/\∀a:v_ Str,a.length=m->(∀x∈a,SI x)->rising a->P (.tup^a.map .str) (n - 1)
def PR:W2:=λa n P=>∃s:Int,a=[.fd,.sh^.int s]/\0<=s/\1<=n/\∀r:Int,1<=r->r<=1000000->P (.int r) (n - 1)
def Sy:W2:=λd n P=>∃a b:Nat,d=[.fd,.sh^.int a,.sh^.int b]/\2<=a/\a<=24/\3<=b/\b<=60/\130<=n/\∀(N:Net) (c:Nat),N.Ok->2<=N.ps.length->N.ps.length<=a->N.ts.length<=b->n - 130<=c->P (enc N) c
def Fo:Ac:=(Ae (A3 2^CG^AF (wC^D.str "a")^AF (wC^D.str "ab")^AF (wC^D.str "aba")^AF (wC^D.str "b")^AF (wC^D.str "in")^AF (wC^D.str "out")^AF (wC^D.str "place")^AF (wC^D.str "tie")^AF (wC^D.str "c")^AF (wC^D.str "ca")^AF (wC^D.str "near")^AF (wC^D.str "z") AV)
 (Ae (A3 2^AX A5 (AC 2)^CG^AF (wC^D.str "za")^AF (wC^D.str "zb")^AF (wC^D.str "x")^AF (wC^D.str "xy")^AF (wC^D.str "y")^AF (wC^D.str "q")^AF (wC^D.str "qq")^AF (wC^D.str "d")^AF (wC^D.str "e")^AF (wC^D.str "f")^AF (wC^D.str "g")^AF (wC^D.str "h") AV)
 (Ae (A3 3^AR Bn^AB (A_ 0)^AB (AE^wC^D.int 24) AQ)
 (Aq^CI BI^AF (CI Xs^AF (Bi [P3 2,P3 3,s_] (KR^AF (AC 1) AV) (AT 2) DU^AX Az (AC 0)^AX (Vv (λ_ j=>0<j) λi j=>D.int (i % j)) (AX A5 (AC 1)^AC 2)^wC^D.int 24) AV) AV))))
def E3:Ac:=(Ae (BC (AZ^AX FV (AC 1)^wC^D.int 3) (Aq^AX A5 (wC^D.int 1)^AR Bn^AB (A_ 0)^AB (AE^AX Az (CG^AF (wC^D.int 2)^AF (wC^D.int 4)^AF (wC^D.int 9) AV)^AC 1) AQ) Av)
 (Ae (BC (AZ^AX (J7 u_) (AC 1)^wC^D.int 3) (Aq^AX A5 (wC^D.int 1)^AR Bn^AB (A_ 0)^AB (AE^wC^D.int 60) AQ) Av)
 (Aq^AX GW (AX (Vv L9 λi j=>D.int (i ^ j.toNat)) (wC^D.int 10)^wC^D.int 6)^AR Bn^AB (A_ 0)^AB (AE^wC^D.int 3) AQ)))
def Hw:Ac:=(Ae (A3 3^AR L8^AB (A_ 0)^AB (AE^AX A5 (wC^D.int 2)^AR Bn^AB (A_ 0)^AB (AE^AX GW (AC 1)^wC^D.int 1) AQ) AQ)
 (Ae (DL 4^CG AV)
 (Ae (Cs (A0^AC 3) (AT 5)^IL 4 "list" cH^AF (Bi [P3 5,s_] (A0^AC 3) (AT 1) (AZ^AX FV (AC 0)^AC 1)^BK^AF (AC 0)^AF (AC 1) AV) AV)
 (Ae (A3 6^AR Bn^AB (A_ 0)^AB (AE^wC^D.int 5) AQ)
 (Ae (A3 7^AX GW (AC 2)^AR Bn^AB (A_ 0)^AB (AE^AX A5 (AX (Vv Vs λi j=>D.int (i / j)) (AC 2)^wC^D.int 2)^wC^D.int 1) AQ)
 (Ae (BC (AZ^AX (J7 u_) (AR Bn^AB (A_ 0)^AB (AE^wC^D.int 6) AQ)^wC^D.int 0) (A3 7^AR Bn^AB (A_ 0)^AB (AE^wC^D.int 4) AQ) Av)
 (Ae (DL 8^CG AV)
 (Ae (Cs (KR^AF (CI NU^AF (AC 7)^AF (CI EB^AF (As 4) AV) AV) AV) (AT 9) (Ae (ak 4 (AR Bn^AB (A_ 0)^AB (AE^CI EB^AF (As 4) AV) AQ)^Bz 2^Aa (AT 5)^Aa (AT 10) BM)
 (IL 8 "list" EC^AF (BK^AF (AC 5)^AF (AC 10)^AF (AR PR^AB (A_ 0)^AB (AE^AC 6) AQ) AV) AV)))
 (Aq^BK^AF (AC 3)^AF (CI BI^AF (CI CK^AF (As 8) AV) AV) AV)))))))))
def words24:v_ Str:=["a","ab","aba","b","in","out","place","tie","c","ca","near","z","za","zb","x","xy","y","q","qq","d","e","f","g","h"]
def Dw(i:Nat):Str:=words24.getD i "a"
def RI:∀i,i<24->SI^Dw i:=by
 have h:∀i∈je 24,1<=(Dw i).length/\(Dw i).length<=8/\∀c∈cs^Dw i,97<=c/\c<=122:=by decide +kernel
 exact λi a=>h i^lP.mpr a
def UU:∀i j,i<24->j<24->Dw i=Dw j->i=j:=by
 have h:∀i∈je 24,∀j∈je 24,cs^Dw i=cs^Dw j->i=j:=by decide +kernel
 exact λi j a b e=>h i (lP.mpr a) j (lP.mpr b)^congrArg cs e
def V1(i:Nat)(h:i<24):(words24.map D.str)[i]?=P3^.str^Dw i:=by
 have a:i<words24.length:=h;unfold Dw
 simp_all
section
variable {ss:v_ Slot}{n:Nat}{Pd:D->Nat->Prop}
def Ky(h:L8 ss n Pd):Fo (EE Pd) n (ss++T0 2 .no):=by
 let#[m,rfl,o,q,p]:=h;unfold Fo;exists(by cbv:12<=sizeLine),(by cbv:12<=sizeLine),(by cbv:24<=sizeLine);refine#[24,rfl,by cbv,by cbv,q,λfirst w x=>?_];obtain⟨f,rfl⟩:∃f:Nat,first=(f:Int):=#[first.toNat,(by first|exact u0|exact u1|exact u2|exact w0|exact w1|omega)]
 refine#[(m:Int),rfl,#[(by first|exact u0|exact u1|exact u2|exact w0|exact w1|omega),(by first|exact u0|exact u1|exact u2|exact w0|exact w1|omega)],by rw[FH];lk,?_];refine Ba (λd=>match d with|.int k=>.str^Dw ((f+k.toNat) % 24)|_=>.non) (λi=>∃s,i=[.sh^.lst^words24.map .str,.sh^.int f,s]) _ _ _ _ ?_ #[_,rfl] ?_
 .rintro d r i z A ⟨s,rfl⟩ a
  let#[k,l,rfl]:=Ku r;have b:(f+k) % 24<24:=qG _ (by cbv);exists by show(0:Int)<24;decide,.str^Dw ((f+k) % 24),?_
  .rw[show((f:Int)+(0+(k:Int))) % 24=(((f+k) % 24:Nat):Int) by lk]
   exact AJ^V1 _ b
  .have:=a [.sh^.lst^words24.map .str,.sh^.int f,.sh^.int (0+(k:Int))] #[_,rfl]
   rw[show(0+(k:Int))=k by lk]at this ⊢;exact this
 .have e:[]++(GB 0 ((m:Int)).toNat).map (λd=>match d with|.int k=>D.str^Dw ((f+k.toNat) % 24)|_=>.non)=((je m).map λk:Nat=>Dw ((f+k) % 24)).map .str:=by
   unfold GB;rw[jQ,kh,kh,mx];refine List.map_congr_left λk _=>?_
   have:(0+(k:Int)).toNat=k:=by lk
   simp only[Function.comp,this]
  rw[e];refine#[_,_,rfl,Qv _,by rw[No,pI];lk,λc g t=>p c ?_ ?_ ?_]
  .rw[g.length_eq,No,pI]
  .intro y u
   let#[k,_,rfl]:=TM.mp^g.mem_iff.mp u;exact RI _^qG _^by cbv
  .refine MA t^g.nodup_iff.mpr^NH List.nodup_range λj v k l e=>?_
   exact ZL o (lP.mp v) (lP.mp l)^UU _ _ (qG _^by cbv) (qG _^by cbv) e
def Jq(h:PR ss n Pd):E3 (EE Pd) n (ss++T0 0 .no):=by
 let#[s,rfl,f,a,p]:=h;have i:((10:Int) ^ (6:Int).toNat)=1000000:=by cbv
 unfold E3;refine DJ (λc=>?_) λ_=>?_
 .have c:s<3:=of_decide_eq_true c
  let#[z,g,w,rfl,j]:=Qs (p:=λd=>∃w:Int,d=.int w/\1<=w/\w<=9) (xs:=[D.int 2,D.int 4,D.int 9]) (λd k=>by
   grind) f^by lk
  exact#[(by cbv:3<=sizeLine),_,g,w,rfl,(by grind),(by grind),a,λr b e=>p _ ((by lk))^(by lk)]
 refine DJ (λ_=>#[60,rfl,by cbv,by cbv,a,λr b e=>p _ ((by lk))^(by grind)]) λ_=>?_;exact#[#[by cbv,by cbv,by cbv],3,rfl,by cbv,by cbv,a,λr b e=>p _ (by lk)^by lk]
end
def pairD(p:Str×Str):D:=.tup [.str p.1,.str p.2]
def CH(a:Str)(c:v_ Str):v_ (Str×Str):=(c.filter λb=>decide (cs a<cs b)).map λb=>(a,b)
def pairsOf(b c:v_ Str):v_ (Str×Str):=b.flatMap λa=>CH a c
def Sh(a:Str):D->Bool
 |.str b=>decide (cs a<cs b)
 |_=>u_
def Qw(a:Str)(b:v_ Str):[]++((b.map D.str).filter^Sh a).map (λd=>D.tup [.str a,d])=(CH a b).map pairD:=by
 rw[oX,kh];unfold CH;rw[kh];rfl
def JP{c d:v_ Str}{p:Str×Str}(h:p∈pairsOf c d):p.1∈c/\p.2∈d/\cs p.1<cs p.2:=by
 let#[a,e,h]:=lN.mp h;let#[b,f,rfl]:=TM.mp h
 simp_all
def OE{d f:v_ Str}(g:rising d)(e:rising f):(pairsOf d f).Pairwise eL:=by
 unfold pairsOf;rw[List.pairwise_flatMap];refine#[λa _=>?_,g.imp λ{a b} h x e y i=>?_]
 .unfold CH
  rw[m6];exact(e.filter _).imp λ{b c} h=>.inr #[rfl,h]
 .let#[_,_,rfl]:=TM.mp e
  let#[_,_,rfl]:=TM.mp i;exact .inl h
def cY(x:Str):¬cs x<cs x:=mP _
def Xz{l:v_ (Str×Str)}(h:l.Pairwise eL):l.Nodup:=h.imp λ{p q} h e=>by
 subst e
 rcases h with h|⟨_,h⟩ <;>exact cY _ h
theorem D1{c:v_ Str}:∀{b:v_ Str},(pairsOf b c).length<=b.length*c.length
 |[]=>eq _
 |a::b=>by
  have d:=@D1 c b;show(CH a c++pairsOf _ c).length<=_;rw[jD,jC,Nat.add_mul,Nat.one_mul]
  have:(CH a c).length<=c.length:=by unfold CH;rw[No];grind
  omega
theorem Lg{b:Type}:∀{l:v_ b}{k:Nat}{x:b},l[k]?=P3 x->(x::l.eraseIdx k).Perm l
 |[],k,x,e=>by simp at e
 |a::l,0,x,e=>by simp_all
 |a::l,k+1,x,e=>(List.Perm.swap a x _).trans^(Lg (l:=l) e).cons a
def YF{e:v_ BP}(h:Hm e)(nd:(e.map ends).Nodup):e.Pairwise By:=by
 refine(h.and^m6.mp nd).imp λ{s t} #[a,b]=>mL λc=>?_
 by_cases d:By t s
 .have:=Nu d
  grind
 .refine b ?_
  injection Dd _ _ (by rw[ji];exact λz=>c^ekey_iff.mp z) (by rw[ji];exact λz=>d^ekey_iff.mp z)with f i
  injection i with g _
  injection f with f
  injection g with g
  unfold ends;rw[f,g]
def u0{n k j:Nat}(h:k<=n:=by assumption)(e:qB j k=t_:=by rfl):j<=n:=jJ (Nat.le_of_ble_eq_true e) h
def u1{n k j a:Nat}(h:k<=n:=by assumption)(e:qB (j+a) k=t_:=by rfl):j<=n - a:=mN^jJ (Nat.le_of_ble_eq_true e) h
def u2{n k j a b:Nat}(h:k<=n:=by assumption)(e:qB (j+b+a) k=t_:=by rfl):j<=n - a - b:=mN^u1 h e
def u3{n k j a b c:Nat}(h:k<=n:=by assumption)(e:qB (j+c+b+a) k=t_:=by rfl):j<=n - a - b - c:=mN^u2 h e
def u4{n k j a b c d:Nat}(h:k<=n:=by assumption)(e:qB (j+d+c+b+a) k=t_:=by rfl):j<=n - a - b - c - d:=mN^u3 h e
def u5{n k j a b c d f:Nat}(h:k<=n:=by assumption)(e:qB (j+f+d+c+b+a) k=t_:=by rfl):j<=n - a - b - c - d - f:=mN^u4 h e
def v1{a n m j:Nat}(h:a<=n)(e:n - j<=m):a - j<=m:=jJ (Nat.sub_le_sub_right h j) e
def hG{n m j c:Nat}(a:124<=n)(b:n - 2*j<=m)(d:j<c)(e:c<=60):3<=m/\n - 2*(j+1)<=m - 1 - 1:=by lk
def hX{n a m c:Nat}(h:n - 6<=a)(b:a - 2*c<=m)(d:c<=60):n - 130<=m:=by lk
def iO(n:Nat):n - 6<=n - 1 - 1 - 1 - 1 - 1/\n - 6<=n - 1 - 1 - 1 - 1 - 1 - 1:=by lk
def Gj{ts:v_ BP}{z:D}{P:D->Prop}(c:Eg z=P3^ts.map Aj)(d:ts.length<64)(p:∀a:v_ BP,a.Perm ts->Hm a->P^.lst^a.map Aj):CK [z] P:=by
 refine#[z,_,rfl,c,by simp_all,#[λx b=>?_,λx b y e m n f h=>?_],λi j k=>?_]
 .let#[t,_,rfl]:=TM.mp b
  exact#[_,rfl,lI _ _]
 .let#[t,_,rfl]:=TM.mp b
  let#[u,_,rfl]:=TM.mp e;cases(f);cases(h);rfl
 .let#[a,l,rfl]:=Pa (g:=cS) (λ_=>rfl) j
  exact p _ l^Ti k
def LS{b:Type}{a:v_ b}{x:b}{l:v_ b}{k:Nat}(e:l[k]?=P3 x):((a++[x])++l.eraseIdx k).Perm (a++l):=by
 rw[j6];exact(Lg e).append_left a
section
variable {ss:v_ Slot}{n:Nat}{Pd:D->Nat->Prop}
theorem Ik{i:E2}{m:Nat}{d:v_ Str}(k:d.length<=24){l:BW}{mk:v_ D->Slot->v_ Slot}(f:Ac)
  (g:∀(fr:v_ D) (s:Slot) (a:Str) (nx:Nat->v_ Slot->Prop),fr.length+24<=1000->(∀j,nx m^mk (fr++(CH a d).map pairD) j)->l (.str a) (mk fr s) λo=>f {i with nx:=nx,ct:=nx,bk:=i.nx} m o)
  (h:∀s,i.nx m^mk ((pairsOf d d).map pairD) s):∀(c b:v_ Str) (s:Slot),b++c=d->A7 l f i (c.map .str) m^mk ((pairsOf b d).map pairD) s
 |[],b,s,e=>by
  rw[jZ]at e;subst e;exact h s
 |a::c,b,s,e=>by
  have q:=@D1 d b;have p:b.length<=24:=by grind
  have r:b.length*d.length<=24*24:=qC p k;refine g _ s a _ (by grind) λj=>?_;have t:=Ik k f g h c (b++[a]) j (by grind);have u:pairsOf (b++[a]) d=pairsOf b d++CH a d:=by unfold pairsOf;grind
  grind
def N8(h:Sy ss n Pd):Hw (EE Pd) n (ss++T0 8 .no):=by
 let#[u,i,rfl,W,X,Y,a9,hn,p]:=h;have Z:=PySem.sizeLine_eq;unfold Hw;refine#[_,rfl,by lk,by lk,u0,λr r0 r1=>?_];refine#[(2+r).toNat,by rw[show(((2+r).toNat:Nat):Int)=2+r by lk],by lk,by lk,λf hl hx hr=>#[(by cbv:0<=sizeLine),?_]];have w:f.length<=24:=by lk
 have a0:2<=f.length:=by lk
 have a1:f.length<=u:=by lk
 clear hl r0 r1;refine Ik (m:=n - 1 - 1) w (mk:=λfr s=>[.fd,.sh^.int u,.sh^.int i,.sh^.tup^f.map .str,.ow^.lst fr,s,.no,.no,.no,.no,.no]) _ (λfr s a nx F x=>?_) (λQ=>?_) f [] .no rfl
 .exists _,rfl,rfl,by rw[No];lk
  refine CM (Sh a) (λd=>.tup [.str a,d]) (λO=>∃s,O=[.sh^.str a,s]) _ _ _ _ ?_ #[_,rfl] ?_
  .rintro d hd O m b0 sk ⟨s2,rfl⟩ G H
   let#[b,hb,rfl]:=TM.mp hd;refine DJ (λc=>#[z2,G _ #[_,rfl] c]) λc=>H _ #[_,rfl]^ji.mpr c
  .rw[Qw]
   have b1:(CH a f).length<=24:=by unfold CH;rw[No];exact jJ (mE _ _) w
   exact#[fr,_,rfl,rfl,by rw[No];lk,x _]
 refine#[5,rfl,by cbv,by cbv,(by first|exact u0|exact u1|exact u2|exact u3|exact u4|exact u5|exact u6),λI w0 w1=>?_];refine#[#[by cbv,by cbv],_,rfl,by lk,by lk,(by first|exact u0|exact u1|exact u2|exact u3|exact u4|exact u5|exact u6),λq q0 q1=>?_];refine#[6,rfl,by cbv,by cbv,(by first|exact u0|exact u1|exact u2|exact u3|exact u4|exact u5|exact u6),λr6 _ _=>?_];have E:∀(g:Int) (R:Nat),0<=g->g<=i->n - 6<=R->(Ae (DL 8^CG AV)
 (Ae (Cs (KR^AF (CI NU^AF (AC 7)^AF (CI EB^AF (As 4) AV) AV) AV) (AT 9) (Ae (ak 4 (AR Bn^AB (A_ 0)^AB (AE^CI EB^AF (As 4) AV) AQ)^Bz 2^Aa (AT 5)^Aa (AT 10) BM)
 (IL 8 "list" EC^AF (BK^AF (AC 5)^AF (AC 10)^AF (AR PR^AB (A_ 0)^AB (AE^AC 6) AQ) AV) AV)))
 (Aq^BK^AF (AC 3)^AF (CI BI^AF (CI CK^AF (As 8) AV) AV) AV))) (EE Pd) R [.fd,.sh^.int u,.sh^.int i,.sh^.tup^f.map .str,.ow^.lst^(pairsOf f f).map pairD,Q,.sh^.int I,.sh^.int g,.no,.no,.no]:=by
  intro g R A J K;clear q0 q1 W X Y;have pl:=@D1 f f;have S:f.length*f.length<=24*24:=qC w w;exists(by cbv:0<=sizeLine),_,_,rfl,rfl;obtain⟨j,o⟩:∃j:Int,j=(if(((pairsOf f f).map pairD).length:Int)<g then(((pairsOf f f).map pairD).length:Int)else g):=#[_,rfl];have a2:j<=g:=by rw[o];split <;>lk
  have a3:j<=(pairsOf f f).length:=by rw[o,No];split <;>lk
  have a4:0<=j:=by rw[o];split <;>lk
  exists j,by rw[o],#[by lk,by lk];clear o;obtain⟨c,rfl⟩:∃c:Nat,j=(c:Int):=#[j.toNat,by lk];have v:c<=60:=by lk
  have a5:c<=i:=by lk
  have b2:c<=(pairsOf f f).length:=by lk
  have a7:(pairsOf f f).length<=576:=jJ pl S;have L:124<=R:=v1 hn K;clear a2 a3 a4 J A pl S;rw[mx]
  refine IW (all:=GB 0 c) (λM m O=>R - 2*M.length<=m/\∃(e:v_ BP) (free:v_ (Str×Str)) (Q s9 N:Slot),e.length=M.length/\(e.map ends++free).Perm^pairsOf f f/\(∀t∈e,1<=t.len/\t.len<=1000000) /\
   O=[.fd,.sh^.int u,.sh^.int i,.sh^.tup^f.map .str,.ow^.lst^free.map pairD,Q,.sh^.int I,.sh^.int g,.ow^.lst^e.map Aj,s9,N]) ?_ ?_ _ [] _ _ rfl #[by simp,[],pairsOf f f,_,_,_,rfl,.refl _,(λ_ h=>by cases h),rfl]
  .rintro m O ⟨P,e,free,Q,s9,N,G,H,h3,rfl⟩
   rw[FH]at G P;show CK [D.lst^e.map Aj] λz=>BI [z] λy=>2<=sizeLine/\Pd (.tup [.tup^f.map .str,y]) m;refine Gj (ts:=e) rfl (by rw[G];exact mh v^by cbv) λB p1 p2=>?_
   have T:∀t∈B,(t.a∈f/\t.b∈f/\cs t.a<cs t.b)/\1<=t.len/\t.len<=1000000:=λt C=>by
    have hf:=p1.mem_iff.mp C
    have:ends t∈pairsOf f f:=H.mem_iff.mp^lJ _^List.mem_map_of_mem hf
    exact#[JP this,h3 t hf]
   have nd:(B.map ends).Nodup:=by
    have a:=H.nodup_iff.mpr^Xz^OE hr hr;exact((p1.map ends).nodup_iff).mpr (lL.mp a).1
   refine#[z2,p #[f,B] m #[hx,hr,λt C=>?_,YF p2 nd] a0 a1 (by show B.length<=i;rw[p1.length_eq,G];exact a5)^hX K P v];let#[#[a,b,c],d]:=T t C;exact#[a,b,c,d]
  .rintro M d a8 m O nx U ⟨P,e,free,Q,s9,N,G,H,h3,rfl⟩ x
   let#[rfl,hk]:=TJ U;have V:=H.length_eq;rw[jD,No]at V;rw[jD,jV]at x;have F:(free.map pairD).length=free.length:=No ..;let#[f3,f4]:=hG L P hk v;have ff:1<=free.length/\free.length<=576/\e.length<=576:=by clear P K hn f3 f4;lk
   clear P;refine#[_,rfl,_,_,rfl,rfl,_,rfl,by rw[F];exact Int.ofNat_le.mpr ff.1,by rw[F];exact Int.ofNat_lt.mpr^mh ff.2.1^by cbv,u0,λr r0 r1=>?_];obtain⟨k,rfl⟩:∃k:Nat,r=(k:Int):=#[r.toNat,by lk];have a6:k<free.length:=by lk
   have e1:free[k]?=P3 free[k]:=On a6;exists k,pairD free[k],rfl,by rw[jG,e1];rfl,by lk,rfl,rfl;refine#[_,rfl,rfl,I,rfl,w0,u1,λl l0 l1=>#[z3,_,_,rfl,rfl,by rw[No,Z];exact mh ff.2.2^by cbv,?_]];rw[F3];refine x _ _ #[f4,e++[#[free[k].1,free[k].2,l]],free.eraseIdx k,_,_,_,by rw[jD,jV,G],?_,λt C=>?_,by rw[jz];rfl]
   .rw[jz]
    exact(LS (a:=e.map ends) e1).trans H
   .rcases jK.mp C with C|C
    .exact h3 t C
    .rw[Tk.mp C]
     exact#[l0,l1]
 refine DJ (λ_=>#[4,rfl,by cbv,by cbv,(by first|exact u0|exact u1|exact u2|exact u3|exact u4|exact u5|exact u6),λr4 _ _=>E _ _ (by lk) (by lk) (iO n).2]) λ_=>E _ _ (by lk) (by lk) (iO n).1
end
def H_:W2:=λa n P=>a=[.fd]/\1<=n/\∀t b:Int,1<=b->b<=t->t<=1000000->P (.tup [.int t,.int b]) (n - 1)
def Sx:W2:=λe n P=>∃(b:v_ Str) (a:Nat),e=[.fd,.sh^.tup^b.map .str,.sh^.int a]/\rising b/\b.length<=24/\a<=30/\40<=n/\∀(c:v_ (Str×Str)) (d:Nat),(∀p∈c,p.1∈b/\p.2∈b)->c.length<=a->n - 40<=d->P (.tup^c.map pairD) d
def EX:Ac:=(Ae (DL 2^RK (AC 1)^wC^D.int 0)
 (Ae (A3 3^wC^D.bl t_)
 (Ae (IK (AZ^AC 3) (Ae (A3 3^wC^D.bl u_)
 (S5 0 (Bz 3^Aa (AT 4)^Aa (AT 5)^Aa (AT 6) BM) (Cs (A0^CG^AF (BK^AF (AC 4)^AF (AC 5) AV)^AF (BK^AF (AC 5)^AF (AC 4) AV) AV) (Bz 2^Aa (AT 7)^Aa (AT 8) BM) (BC (EJ (AZ^AX (GC u_) (AC 7)^As 2)^AZ^AX FV (AX A5 (AX Bx (As 2)^AC 7)^AC 6)^S4 (As 2) (AC 8)^AX (Vv L9 λi j=>D.int (i ^ j.toNat)) (wC^D.int 10)^wC^D.int 20) (Ae (JC 2 (AC 8)^AX A5 (AX Bx (As 2)^AC 7)^AC 6)
 (A3 3^wC^D.bl t_)) Av)))))
 (KS 2))))
def Fn:Ac:=(Ae (A3 1^CI CK^AF (Bi [s_] (A0^AC 0) (AT 0) DU^BK^AF (AX Az (AC 0)^wC^D.int 2)^AF (AX Az (AC 0)^wC^D.int 0)^AF (AX Az (AC 0)^wC^D.int 1) AV) AV)
 (Aq^Bi [s_,s_,s_] (A0^AC 1) (Bz 3^Aa (AT 0)^Aa (AT 1)^Aa (AT 2) BM) DU^BK^AF (AC 1)^AF (AC 2)^AF (AC 0) AV))
def Fj:Ac:=(Ae (A3 1^CG^AF (BK^AF (wC^D.int 1)^AF (wC^D.int 1) AV)^AF (BK^AF (wC^D.int 3)^AF (wC^D.int 2) AV)^AF (BK^AF (wC^D.int 2)^AF (wC^D.int 1) AV)^AF (BK^AF (wC^D.int 3)^AF (wC^D.int 1) AV)^AF (BK^AF (wC^D.int 5)^AF (wC^D.int 2) AV)^AF (BK^AF (wC^D.int 1000)^AF (wC^D.int 999) AV)^AF (BK^AF (AX (Vv L9 λi j=>D.int (i ^ j.toNat)) (wC^D.int 10)^wC^D.int 6)^AF (wC^D.int 1) AV)^AF (BK^AF (wC^D.int 6)^AF (wC^D.int 4) AV)^AF (BK^AF (wC^D.int 7)^AF (wC^D.int 3) AV) AV)
 (Aq^AX Az (AC 1)^AR Bn^AB (A_ 0)^AB (AE^wC^D.int 9) AQ))
def Fl:Ac:=(Ae (DL 3^CG AV)
 (Ae (Cs (A0^AC 1) (AT 4)^IL 3 "list" cH^AF (Bi [P3 4,s_] (A0^AC 1) (AT 1) (AZ^AX FV (AC 0)^AC 1)^BK^AF (AC 0)^AF (AC 1) AV) AV)
 (Ae (DL 5^CG AV)
 (Ae (Cs (KR^AF (CI NU^AF (AR Bn^AB (A_ 0)^AB (AE^AX A5 (AC 2)^wC^D.int 1) AQ)^AF (CI EB^AF (As 3) AV) AV) AV) (AT 6)^S7 5 3^AR Bn^AB (A_ 0)^AB (AE^CI EB^AF (As 3) AV) AQ)
 (Aq^CI BI^AF (CI CK^AF (As 5) AV) AV)))))
abbrev YG:Ac:=(BC (EJ (AZ^AX (GC u_) (AC 7)^As 2)^AZ^AX FV (AX A5 (AX Bx (As 2)^AC 7)^AC 6)^S4 (As 2) (AC 8)^AX (Vv L9 λi j=>D.int (i ^ j.toNat)) (wC^D.int 10)^wC^D.int 20) (Ae (JC 2 (AC 8)^AX A5 (AX Bx (As 2)^AC 7)^AC 6)
 (A3 3^wC^D.bl t_)) Av)
def ir:((10:Int) ^ (20:Int).toNat)=100000000000000000000:=by decide +kernel
section
variable {ss:v_ Slot}{n:Nat}{Pd:D->Nat->Prop}
def IT(h:Ck ss n Pd):EX (EF Pd) n (ss++T0 7 .no):=by
 let#[N,s,H,us,rfl,a0,J,L,hs,p]:=h;have a7:=PySem.sizeLine_eq;have ok:=L.1;have a8:=L.2.1;unfold EX;exists _,A2 s
 have step:∀(X:E2) (x y:Str) (l:Int),Ed N x y l->∀(f:v_ Key) (i:v_ D) (K:Kn) (g:Bool) (o q v w:Slot),Dmap f i D.int K->Bf N s f.length K->
   (∀(C:v_ Key) (O:v_ D) (k:Kn) (g':Bool) (t7 t8:Slot),Dmap C O D.int k->Bf N s C.length k->((g'=g/\k=K/\Ka K (x,y,l))\/(g'=t_/\Vu N.ps k<Vu N.ps K))->
    X.nx n [.br H,.sh^.str s,.ow^.dic C O,.sh^.bl g',o,q,.sh^.int l,t7,t8])->
   YG X n [.br H,.sh^.str s,.ow^.dic f i,.sh^.bl g,o,q,.sh^.int l,.sh^.str x,.sh^.str y]:=by
  intro X x y l he f i K g o q v w M B hD;have kl:=M.le B.ins;exists f,i,_,rfl,A2 x;show if((BY f i^.inr x).isSome)=t_ then _ else _
  cases ex:K x with
  |none=>
   rw[M.at_,ex];exact Bl^hD f i K g _ _ M B^.inl #[rfl,rfl,λd e=>by rw[show K x=P3 d from e]at ex;cases ex]
  | some d=>
   have a9:=B.top x d ex;have lp:=(he.pos ok).2;rw[M.at_,ex];refine Bv #[f,i,_,_,rfl,A2 x,by rw[M.at_,ex];rfl,?_];exists f,i,rfl,#[by cbv,by cbv,by cbv],_,A2 y
   have R:(K y=s_\/∃A,K y=P3 A/\d+l<A)->(Ae (JC 2 (AC 8)^AX A5 (AX Bx (As 2)^AC 7)^AC 6)^A3 3^wC^D.bl t_) X n [.br H,.sh^.str s,.ow^.dic f i,.sh^.bl g,o,q,.sh^.int l,.sh^.str x,.sh^.str y]:=λE=>by
    refine#[f,i,rfl,f,i,_,.int d,rfl,A2 x,by rw[M.at_,ex];rfl,_,A2 y,by lk,?_];have r:=K6 f^.inr y
    have S:=B.put ok (c':=(DN f^.inr y).length) (by rw[r];split <;>lk) (by rw[r];split <;>lk) ex he (λe=>by rw[r,if_neg^by rw[(M.has (x:=y)).1 e];decide]) (λA e=>by
     rcases E with E|⟨d2,E,T⟩
     .rw[e]at E;cases E
     .rw[e]at E;cases E;exact T)
    exact hD _ _ _ t_ _ _ (M.put y (d+l)) S.1^.inr #[rfl,S.2]
   rw[M.at_];cases ey:K y with
   |none=>
    show if decide (d+l<(10:Int) ^ (20:Int).toNat)=t_ then _ else _
    rw[decide_eq_true^by rw[ir];lk];exact Bv^R^.inl ey
   | some A=>
    show if decide (d+l<A)=t_ then _ else _
    by_cases c:d+l<A
    .rw[decide_eq_true c]
     exact Bv^R^.inr #[A,ey,c]
    .rw[decide_eq_false c]
     refine Bl^hD f i K g _ _ M B^.inl #[rfl,rfl,λd2 e=>?_];rw[show K x=P3 d2 from e]at ex;cases ex;exact#[A,ey,by show A<=d+l;lk]
 refine IJ (λm Y ρ=>Y=n/\∃(f:v_ Key) (i:v_ D) (K:Kn) (g:Bool) (o q I v w:Slot),ρ=[.br H,.sh^.str s,.ow^.dic f i,.sh^.bl g,o,q,I,v,w]/\Dmap f i D.int K/\Bf N s f.length K/\((g=t_/\m=Vu N.ps K+1)\/(g=u_/\m=0/\∀t∈N.ts,Ka K (t.a,t.b,t.len)/\Ka K (t.b,t.a,t.len)))) _ #[rfl,_,_,_,t_,_,_,_,_,_,rfl,Dmap.one (enc:=D.int) (a:=(0:Int)),Bf.init hs,.inl #[rfl,rfl]] ?_ ?_
 .rintro m Y ρ N' ⟨rfl,f,i,K,g,o,q,I,v,w,rfl,M,B,F⟩ hN
  rcases F with⟨rfl,hm⟩|⟨rfl,_,ht⟩
  .have G:∀(j done:v_ BP) (f:v_ Key) (i:v_ D) (k:Kn) (g:Bool) (o q I v w:Slot),done++j=us->Dmap f i D.int k->Bf N s f.length k->((g=t_/\Vu N.ps k<Vu N.ps K)\/(g=u_/\Vu N.ps k<=Vu N.ps K/\∀t∈done,Ka k (t.a,t.b,t.len)/\Ka k (t.b,t.a,t.len)))->
     A7 (Bz 3^Aa (AT 4)^Aa (AT 5)^Aa (AT 6) BM) (Cs (A0^CG^AF (BK^AF (AC 4)^AF (AC 5) AV)^AF (BK^AF (AC 5)^AF (AC 4) AV) AV) (Bz 2^Aa (AT 7)^Aa (AT 8) BM) YG) {EF Pd with nx:=N',ct:=N',bk:=KS 2^EF Pd} (j.map Aj) Y [.br H,.sh^.str s,.ow^.dic f i,.sh^.bl g,o,q,I,v,w]:=by
    intro j
    induction j with
    |nil=>
     intro done f i k g o q I v w e M B F;rw[jZ]at e;subst e
     rcases F with⟨rfl,T⟩|⟨rfl,_,ht⟩
     .exact hN (Vu N.ps k+1) _ _ (by lk) #[rfl,f,i,k,t_,_,_,_,_,_,rfl,M,B,.inl #[rfl,rfl]]
     .exact hN 0 _ _ (by lk) #[rfl,f,i,k,u_,_,_,_,_,_,rfl,M,B,.inr #[rfl,rfl,λt h=>ht t^(J t).mpr h]]
    | cons t j ih=>
     intro done f i k g o q I v w e M B F;have U:t∈N.ts:=(J t).mp (by rw[←e];exact jU _ Rs);have e':(done++[t])++j=us:=by rw[j6];exact e
     have ed:=T8 U;exists rfl,rfl,z2,z2,z2;exists rfl,rfl;refine step _ t.a t.b t.len ed.1 f i k g _ _ v w M B λa1 a2 K1 g1 t7 t8 M1 B1 h1=>?_;exists rfl,rfl;refine step _ t.b t.a t.len ed.2 a1 a2 K1 g1 _ _ t7 t8 M1 B1 λa3 a4 K2 g2 u7 u8 M2 B2 h2=>?_;refine ih (done++[t]) a3 a4 K2 g2 _ _ _ _ _ e' M2 B2 ?_
     rcases h1 with⟨rfl,rfl,t1⟩|⟨rfl,b0⟩
     .rcases h2 with⟨rfl,rfl,t2⟩|⟨rfl,a5⟩
      .rcases F with z|⟨z1,z2,z3⟩
       .exact .inl z
       .refine .inr #[z1,z2,λu V=>?_]
        rcases jK.mp V with V|V
        .exact z3 u V
        .rw[Tk.mp V];exact#[t1,t2]
      .refine .inl #[rfl,?_]
       rcases F with⟨_,z⟩|⟨_,z,_⟩ <;>lk
     .have W:Vu N.ps K1<Vu N.ps K:=by rcases F with⟨_,z⟩|⟨_,z,_⟩ <;>lk
      rcases h2 with⟨rfl,rfl,t2⟩|⟨rfl,a5⟩
      .exact .inl #[rfl,W]
      .exact .inl #[rfl,by lk]
   exact#[H,_,rfl,a0,G us [] f i K u_ _ _ _ _ _ rfl M B (.inr #[rfl,Op _,λt h=>by cases h])]
  .exact#[_,rfl,p f i K M^B.told ok (by have:=M.le B.ins;lk) ht]
 .rintro Y ρ P Q a6 h
  unfold AZ AC at h ⊢
  split at h
  .rename_i d hd
   cases d with
   |bl b=>exact a6 _ _ h
   |_=>exact h.elim
  .exact h.elim
def Kx(h:Er ss n Pd):Fn (EF Pd) n (ss++T0 1 .no):=by
 let#[d,B,rfl,e,v,p]:=h;have G:=PySem.sizeLine_eq;unfold Fn
 have C:(B.map Aj).length<=10000000/\D6 (AT 0) DU (BK^AF (AX Az (AC 0)^wC^D.int 2)^AF (AX Az (AC 0)^wC^D.int 0)^AF (AX Az (AC 0)^wC^D.int 1) AV) (λi w=>CK [.lst i] λz=>A0 (wC z) w [] λE H=>E.length<=10000000/\D6 (Bz 3^Aa (AT 0)^Aa (AT 1)^Aa (AT 2) BM) DU (BK^AF (AC 1)^AF (AC 2)^AF (AC 0) AV) (λi w=>Pd (.lst i) w) E [] H [.no,.no,.no]) (B.map Aj) [] n [.no]:=by
  refine#[by rw[No];lk,?_];refine Ba P4 (λq=>∃s,q=[s]) _ _ _ _ ?_ #[_,rfl] ?_
  .rintro d e q m I ⟨s,rfl⟩ k
   let#[t,J,rfl]:=TM.mp e;exact#[_,AJ (j:=2) rfl,_,AJ (j:=0) rfl,_,AJ (j:=1) rfl,z3,k _ #[_,rfl]]
  rw[jQ,kh];refine#[_,_,rfl,rfl,by rw[No];exact v,#[λx A=>?_,λx A y K L M N O=>?_],λP Q r=>?_]
  .let#[t,_,rfl]:=TM.mp A
   exact#[Pw t,rfl,lI _ _]
  .let#[t,_,rfl]:=TM.mp A
   let#[u,_,rfl]:=TM.mp K;cases(show P3^Pw t=P3 L from N);cases(show P3^Pw u=P3 M from O);rfl
  .let#[o,F,rfl]:=Pa (f:=P4∘Aj) (g:=λd=>match d with|.tup [.int l,.str a,.str b]=>#[a,b,l]|_=>#["","",0]) (λ_=>rfl) Q
   have r:Om o:=by
    unfold ID at r;rw[m6]at r;exact r.imp λ{s t} z=>z _ _ rfl rfl
   refine#[by show(o.map (P4∘Aj)).length<=10000000;rw[No,F.length_eq];lk,?_];refine Ba (λd=>match d with|.tup [l,a,b]=>.tup [a,b,l]|d=>d) (λq=>∃a b c,q=[a,b,c]) _ _ _ _ ?_ #[_,_,_,rfl] ?_
   .rintro d e q m I ⟨a,b,c,rfl⟩ k
    let#[t,J,rfl]:=TM.mp e;exact#[rfl,rfl,z3,k _ #[_,_,_,rfl]]
   .rw[jQ,kh]
    exact p o F r
 cases d with
 |lst R=>cases e;exact C
 |tup R=>cases e;exact C
 |_=>cases e
def Kv(h:H_ ss n Pd):Fj (EE Pd) n (ss++T0 1 .no):=by
 let#[rfl,c,p]:=h;unfold Fj;exists z2,z2,z2,z2,z2,z2,iy,z2,z2,z2,(by cbv:9<=sizeLine);refine#[9,rfl,by cbv,by cbv,c,λr e f=>?_]
 let#[z,g,t,b,rfl,i,j,k]:=Qs (p:=λd=>∃t b:Int,d=.tup [.int t,.int b]/\1<=b/\b<=t/\t<=1000000) (xs:=[.tup [.int 1,.int 1],.tup [.int 3,.int 2],.tup [.int 2,.int 1],.tup [.int 3,.int 1],.tup [.int 5,.int 2],.tup [.int 1000,.int 999],.tup [.int ((10:Int) ^ (6:Int).toNat),.int 1],.tup [.int 6,.int 4],.tup [.int 7,.int 3]]) (λd a=>by
  simp only[UF,jO,or_false]at a
  rcases a with rfl|rfl|rfl|rfl|rfl|rfl|rfl|rfl|rfl <;>exact#[_,_,rfl,by cbv,by cbv,by cbv]) e^by show r<9;exact f
 exact#[_,g,p t b i j k]
def bU(p:Str×Str):v_ Key:=[.inr p.1,.inr p.2]
def Po{ps:v_ (Str×Str)}{z:D}{P:D->Prop}(i:Eg z=P3^ps.map pairD)(e:ps.length<64)(p:∀c:v_ (Str×Str),c.Perm ps->P^.lst^c.map pairD):CK [z] P:=by
 refine#[z,_,rfl,i,by rw[No];exact e,#[λx h=>?_,λx h y j k l m o=>?_],λq r v=>?_]
 .let#[t,_,rfl]:=TM.mp h
  exact#[bU t,rfl,lI _ _]
 .let#[t,_,rfl]:=TM.mp h
  let#[u,_,rfl]:=TM.mp j;cases(show P3^bU t=P3 k from m);cases(show P3^bU u=P3 l from o);rfl
 .let#[c,s,rfl]:=Pa (f:=pairD) (g:=λd=>match d with|.tup [.str a,.str b]=>(a,b)|_=>("","")) (λ_=>rfl) r
  exact p c s
def Kw(h:Sx ss n Pd):Fl (EE Pd) n (ss++T0 4 .no):=by
 let#[f,o,rfl,W,j,C,X,p]:=h;have M:=PySem.sizeLine_eq;unfold Fl;exists(by cbv:0<=sizeLine);refine Ik (m:=n) j (mk:=λfr s=>[.fd,.sh^.tup^f.map .str,.sh^.int o,.ow^.lst fr,s,.no,.no]) _ (λfr s a N E l=>?_) (λY=>?_) f [] .no rfl
 .exists _,rfl,rfl,by rw[No];lk
  refine CM (Sh a) (λd=>.tup [.str a,d]) (λu=>∃s,u=[.sh^.str a,s]) _ _ _ _ ?_ #[_,rfl] ?_
  .rintro d O u m P Z ⟨s2,rfl⟩ B v
   let#[b,hb,rfl]:=TM.mp O;exact DJ (λc=>#[z2,B _ #[_,rfl] c]) λc=>v _ #[_,rfl]^ji.mpr c
  .rw[Qw]
   have Q:(CH a f).length<=24:=by unfold CH;rw[No];exact jJ (mE _ _) j
   exact#[fr,_,rfl,rfl,by rw[No];lk,l _]
 have pl:=@D1 f f;have R:f.length*f.length<=24*24:=qC j j;refine#[(by cbv:0<=sizeLine),_,rfl,by lk,by lk,by lk,λq q0 q1=>#[_,_,rfl,rfl,?_]];obtain⟨g,i⟩:∃g:Int,g=(if(((pairsOf f f).map pairD).length:Int)<q then(((pairsOf f f).map pairD).length:Int)else q):=#[_,rfl];have S:g<=q:=by rw[i];split <;>lk
 have T:g<=(pairsOf f f).length:=by rw[i,No];split <;>lk
 have U:0<=g:=by rw[i];split <;>lk
 exists g,by rw[i],#[by lk,by lk]
 refine IW (all:=GB 0 g.toNat) (λt m u=>n - 1 - t.length<=m/\∃(e free:v_ (Str×Str)) (F G:Slot),e.length=t.length/\(e++free).Perm^pairsOf f f /\
  u=[.fd,.sh^.tup^f.map .str,.sh^.int o,.ow^.lst^free.map pairD,F,.ow^.lst^e.map pairD,G]) ?_ ?_ _ [] _ _ rfl #[by simp,[],pairsOf f f,_,_,rfl,.refl _,rfl]
 .rintro m u ⟨C,e,free,F,G,B,v,rfl⟩
  rw[FH]at B C;show CK [D.lst^e.map pairD] λz=>BI [z] λy=>Pd y m;refine Po (ps:=e) rfl (by lk) λH J=>p H m (λx V=>?_) (by rw[J.length_eq];lk)^by lk
  have:=JP^v.mem_iff.mp^lJ _^J.mem_iff.mp V
  exact#[this.1,this.2.1]
 .rintro t d K m u N w ⟨C,e,free,F,G,B,v,rfl⟩ l
  let#[rfl,hk]:=TJ w;have A:=v.length_eq;rw[jD]at A;rw[jD,jV]at l;have E:(free.map pairD).length=free.length:=No ..;refine#[_,_,by cbv,rfl,rfl,_,_,rfl,rfl,_,rfl,by lk,by lk,by lk,λr r0 r1=>?_];obtain⟨k,rfl⟩:∃k:Nat,r=(k:Int):=#[r.toNat,by lk];have I:k<free.length:=by lk
  have L:free[k]?=P3 free[k]:=On I;refine#[k,pairD free[k],rfl,by rw[jG,L];rfl,by lk,by rw[No];lk,?_];rw[F3];exact l _ _ #[by lk,e++[free[k]],free.eraseIdx k,_,_,by rw[jD,jV];lk,(LS (a:=e) L).trans v,by rw[jz];rfl]
end
end Nt
namespace L2
def dA(K:Frag)(l:Db)(a:v_ V):It:=
 #[λi H=>SqL K H l a/\i<a.length,λi H x b=>b=H/\a.reverse[i]?=P3 x,λi H=>SqL K H l a/\a.length<=i]
def ft(n:Nat)(it l:Db)(i:Nat)(h:jI):Prop:=i<=n/\h.IsRevIter it l ((n:Int) - 1 - (i:Int))
def WG{P:jM}{w:jT}{K:Frag}{tg:jX}(g l:Db)(j:v_ V)(S:l≠g):Turn P w K tg (dA K l j) [g] g (ft j.length g l) where
 mem:=by simp
 obj:=λi h f c n=>by
  rw[Tk.mp n];let#[_,o,x,_,d]:=f;exact#[o,x,λv z=>by rw[d]at z;cases z]
 keep:=λi h y f k=>#[f.1,f.2.at λo e=>k g (by simp) o e]
 item:=by
  intro X B C D n i T s Z H E I q f F;subst B C D;let#[G,J]:=F;let#[a,r,L,hz]:=I.list G;have M:=r.length;have W:=qI (prog:=X.prog) (w:=X.w) (A:=X.A) (I.ok.hd n) g l S a.toArray;have m:a.toArray.size=j.length:=by rw[f8,M]
  refine W.item i s _ _ (by rw[m];exact J) #[by rw[m];exact f.1,by rw[m];exact f.2,L.isList] λv y t hp N O=>#[v,rfl,?_];let#[U,R,_]:=N;rw[m]at U R;let#[o,x,oc,od]:=id R;refine QR x oc od (by cbv) ?_;have I2:Inv X T Z H {s with heap:=y,toks:=t}:=I.turnedL (t':=t) (ch:=[g]) q O
  have hv:a.reverse[i]?=P3 v:=by
   have p:a.toArray[a.toArray.size - 1 - i]?=P3 v:=hp;rw[oK^by lk];rw[f8]at p
   simpa using p
  have Y:j.reverse[i]?=P3 (j.reverse[i]'(by rw[kG];exact J)):=On _;let#[u,e1,e2]:=r.reverse.get Y;rw[hv]at e1;cases e1;exact#[_,H,I2,e2,#[rfl,Y],#[U,R],λb hb=>(q b hb).1]
 done:=by
  intro X B C D n i T s Z H E I q f F;subst B C D;let#[G,J]:=F;let#[a,r,L,hz]:=I.list G;have M:=r.length;have W:=qI (prog:=X.prog) (w:=X.w) (A:=X.A) (I.ok.hd n) g l S a.toArray;have m:a.toArray.size=i:=by rw[f8,←M];have:=f.1;lk
  have si:j.length=i:=by have:=f.1;lk
  refine W.done s _ _ #[Op _,by rw[m];have:=f.2;rw[si]at this;exact this,L.isList] λy t O=>#[rfl,I.turnedL (t':=t) (ch:=[g]) q O]
 self:=λA i s Q E f h=>wpAny_pyIter_revIter f.2 h
section
variable {X:Cx}{e1 tg:Expr}{p pos:Pos}{te:TE}
def g7(K:Frag)(te:TE):TI:=λZ H R=>te Z H λv b=>∃a c,v=.ref a/\SqL K b a c/\R (dA K a c) b
def bV(n:Gl X "reversed")(r:X.mg "reversed"=s_)(t:PE X e1 te)(l:starEach [e1] X.env=[(u_,eval e1 X.env)]:=by rfl):PI X tg (.Call (.Name "reversed" p) [e1] [] pos)^g7 X.K te:=by
 intro v s Z H R I h;refine jq^DF I n r boot_reversed ?_;refine jw ?_ l rfl;rw[l];refine kU^thn (t v s Z H _ I h) λu d #[x,w,i,y,a,j,ex,z,q]=>k8 ?_;subst ex;cases y;let#[f,A,B,E]:=i.list z;have m:d.heap.IsList a f.toArray:=B.isList;have k:a<d.heap.objs.size:=by let#[_,e,_]:=id m;exact Uf e
 have C:=A.length;refine call_reversed_list m ?_;have g:(d.heap.push^revObj a ((f.toArray.size:Int) - 1)).IsRevIter d.heap.objs.size a ((j.length:Int) - 1 - ((0:Nat):Int)):=#[_,XV _ rfl,rfl,by show Data.fields _=_;simp[revObj,C]];refine wpAny_pyIter_revIter g ?_;refine#[d.heap.objs.size,[d.heap.objs.size],_,dA X.K a j,w,rfl,i.kept (t':=d.toks) λb o e=>FM _ e,WG _ a j^jL k,#[eq _,g],λc D=>?_,q];rw[Tk.mp D];exact i.fpOk (Op _)^i.hok.fresh^Op _
end
end L2
namespace Dp
open L2
section
variable {X:Cx}{e1 tg:Expr}{p pos:Pos}{κ:Kd}{wa:DW}
def Z0(wa:DW):Ea:=λn b P=>wa n b λd c=>∃a,d=.lst a/\P a.reverse c
def cQ(m:Gl X "reversed")(o:X.mg "reversed"=s_)(h:DE X e1 κ wa)(r:κ≠.tp:=by intro z;cases z)(b:starEach [e1] X.env=[(u_,eval e1 X.env)]:=by rfl):
  DI X tg (.Call (.Name "reversed" p) [e1] [] pos) (Z0 wa):=by
 let#[t,e,s]:=h;refine#[_,bV m o e b,λC M H n u Z P J R w q=>?_];refine s C M H n u Z _ _ R w λv A d B D c E p=>?_;let#[L,rfl,p]:=p;let#[a,f,rfl,g,b]:=E.shOf R.dom r;refine#[a,f,rfl,g.sq,q _ A _ B D c (λi N F j G=>?_) p];have k:SqL X.K F a f:=(g.pres j).sq;have O:=b.length;refine#[λd l=>#[#[k,?_],λx H2 y=>?_],λI=>#[k,by rw[kG]at I;lk]]
 .have:=(ZB.mp l).1
  rw[kG]at this;lk
 .let#[rfl,e1]:=y
  let#[Q,c,e]:=(b.pres j).reverse.get l;rw[e1]at c;cases c;exact#[.refl,e]
end
end Dp
namespace Nt
open L2 Dp
def BS(M:Net)(u:BP):Net:=#[M.ps,M.ts.filter λv=>decide (v≠u)]
abbrev EZ:=v_ (Str×Str)
def keepsP(N:Net)(t b:Int)(c:EZ)(M:Net):Prop:=∀p∈c,∀d,Least N p.1 p.2 d->∃a,Least M p.1 p.2 a/\a*b<=d*t
noncomputable def BQ(N:Net)(t b:Int)(a:EZ)(M:Net):Bool:=@decide (keepsP N t b a M)^mY _
def keepsB_iff{N:Net}{t b:Int}{a:EZ}{M:Net}:BQ N t b a M=t_↔keepsP N t b a M:=by
 unfold BQ;exact @decide_eq_true_iff _^mY _
noncomputable def Ag(N:Net)(t b:Int)(a:EZ):Net->v_ BP->Net
 |M,[]=>M
 |M,u::r=>if BQ N t b a (BS M u)=t_ then Ag N t b a (BS M u) r else Ag N t b a M r
def Vq(N:Net):EZ->v_^w_ Int->Prop
 |[],[]=>True
 |p::a,o::b=>Far N p.1 p.2 o/\Vq N a b
 |_,_=>False
def Gp(N:Net)(a:EZ):Prop:=a.length<=30/\∀p∈a,p.1∈N.ps/\p.2∈N.ps
def GA(t b:Int):Prop:=1<=b/\b<=1000000/\1<=t/\t<=1000000
def Du:W2:=λc n P=>∃(M:Net) (u:BP),c=[.sh^enc M,.sh^.lst [Aj u]]/\okN M/\(SI u.a/\SI u.b/\1<=u.len/\u.len<=1000000)/\P (enc^BS M u) n
def IB:W2:=λc n P=>∃(N:Net) (a:EZ),c=[.sh^enc N,.sh^.tup^a.map pairD]/\okN N/\Gp N a/\∀b,Vq N a b->P (.lst^b.map HS) n
def bw(N M:Net)(t b:Int)(c:EZ)(e:v_^w_ Int)(i:Int):Prop:=∃(j:Nat) (q:Str×Str) (d:Int),i=(j:Int)/\c[j]?=P3 q/\e[j]?=P3^P3 d/\Least N q.1 q.2 d/\∀a,Least M q.1 q.2 a->¬a*b<=d*t
def RD:W2:=λd n P=>∃(N M:Net) (t b:Int) (a:EZ) (c:v_^w_ Int),d=[.sh^.tup [.int t,.int b],.sh^.tup^a.map pairD,.sh^.lst^c.map HS,.sh^enc M]/\okN M/\M.ps=N.ps/\GA t b/\Gp N a/\Vq N a c /\
 ∀o:w_ Int,(o=s_->BQ N t b a M=t_)->(∀i,o=P3 i->BQ N t b a M=u_/\bw N M t b a c i)->P (HS o) n
def cu:W2:=λd n P=>∃(N:Net) (t b:Int) (c:EZ),d=[.sh^enc N,.sh^.tup [.int t,.int b],.sh^.tup^c.map pairD]/\okN N/\GA t b/\Gp N c/\∀a:v_ BP,a.Perm N.ts->Om a->P (enc^Ag N t b c N a.reverse) n
def Fv:W2:=λc n P=>∃(N M:Net) (t b:Int) (a:EZ) (z:D),c=[.sh^enc N,.sh^.tup [.int t,.int b],.sh^.tup^a.map pairD,.sh z]/\Eg z=P3^M.ts.map Aj/\okN N/\okN M/\M.ps=N.ps/\GA t b/\Gp N a/\P (.bl^BQ N t b a M) n
def Jg:Ac:=(Aq^AR PN^AB (AE^AC 0)^AB (Bt^Bi [P3 1,s_] (A0^AX Az (AC 0)^wC^D.int 1) (AT 1) (AZ^AX (MW t_) (AC 1)^AC 0)^AC 1) AQ)
def Fh:Ac:=(Aq^Bi [P3 0,s_,s_] (A0^AC 1) (Bz 2^Aa (AT 1)^Aa (AT 2) BM) DU^AR RE^AB (AE^AC 0)^AB (AE^AC 1)^AB (AE^AC 2) AQ)
def Fi:Ac:=(Ae (Cs (S6^AC 2) (Bz 2^Aa (AT 4)^Aa (AT 5) BM) (BC (AZ^AX (Di t_) (AC 5)^wC D.non) (Ae (A3 6^AR RE^AB (AE^AC 3)^AB (AE^AX Az (AX Az (AC 1)^AC 4)^wC^D.int 0)^AB (AE^AX Az (AX Az (AC 1)^AC 4)^wC^D.int 1) AQ)
 (BC (EI (AZ^AX (Di u_) (AC 6)^wC D.non)^B0^AZ^AR Cj^AB (AE^AC 6)^AB (AE^AC 0)^AB (AE^AC 5) AQ) (Aq^AC 4) Av)) Av))
 (Aq^wC D.non))
def Cq:Ac:=(Ae (A3 3^AR IB^AB (AE^AC 0)^AB (AE^AC 2) AQ)
 (Ae (A3 4^AR PN^AB (AE^AC 0)^AB (Bt^AX Az (AC 0)^wC^D.int 1) AQ)
 (Ae (Cs (Z0^AR Er^AB (AE^AX Az (AC 0)^wC^D.int 1) AQ) (AT 5) (Ae (A3 6^AR Du^AB (AE^AC 4)^AB (AE^CG^AF (AC 5) AV) AQ)
 (BC (AZ^AX (Di u_) (AR RD^AB (AE^AC 1)^AB (AE^AC 2)^AB (AE^AC 3)^AB (AE^AC 6) AQ)^wC D.non) (A3 4^AC 6) Av)))
 (Aq^AC 4))))
def Ex:Ac:=(Aq^AX QW (AX Le (AC 0)^AX Az (AC 1)^wC^D.int 1)^AX Le (AC 2)^AX Az (AC 1)^wC^D.int 0)
def Fp:Ac:=(Ae (Cs (A0^AC 2) (Bz 2^Aa (AT 4)^Aa (AT 5) BM) (Ae (A3 6^PY (AR Ck^AB (Bt^AX Az (AC 0)^wC^D.int 1)^AB (AE^AC 4) AQ)^AC 5)
 (BC (AZ^AX (Di t_) (AC 6)^wC D.non) (Ae (A3 7^PY (AR Ck^AB (Bt^AC 3)^AB (AE^AC 4) AQ)^AC 5)
 (BC (EI (AZ^AX (Di u_) (AC 7)^wC D.non)^B0^AZ^AR Cj^AB (AE^AC 7)^AB (AE^AC 1)^AB (AE^AC 6) AQ) (Aq^wC^D.bl u_) Av)) Av)))
 (Aq^wC^D.bl t_))
def B3{M:Net}(a:okN M)(u:BP):okN^BS M u:=#[WR a.1 (λt h=>(k_.mp h).1)^a.1.trise.filter _,a.2.1,jJ (mE _ _) a.2.2]
theorem Cu{N:Net}{t b:Int}{ps:EZ}:∀{ord:v_ BP}{M:Net},okN M->okN^Ag N t b ps M ord
 |[],M,h=>h
 |u::r,M,h=>by
  show okN (if BQ N t b ps (BS M u)=t_ then Ag N t b ps (BS M u) r else Ag N t b ps M r)
  split
  .exact Cu^B3 h u
  .exact Cu h
def Gi{N:Net}(ok:N.Ok){b a:v_ BP}(h:b.Pairwise By)(c:a.Perm b)(d:Hm a):a=b:=Kb c d^Lr h
section
variable {ss:v_ Slot}{n:Nat}{Pd:D->Nat->Prop}
def Gh{M:Net}(ok:M.Ok):∀t∈M.ts,SI t.a/\SI t.b/\1<=t.len/\t.len<=1000000:=λt d=>by
 let#[a,b,_,c]:=ok.tin t d;exact#[ok.names _ a,ok.names _ b,c]
def Xc{t:BP}(h:SI t.a/\SI t.b/\1<=t.len/\t.len<=1000000):Cd^Aj t/\Cd^.lst [Aj t]:=by
 have c:item^Aj t:=QO (C1 h.1) (C1 h.2.1) h.1.2.1 h.2.1.2.1 (by have:=h.2.2;lk);exact#[Cb (B:=1000001) (by cbv) c.1 (by have:=c.2.2;lk),Ib λd e=>by rw[Tk.mp e];exact c]
def N6(h:Du ss n Pd):Jg (EE Pd) n (ss++T0 0 .no):=by
 let#[M,u,rfl,a,g,p]:=h;have ok:=a.1;have i:=a.2.2;unfold Jg;refine#[_,AJ (j:=1) rfl,by show(M.ts.map Aj).length<=10000000;rw[No];lk,?_];refine CM (λd=>!(([Aj u]).any λy=>DQ y d)) id (λf=>∃s,f=[.sh^.lst [Aj u],s]) _ _ _ _ ?_ #[_,rfl] ?_
 .rintro d k f m x z ⟨s,rfl⟩ l o
  let#[t,q,rfl]:=TM.mp k;exists D8 ok q,(Xc g).2,_,rfl;exact DJ (λc=>l _ #[_,rfl] c) λc=>o _ #[_,rfl]^ji.mpr c
 .rw[jQ,nL]
  have e:(M.ts.map Aj).filter (λd=>!(([Aj u]).any λy=>DQ y d))=(BS M u).ts.map Aj:=by
   rw[oX]
   congr 1
   refine pL λt _=>?_;show(!((([u]:v_ BP).map Aj).any λy=>DQ y^Aj t))=decide (t≠u);rw[Ou,decide_not]
   congr 1
   rw[kT,decide_eq_true_eq,decide_eq_true_eq,Tk]
  rw[e];have b:=B3 a u;refine#[M,_,(BS M u).ts,rfl,rfl,by have:=b.2.2;lk,λr v w=>?_];rw[Gi b.1 b.1.trise v w];exact p
def Jo(h:IB ss n Pd):Fh (EE Pd) n (ss++T0 0 .no):=by
 let#[N,i,rfl,e,j,p]:=h;unfold Fh;exists by show(i.map pairD).length<=10000000;rw[No];have:=j.1;lk
 have l:∀(a:EZ) (b:v_ D) (f g:Slot),(∀q∈a,q.1∈N.ps/\q.2∈N.ps)->(∀d,Vq N a d->Pd (.lst (b++d.map HS)) n)->
   D6 (Bz 2^Aa (AT 1)^Aa (AT 2) BM) DU (AR RE^AB (AE^AC 0)^AB (AE^AC 1)^AB (AE^AC 2) AQ) (λb m=>Pd (.lst b) m) (a.map pairD) b n [.sh^enc N,f,g]:=by
  intro a
  induction a with
  |nil=>
   intro b f g _ h
   have:=h [] trivial
   rw[qP,jZ]at this;exact this
  |cons q a s=>
   intro b f g k h;let#[t,u]:=k q Rs;refine#[rfl,rfl,N,q.1,q.2,rfl,e,t,u,λo v=>?_];refine s (b++[HS o]) _ _ (λr w=>k r^Sc _ w) λd c=>?_
   have:=h (o::d) #[v,c]
   rw[j6];exact this
 exact l i [] _ _ j.2 λd c=>by rw[jQ];exact p d c
def Jr(h:RD ss n Pd):Fi (EE Pd) n (ss++T0 3 .no):=by
 let#[N,M,t,b,A,G,rfl,I,R,#[T,U,V,W],X,Y,p]:=h;unfold Fi;exists _,rfl
 have Z:∀(a done:EZ) (k C:v_^w_ Int) (r s u:Slot),done++a=A->C++k=G->C.length=done.length->Vq N a k->keepsP N t b done M->
   A7 (Bz 2^Aa (AT 4)^Aa (AT 5) BM) (BC (AZ^AX (Di t_) (AC 5)^wC D.non) (Ae (A3 6^AR RE^AB (AE^AC 3)^AB (AE^AX Az (AX Az (AC 1)^AC 4)^wC^D.int 0)^AB (AE^AX Az (AX Az (AC 1)^AC 4)^wC^D.int 1) AQ)
 (BC (EI (AZ^AX (Di u_) (AC 6)^wC D.non)^B0^AZ^AR Cj^AB (AE^AC 6)^AB (AE^AC 0)^AB (AE^AC 5) AQ) (Aq^AC 4) Av)) Av) {EE Pd with nx:=Aq (wC D.non)^EE Pd} (ET done.length (k.map HS)) n [.sh^.tup [.int t,.int b],.sh^.tup^A.map pairD,.sh^.lst^G.map HS,.sh^enc M,r,s,u]:=by
  intro a
  induction a with
  | nil=>
   intro done k C r s u e K L B O;cases k with
   |nil=>
    rw[jZ]at e;subst e;exact p s_ (λ_=>keepsB_iff.mpr O) λi e=>by cases e
   |cons _ _=>exact B.elim
  | cons q a ih=>
   intro done k C r s u e K L B O;cases k with
   |nil=>exact B.elim
   |cons o k=>
    let#[H,B]:=B;have e':(done++[q])++a=A:=by rw[j6];exact e
    have E:(A.map pairD)[done.length]?=P3^pairD q:=by rw[←e,jG,kH^Op _,nX];rfl
    have F:=X.2 q (by rw[←e];exact jU _ Rs);have skip:(∀d,Least N q.1 q.2 d->∃g,Least M q.1 q.2 g/\g*b<=d*t)->∀r s u,A7 (Bz 2^Aa (AT 4)^Aa (AT 5) BM) (BC (AZ^AX (Di t_) (AC 5)^wC D.non) (Ae (A3 6^AR RE^AB (AE^AC 3)^AB (AE^AX Az (AX Az (AC 1)^AC 4)^wC^D.int 0)^AB (AE^AX Az (AX Az (AC 1)^AC 4)^wC^D.int 1) AQ)
 (BC (EI (AZ^AX (Di u_) (AC 6)^wC D.non)^B0^AZ^AR Cj^AB (AE^AC 6)^AB (AE^AC 0)^AB (AE^AC 5) AQ) (Aq^AC 4) Av)) Av) {EE Pd with nx:=Aq (wC D.non)^EE Pd} (ET (done.length+1)^k.map HS) n [.sh^.tup [.int t,.int b],.sh^.tup^A.map pairD,.sh^.lst^G.map HS,.sh^enc M,r,s,u]:=λP r s u=>by
     have:=ih (done++[q]) k (C++[o]) r s u e' (by rw[j6];exact K) (by rw[jD,jD,L];rfl) B (λx v=>by
      rcases jK.mp v with v|v
      .exact O x v
      .rw[Tk.mp v];exact P)
     rw[jD,jV]at this;exact this
    have m:∀d,o=P3 d->(∀g,Least M q.1 q.2 g->¬g*b<=d*t)->Pd (.int (done.length:Int)) n:=λd od S=>by
     subst od;refine p (P3 (done.length:Int)) (λe=>by cases e) λi ei=>#[?_,done.length,q,d,by cases ei;rfl,by rw[←e,kH^Op _,nX];rfl,by rw[←K,←L,kH^Op _,nX];rfl,H,S];rw[ji];exact λz=>by let#[g,h1,h2]:=keepsB_iff.mp z q (by rw[←e];exact jU _ Rs) d H;exact S g h1 h2
    exists rfl,rfl,rfl;cases o with
    |none=>exact skip (λd hd=>absurd hd.1^H d) _ _ _
    | some d=>
     refine#[_,AJ E,_,AJ (j:=0) rfl,_,AJ E,_,AJ (j:=1) rfl,M,q.1,q.2,rfl,I,by rw[R];exact F.1,by rw[R];exact F.2,λo' w=>#[rfl,?_]];cases o' with
     |none=>exact m d rfl λg Q=>absurd Q.1^w g
     | some g=>
      exists g,t,b,d,rfl,T,U,V,W
      by_cases c:g*b<=d*t
      .rw[decide_eq_true c]
       exact skip (λd2 y=>#[g,w,by rw[Least.unique y H];exact c]) _ _ _
      .rw[decide_eq_false c]
       exact m d rfl λd2 y=>by rw[Least.unique y w];exact c
 exact Z A [] G [] _ _ _ rfl rfl rfl Y (λx v=>by cases v)
def Wd(h:cu ss n Pd):Cq (EE Pd) n (ss++T0 4 .no):=by
 let#[N,t,b,f,rfl,d,E,z,p]:=h;have ok:=d.1;have F:=d.2.2;unfold Cq;refine#[N,f,rfl,d,z,λA q=>?_];refine#[_,AJ (j:=1) rfl,N,_,N.ts,rfl,rfl,by lk,λG H I=>?_];rw[Gi ok ok.trise H I];refine#[_,AJ (j:=1) rfl,_,N.ts,rfl,rfl,by lk,λg B J=>#[_,rfl,?_]];rw[←oG];have c:∀u∈g.reverse,u∈N.ts:=λu l=>B.mem_iff.mp^lO.mp l;have p:=p g B J;revert c p;generalize g.reverse=rev;intro c p
 have K:∀(a:v_ BP) (M:Net) (r s:Slot),(∀u∈a,u∈N.ts)->okN M->M.ps=N.ps->Pd (enc^Ag N t b f M a) n->
   A7 (AT 5) (Ae (A3 6^AR Du^AB (AE^AC 4)^AB (AE^CG^AF (AC 5) AV) AQ)
 (BC (AZ^AX (Di u_) (AR RD^AB (AE^AC 1)^AB (AE^AC 2)^AB (AE^AC 3)^AB (AE^AC 6) AQ)^wC D.non) (A3 4^AC 6) Av)) {EE Pd with nx:=Aq (AC 4)^EE Pd} (a.map Aj) n [.sh^enc N,.sh^.tup [.int t,.int b],.sh^.tup^f.map pairD,.sh^.lst^A.map HS,.sh^enc M,r,s]:=by
  intro a
  induction a with
  |nil=>intro M r s _ _ _ h;exact h
  | cons u a C=>
   intro M r s l e x h;have m:Pd (enc (if BQ N t b f (BS M u)=t_ then Ag N t b f (BS M u) a else Ag N t b f M a)) n:=h;exists z1,M,u,rfl,e,Gh ok u^l u Rs;refine#[N,BS M u,t,b,f,A,rfl,B3 e u,x,E,z,q,λo L O=>#[rfl,?_]];cases o with
   |none=>
    rw[L rfl,if_pos rfl]at m;exact C (BS M u) _ _ (λv y=>l v^Sc _ y) (B3 e u) x m
   |some i=>
    rw[(O i rfl).1,if_neg^by cbv]at m;exact C M _ _ (λv y=>l v^Sc _ y) e x m
 exact K rev N _ _ c d rfl p
def Jp(h:Cj ss n Pd):Ex (EE Pd) n (ss++T0 0 .no):=by
 let#[l,t,b,x,rfl,d,a,e,c,p]:=h;unfold Ex;exact#[_,AJ (j:=1) rfl,gM (by lk) a,_,AJ (j:=0) rfl,gM (by lk) c,p]
def Kz(h:Fv ss n Pd):Fp (EE Pd) n (ss++T0 4 .no):=by
 let#[N,M,t,b,r,z,rfl,S,w,y,U,#[V,W,X,Y],Z,p]:=h;unfold Fp
 have go:∀(a done:EZ) (A B C E:Slot),done++a=r->keepsP N t b done M->
   A7 (Bz 2^Aa (AT 4)^Aa (AT 5) BM) (Ae (A3 6^PY (AR Ck^AB (Bt^AX Az (AC 0)^wC^D.int 1)^AB (AE^AC 4) AQ)^AC 5)
 (BC (AZ^AX (Di t_) (AC 6)^wC D.non) (Ae (A3 7^PY (AR Ck^AB (Bt^AC 3)^AB (AE^AC 4) AQ)^AC 5)
 (BC (EI (AZ^AX (Di u_) (AC 7)^wC D.non)^B0^AZ^AR Cj^AB (AE^AC 7)^AB (AE^AC 1)^AB (AE^AC 6) AQ) (Aq^wC^D.bl u_) Av)) Av)) {EE Pd with nx:=Aq (wC^D.bl t_)^EE Pd} (a.map pairD) n [.sh^enc N,.sh^.tup [.int t,.int b],.sh^.tup^r.map pairD,.sh z,A,B,C,E]:=by
  intro a
  induction a with
  |nil=>
   intro done A B C E e F;rw[jZ]at e;subst e;rw[keepsB_iff.mpr F]at p;exact p
  | cons q a O=>
   intro done A B C E e F;have P:(done++[q])++a=r:=by rw[j6];exact e
   have s:=Z.2 q^by rw[←e];exact jU _ Rs
   have skip:(∀d,Least N q.1 q.2 d->∃f,Least M q.1 q.2 f/\f*b<=d*t)->keepsP N t b (done++[q]) M:=λG x l=>by
    rcases jK.mp l with l|l
    .exact F x l
    .rw[Tk.mp l];exact G
   have i:¬(∀d,Least N q.1 q.2 d->∃f,Least M q.1 q.2 f/\f*b<=d*t)->Pd (.bl u_) n:=λhn=>by
    have:BQ N t b r M=u_:=by
     rw[ji];exact λz=>hn^keepsB_iff.mp z q^by rw[←e];exact jU _ Rs
    rw[this]at p;exact p
   refine#[rfl,rfl,_,AJ (j:=1) rfl,N,q.1,_,N.ts,rfl,rfl,λ_=>pP,w,s.1,λks ds K Mp T=>#[ks,ds,rfl,_,A2 q.2,?_]];rw[Tx Mp];have o:=T.far q.2;cases Q:K q.2 with
   |none=>
    rw[Q]at o;refine#[rfl,O (done++[q]) _ _ _ _ P (skip λd hd=>absurd hd.1^o d)]
   | some d=>
    rw[Q]at o;refine#[rfl,M,q.1,_,M.ts,rfl,S,λ_=>pP,y,by rw[U];exact s.1,λH I K2 J T2=>#[H,I,rfl,_,A2 q.2,?_]];rw[Tx J];have g:=T2.far q.2;cases u:K2 q.2 with
    |none=>
     rw[u]at g;exact#[rfl,i λh=>by let#[f,L,_]:=h d o;exact g f L.1]
    | some f=>
     rw[u]at g;exists rfl,f,t,b,d,rfl,V,W,X,Y
     by_cases c:f*b<=d*t
     .rw[decide_eq_true c]
      exact O (done++[q]) _ _ _ _ P (skip λd2 m=>#[f,g,by rw[Least.unique m o];exact c])
     .rw[decide_eq_false c]
      exact i λh=>by
       let#[d2,m,R]:=h d o;rw[Least.unique m g]at R;exact c R
 exact go r [] _ _ _ _ rfl (λx l=>by cases l)
end
end Nt
set_option maxRecDepth 10000
namespace St
open PySem.SetTable
def st(t:ou)(p:Probe):Nat->Probe
 |0=>p
 |n+1=>t.advance^st t p n
structure Ok (t:ou) (p:Probe):Prop where
 more:p.more<=9
 i:p.i<=t.mask
 j:p.j+p.more<=t.mask
 per:p.perturb<2 ^ 64
def it(m:Nat)(i:Nat):Nat->Nat
 |0=>i
 |n+1=>(it m i n*5+1) % (m+1)
def i9(m:Nat):Prop:=∀a,a<=m->∀b,b<=m->∃n,n<=m/\it m a n=b
def Up(c:Array Nat):Prop:=∀i k:Nat,i<k->∀a b:Nat,c[i]?=P3 a->c[k]?=P3 b->a<b
def In(t:ou)(j:Nat):Prop:=∃i:Nat,t.place[i]?=P3 j
structure Tab (t:ou) (hs:Nat->Option Int):Prop where
 cov:i9 t.mask
 dum:t.dummies=#[]
 up:Up t.place
 le:∀i j:Nat,t.place[i]?=P3 j->j<=t.mask
 few:t.place.size<=t.mask
 has:∀i j:Nat,t.place[i]?=P3 j->∃x,hs i=P3 x/\∃k:Nat,(st t (t.probeStart x) k).j=j/\∀k':Nat,k'<k->In t (st t (t.probeStart x) k').j
structure Lay (t:ou) (done:List Int) (o:Array^Option Nat):Prop where
 size:o.size=t.mask+1
 own:∀j q:Nat,o[j]?=P3^P3 q->∃x,done[q]?=P3 x/\∃k:Nat,(st t (t.probeStart x) k).j=j/\∀k':Nat,k'<k->∃q':Nat,o[(st t (t.probeStart x) k').j]?=P3 (P3 q')
 all:∀q:Nat,q<done.length->∃j:Nat,o[j]?=P3 (P3 q)
 inj:∀j j' q:Nat,o[j]?=P3^P3 q->o[j']?=P3^P3 q->j=j'
end St
set_option maxRecDepth 10000
set_option maxHeartbeats 1000000
namespace St
open PySem.SetTable
section
variable {prog:Program}{w:World}{K:Type}[DecidableEq K](knd:KeyKind prog w K)
def Holds(h:jI)(e:Int×Ev)(k:v_ K):Prop:=e.1=tupleKeyHash knd k/\∃b,e.2=.ref b/\IsTupleKey knd h k b
inductive Zy (h:jI):List (Int×Ev)->List^List K->Prop
 |nil:Zy h [] []
 |cons {e:Int×Ev}{k:List K}{es:List (Int×Ev)}{ks:List^List K}:Holds knd h e k->Zy h es ks->Zy h (e::es) (k::ks)
variable {knd}
variable (knd)
structure iU (B h:jI) (a:Db) (ks:List^List K) (o:Obj) (es:Array (Int×Ev)) (ep:Nat) (t:ou):Prop where
 sub:∀b o,B.get? b=P3 o->h.get? b=P3 o
 out:B.get? a=s_
 obj:h.get? a=P3 o
 ex:o.ExactSet
 dat:o.data=.set es ep t
 tab:Tab t (λi=>es[i]?.map (·.1))
 size:t.place.size=es.size
 mask:(t.mask=7/\es.size<=4)\/t.mask=31
 few:es.size<=18
 ents:∃kk,Zy knd B es.toList kk/\List.Perm kk ks
 nd:ks.Nodup
 plain:es.size=0\/t.plain=u_
 led:t.led=!(w.params.followText "set-order")
variable {knd}
end
end St
set_option maxHeartbeats 4000000
namespace St
open PySem.SetTable
section
variable {w:World}
variable {o:Obj}{es:Array (Int×Value)}{ep:Nat}{t:SetTable}
structure Rw (w:jT) (o:Obj) (es:Array (Int×Ev)) (ep:Nat) (t:ou):Prop where
 ex:o.ExactSet
 dat:o.data=.set es ep t
 fit:t.fits es.size=t_
 up:Up t.place
 size:t.place.size=es.size
 few:es.size<=sizeLine
 led:w.params.followText "set-order"=u_->t.led=t_
end
end St
namespace L2
open PySem.W
structure iE (keys:List^List Key) (js:List Nat):Prop where
 lt:∀j∈js,j<keys.length
 nd:(js.map λj=>keys.getD j []).Nodup
 all:∀x∈keys,x∈js.map λj=>keys.getD j []
 ord:∀i j,i<=j->j<js.length->Bw (keys.getD (js.getD j 0) [])^keys.getD (js.getD i 0) []=u_
end L2
namespace Dp
open L2
end Dp
namespace L2
open PySem.W
end L2
namespace Dp
open L2
end Dp
namespace L2
open PySem.W
end L2
namespace Dp
open L2
end Dp
namespace L2
end L2
namespace Dp
open L2
end Dp
namespace Nt
open L2 Dp
structure iS (N:Net) (s:Str) (F:L_) (c:Nat) (T:List BP):Prop where
 ins:∀t∈T,t∈N.ts
 nd:T.Nodup
 many:T.length+1=c
 wk:∀x d q,F x=P3 (d,q)->Wk (sub N T) s x d
inductive Cn (K:List BP) (x:Str):Str->Prop
 |refl:Cn K x x
 |step {y z:Str}:Cn K x y->(∃t∈K,(t.a=y/\t.b=z)\/(t.b=y/\t.a=z))->Cn K x z
section
structure jA (N:Net) (ks:List Key) (ds:List D) (F:Str->Option Str):Prop where
 m:Dmap ks ds D.str F
 i:∀x,F x≠s_->x∈N.ps
end
end Nt
namespace L2
section
variable {X:Cx}{zG:v_ (Addr×Obj)}{Z:St}{H:Hp}{s:Shared}
def RR{t:jY}{u:Ev->Go->Prop}{ss:v_ Str}{d:v_ Ev}{Q:VK}(I:Inv X zG Z H s)(f:StrsAre d ss)(g:d.length<64)
  (q:∀(c:v_ Str) (l:Db),c.Perm ss->sortedS c=t_->H l=s_->Q (.ref l)^A4 H l^.lst^c.map V.str):
  wpAny (model X.prog X.w) t (kz.«list.sort» #[[.ref s.heap.objs.size],[]]) (λh v=>h=.done^.ret .none/\EP X zG Z Q (.ref s.heap.objs.size) v) u {s with heap:=s.heap.push^seqObj "list" d.toArray 0}:=by
 have j:(s.heap.push^seqObj "list" d.toArray 0).get? s.heap.objs.size=P3^seqObj "list" d.toArray 0:=XV _ rfl;refine list_sort_treeK strKind_oneLt j f.keysOf (λk m n e=>keyKind_strs^by rw[←e];exact f) g λi x y=>#[rfl,?_];let#[c,p,r,A]:=sorted_out_str f x y;let#[e,B]:=sortedHeap_at (out:=(arrOf i).map (·.2)) j;have C:H s.heap.objs.size=s_:=I.fresh;have D:=(CV p).length;have E:=(CV f).length;have F:=r.length_eq;rw[No]at D E;refine#[.ref s.heap.objs.size,A4 H s.heap.objs.size^.lst^c.map V.str,I.laid (t':=s.toks) (λb o z=>?_) (Op _) #[by rw[No,jj];lk,_,e,CV p,B],rfl,q c _ r A C];rw[sortedHeap_old (jL^Uf z)^by rw[pO];exact ke^Uf z];exact FM _ z
def Wn:v_ V->Hp->VK->Prop:=λe H Q=>∃(d:Db) (b:v_ (Key×V)) (c:v_ Str),e=[.ref d]/\Rd H d^.dK b/\b.map (·.1)=c.map kg/\c.length<64 /\
 ∀(a:v_ Str) (l:Db),a.Perm c->sortedS a=t_->H l=s_->Q (.ref l)^A4 H l^.lst^a.map V.str
theorem Mz{P:jM}{w:jT}:∀{a:v_ Ev}{b:v_ Str},a.length=b.length->(∀(j:Nat) (v:Ev) (x:Str),a[j]?=P3 v->b[j]?=P3 x->(BH P w).is (.inr x) v=t_)->StrsAre a b
 |[],[],_,_=>.nil
 |[],_::_,h,_=>by cases h
 |_::_,[],h,_=>by cases h
 |u::a,x::b,h,k=>by
  let#[t,rfl]:=(cB (k:=.inr x) (k 0 u x rfl rfl):RelV (.str x) u);exact .cons x t^Mz (P:=P) (w:=w) (by simpa using h) λj v y c d=>k (j+1) v y (by simpa using c)^by simpa using d
def Lq(p:X.calm=t_):DR X (.builtin "sorted") Wn:=by
 intro zG s Z H T U Q I r h;let#[d,kvs,ss,rfl,t,e,y,q]:=h;let#[u,rfl,B]:=vals1 r;cases B;let#[_,C,E,g,o,F,ep,D]:=GX I.hok t;have G:=g.length;have b:kvs.length=ss.length:=by rw[←No (f:=(·.1)),e,No]
 refine Ef (kw:=[]) (args_sorted1 _) (λx=>args_list_sort _)^PySem.W.kdu_collect (PySem.W.kdl_dict (knd:=BH X.prog X.w) (kvs:=E) (ep:=ep) C) (show X.A.handled=s_ from I.ok.hd p) #[o,F,D] (by rw[jj];lk) λJ i K c a=>#[by rw[kO,a.1,jj];lk,?_];have L:Inv X zG Z H {s with heap:=J,toks:=i}:=I.kept (t':=i) c;refine RR (ss:=ss) L (Mz (P:=X.prog) (w:=X.w) (by rw[kO,a.1];lk) λj v x M l=>?_) (by rw[kO,a.1];lk) q;let#[k,z,N,O]:=a.2 j v (by rw[←p9];exact M);have m:j<kvs.length:=by rw[b];exact(ZB.mp l).1
 let#[R,_]:=LC g (On m) N;have n:(kvs.map (·.1))[j]?=P3 kvs[j].1:=by rw[jG,On m];rfl
 rw[e,jG,l]at n;have S:kg x=kvs[j].1:=jH n;rw[S,show kvs[j].1=k from R];exact O
end
end L2
namespace Dp
open L2
section
variable {X:Cx}
def SO(f:v_ D)(P:D->Prop):Prop:=∃(d:D) (c:v_ Key) (e:v_ D) (b:v_ Str),f=[d]/\Jb d=P3 (c,e)/\c.length=e.length/\c=b.map kg/\b.length<64/\(∀x∈b,x.length<=sizeLine)/\∀a:v_ Str,a.Perm b->sortedS a=t_->P^.lst^a.map .str
def UM:EY X.K .fr Wn SO:=by
 intro U M H s t P Q h u i w q;let#[d,y,z,j,rfl,k,A,m,b,n,w]:=w;let#[v,rfl,c]:=FK i;let#[a,B,rfl,o,p]:=Ip k c;have C:=p.length;refine#[a,_,j,rfl,o,?_,b,λe l f r g=>?_]
 .rw[List.map_fst_zip^by lk,m]
 .exact q _ _ _ (A1 g) (Cf g^Ats.strs λx c=>n x^f.mem_iff.mp c)^w e f r
end
end Dp
namespace L2
open AutoSeq1 (wpAny_loadPart')
def U5:typeLookup (.type "tuple") "__reversed__"=pure s_:=by rw[lY,ki];kernel_rfl
def item_tup:typeLookup (.type "tuple") "__getitem__"=pure^P3^.builtin "tuple.__getitem__":=by rw[lY,ki];kernel_rfl
def Pe:isSubtype (.type "tuple")^.type "dict"=pure u_:=by rw[m9];kernel_rfl
def MB:Slot "reversed" "__init__" "object.__init__":=
 .of (owner:="object") (n:="__init__") (by rw[lY,ki];kernel_rfl) (by decide +kernel) (by decide +kernel) (by decide +kernel)
  (by first|exact .inl (by decide +kernel)|exact .inr^by decide +kernel) (by rw[m9];kernel_rfl)
def called_reversed:TypeCalled "reversed" "reversed.__new__" "object.__init__":=
 #[by decide +kernel,F.create_reversed,#[_,_,F.mro_reversed],F.made_reversed,oY,F.sub_reversed_self,MB]
def slot_rev_next:Slot "reversed" "__next__" "reversed.__next__":=
 .of (owner:="reversed") (n:="__next__") (by rw[lY,ki];kernel_rfl) (by decide +kernel) (by decide +kernel) (by decide +kernel)
  (by first|exact .inl (by decide +kernel)|exact .inr^by decide +kernel) (by rw[m9];kernel_rfl)
def FY:entryFor table "reversed.__next__"=P3 kz.«reversed.__next__»:=entryFor_of_tree^by kernel_rfl
def IU:Manifest.owners.lookup^String.ofList ['d','e','s','r','e','v','e','r'].reverse=P3 Manifest.sig_reversed:=by kernel_rfl
def Gg(a:Ev):argsOk "reversed.__next__" #[[a],[]]:=by
 unfold argsOk;rw[signature?_of (id:="reversed.__next__") (n:=['_','_','t','x','e','n','_','_']) (o:=['d','e','s','r','e','v','e','r']) (by kernel_rfl) IU];kernel_rfl
def GG:Slot "reversed" "__iter__" "reversed.__iter__":=
 .of (owner:="reversed") (n:="__iter__") (by rw[lY,ki];kernel_rfl) (by decide +kernel) (by decide +kernel) (by decide +kernel)
  (by first|exact .inl (by decide +kernel)|exact .inr^by decide +kernel) (by rw[m9];kernel_rfl)
def Me(a:Ev):argsOk "reversed.__iter__" #[[a],[]]:=by
 unfold argsOk;rw[signature?_of (id:="reversed.__iter__") (n:=['_','_','r','e','t','i','_','_']) (o:=['d','e','s','r','e','v','e','r']) (by kernel_rfl) IU];kernel_rfl
def Lh:entryFor table "reversed.__iter__"=P3 kz.«dict_keyiterator.__iter__»:=
 entryFor_alias (id':="dict_keyiterator.__iter__") (by kernel_rfl) (by first|rfl|decide +kernel|(unfold String.splitOn;simp +decide [String.splitOnAux])) (by decide +kernel) (by kernel_rfl)
def U6:typeLookup (.type "reversed") "__len__"=pure s_:=by rw[lY,ki];kernel_rfl
def Xm:typeLookup (.type "reversed") "__length_hint__"=pure^P3^.builtin "reversed.__length_hint__":=by rw[lY,ki];kernel_rfl
def Pu(l:Db)(i:Int):Obj:={cls:=.type "reversed",data:=.fields #[ .ref l,rawInt i]}
def IsRt(h:jI)(a l:Db)(i:Int):Prop:=∃o,h.get? a=P3 o/\o.cls=.type "reversed"/\o.data=.fields #[ .ref l,rawInt i]
section
variable {prog:Program}{w:World}{A:Around}{E:Value->Shared->Prop}{s:Shared}
def Oh{l:Db}{c:Array Ev}{d:Ev->Go->Prop}(g:nc s.heap l c)(e:(c.size:Int)<2 ^ 63)
  (h:∀i,d (.ref s.heap.objs.size) {s with heap:=s.heap.push^Pu l ((c.size:Int) - 1),toks:=i}):
  codeAny (model prog w) A (.call (.builtin "reversed.__new__") #[[.type "reversed",.ref l],[]]) (wants d E) s:=by
 refine nQ ?_;show wpAny _ A.in1 (do checkBuiltinCall "reversed.__new__" #[[.type "reversed",.ref l],[]];again^.builtin "reversed.__new__" #[[.type "reversed",.ref l],[]]) _ _ s;refine Ch^k6 (F.newCall_reversed_1 _)^Re #[kQ oY _,kF F.entry_reversed_new ?_];rw[kL oY _];have f:s.TypeIs (.ref l) "tuple":=by let#[o,j,k,_]:=g;exact#[o,j,k]
 unfold kz.«reversed.__new__»;refine Ch^k6 (newClass_reversed _) ?_
 try dsimp only
 refine Ch^k6 (a:=()) (by first|rfl|kernel_rfl) ?_;refine Ch^k6 (a:=()) (by first|rfl|kernel_rfl) ?_
 try dsimp only
 refine Ch^lV f U5 ?_
 try dsimp only
 refine Ch^Ch^nF (b:=u_) f Pe ?_;simp only[kC,if_false];refine Ch^lV f item_tup ?_;show wpAny _ _ (if ["tuple.__getitem__","str.__getitem__","bytes.__getitem__","bytearray.__getitem__","memoryview.__getitem__","numpy.ndarray.__getitem__","sqlite3.Row.__getitem__"].contains "tuple.__getitem__"=t_ then pure t_ else _) _ _ _;rw[if_pos^by decide +kernel];refine Re ?_;simp only[Bool.not_true,kC,if_false];refine Ch^len_tuple g e ?_;refine Ch^Re ?_;show wpAny _ _ (newObj (.type "reversed")^.fields [jE l,rawInt ((c.size:Int) - 1)].toArray >>=_) _ _ _;exact Ch^j1^Re^h _
def Ol{l:Db}{a:Array Ev}{Q:Ev->Go->Prop}(g:nc s.heap l a)(e:(a.size:Int)<2 ^ 63)
  (h:∀f,Q (.ref s.heap.objs.size) {s with heap:=s.heap.push^Pu l ((a.size:Int) - 1),toks:=f}):wpAny (model prog w) A (call (.type "reversed") [.ref l]) Q E s:=by
 refine callType_codes (Q₁:=λd b=>b.TypeIs d "reversed"/\Q d b) called_reversed (F.typeCall_reversed_1 _) oi
  (Oh g e λf=>#[#[_,XV _ rfl,rfl],h f]) λd b c=>?_
 exact#[c.1,nG d _,pK called_reversed.init.lookup called_reversed.made (by cbv) prog w A.in1 _ b #[c.1,rfl,c.2]]
def IsRt.typeIs{a l:Db}{i:Int}(x:IsRt s.heap a l i):s.TypeIs (.ref a) "reversed":=let #[o,b,c,_]:=x;#[o,b,c]
def IsRt.at{h b:jI}{a l:Db}{i:Int}(x:IsRt h a l i)(e:∀o,h.get? a=P3 o->b.get? a=P3 o):IsRt b a l i:=let #[o,c,r]:=x;#[o,e _ c,r]
def ZJ{g l:Db}{i:Nat}{b:Array Ev}{x:Ev}{Q:w_ Ev->Go->Prop}(d:IsRt s.heap g l (i:Int))(p:nc s.heap l b)(hx:b[i]?=P3 x)(q:(i:Int)<2 ^ 63)
  (r:∀m t,IsRt m g l ((i:Int) - 1)->lz g s.heap m->Q (P3 x) {s with heap:=m,toks:=t}):wpAny (model prog w) A (pyNext^.ref g) Q E s:=by
 let#[o,e,n,k]:=id d;have u:s.TypeIs (.ref l) "tuple":=by let#[o,e,n,_]:=p;exact#[o,e,n]
 have v:i<b.size:=by
  rcases Nat.lt_or_ge i b.size with h|h
  .exact h
  .rw[n9 h]at hx;cases hx
 unfold pyNext
 refine Ch (lf (kI (name:=lE "__next__") d.typeIs slot_rev_next
  (kY slot_rev_next d.typeIs FY ?_^Gg _)))
 unfold kz.«reversed.__next__»;refine Ch (k6 (a:=(jE g,[])) rfl ?_)
 try dsimp only
 refine Ch (jf e k (x:=.ref l) rfl ?_);refine Ch (jf e k (x:=rawInt (i:Int)) rfl ?_);show wpAny _ _ (if(i:Int)<0 then _ else _) _ _ s;rw[if_neg^by lk];refine Ch^lV u item_tup ?_;simp only[Option.isNone_some,kC,if_false];refine Ch^wpAny_mkInt ?_;refine Ch^lf^getItem_tuple (s:={s with toks:=s.toks+1}) (j:=i) p (by lk) q (by unfold seqIndex?;simp;lk) hx ?_;refine Ch (jf e k (x:=rawInt (i:Int)) rfl ?_);show wpAny _ _ (setField (.ref g) 1^rawInt ((i:Int) - 1) >>=_) _ _ _;refine Ch^ln e k (by simp) ?_;refine Re #[x,rfl,Re^r _ _ ?_ (og ..)]
 exact#[_,jr _ e^m8^lG k _,(Obj.cls_mapFields ..).trans n,by
  rw[lG k];simp]
def QD{f l:Db}{Q:w_ Ev->Go->Prop}(j:A.handled=s_)(d:IsRt s.heap f l (-1))
  (p:∀k,pq f s.heap k->Q s_ {s with heap:=k}):wpAny (model prog w) A (pyNext^.ref f) Q E s:=by
 let#[o,h,r,g]:=id d;unfold pyNext
 refine Ch (lf (kI (name:=lE "__next__") d.typeIs slot_rev_next
  (kY slot_rev_next d.typeIs FY ?_^Gg _)))
 unfold kz.«reversed.__next__»;refine Ch (k6 (a:=(jE f,[])) rfl ?_)
 try dsimp only
 refine Ch (jf h g (x:=.ref l) rfl ?_);refine Ch (jf h g (x:=rawInt (-1)) rfl ?_);show wpAny _ _ (if(-1:Int)<0 then _ else _) _ _ s;rw[if_pos^by cbv];refine Ch^nE ?_;refine Ch ?_;show wpAny _ _ (setField (.ref f) 1^rawInt (-1) >>=λ_=>setField (.ref f) 0 .none) _ _ _;refine Ch^ln h g (by simp) ?_;have i:=jr (lc λq=>q.set! 1^rawInt (-1)) h^m8^lG g _;refine ln i (lG g _) (by simp) ?_;refine Ch ?_;show wpAny _ _ (newExc (.type "StopIteration") [] >>=_) _ _ _;refine Ch ?_;simp only[newExc,newTuple];refine Ch (j1 ?_^by size_fits);refine Ch (m:=firstArgMember _ _)^k6 (a:=jd) (by first|rfl|(simp only[firstArgMember];rfl)) ?_;refine j1 ?_ (by size_fits);simp only[raiseNew];refine Ch^wpAny_handled ?_
 first|rw[show A.in1.handled=s_ from j]|rw[j]
 refine Ch^Re^wpAny_throw ?_;refine Ch^nF (T:="StopIteration") (b:=t_) #[_,XV _ rfl,rfl] isSubtype_stop ?_;refine Re^p _ ?_;refine qQ (qQ ?_ _) _;intro b t n e;rw[nN _ _ _ _ n,nN _ _ _ _ n];exact e
def ZR{it l:Db}{i:Int}{Q:Ev->Go->Prop}(a:IsRt s.heap it l i)(h:Q (.ref it) s):wpAny (model prog w) A (pyIter^.ref it) Q E s:=by
 refine wpAny_pyIter_slot a.typeIs GG^kY GG a.typeIs Lh ?_^Me _;show wpAny _ _ (ret^.ref it) _ _ s;exact Re #[_,rfl,"reversed",_,a.typeIs,slot_rev_next.lookup,h]
end
def V2{g:jM}{w:jT}{A:jY}(z:A.handled=s_)(I l:Db)(m:l≠I)(a:Array Ev)(F:(a.size:Int)<2 ^ 63):
  Walks g w A I [I,l] [I] a.size (λi v=>a[a.size - 1 - i]?=P3 v) (λi h=>i<=a.size/\IsRt h I l ((a.size:Int) - 1 - (i:Int))/\nc h l a) where
 sub:=λb f=>by simp at f;simp[f]
 frame:=λ_ _ _ x u=>#[x.1,x.2.1.at λo e=>u I (by simp) o e,let #[o,n,r]:=x.2.2;#[o,u l (by simp) o n,r]]
 item:=λi s Q E B x j=>by
  have e:(a.size:Int) - 1 - (i:Int)=((a.size - 1 - i:Nat):Int):=by lk
  have c:=x.2.1;rw[e]at c;have y:a[a.size - 1 - i]?=P3 (a[a.size - 1 - i]'(by lk)):=kZ (by lk);refine ZJ c x.2.2 y (by lk) λp C d k=>?_;have D:((a.size - 1 - i:Nat):Int) - 1=(a.size:Int) - 1 - ((i+1:Nat):Int):=by lk
  rw[D]at d;exact j _ p C y #[B,d,let #[o,n,r]:=x.2.2;#[o,(k.2 l m).trans n,r]] λb o f q=>k.extBut b o (λh=>f^by simp[h]) q
 done:=λs Q E x j=>by
  have e:(a.size:Int) - 1 - (a.size:Int)=-1:=by lk
  have c:=x.2.1;rw[e]at c;exact QD z c λp t=>j p s.toks λb o f q=>t b o (λh=>f^by simp[h]) q
 self:=λ_ _ _ _ x j=>ZR x.2.1 j
def slot_rev_hint:Slot "reversed" "__length_hint__" "reversed.__length_hint__":=
 .of (owner:="reversed") (n:="__length_hint__") (by rw[lY,ki];kernel_rfl) (by decide +kernel) (by decide +kernel) (by decide +kernel)
  (by first|exact .inl (by decide +kernel)|exact .inr^by decide +kernel) (by rw[m9];kernel_rfl)
def Li:entryFor table "reversed.__length_hint__"=P3 kz.«reversed.__length_hint__»:=entryFor_of_tree^by kernel_rfl
def Mf(a:Ev):argsOk "reversed.__length_hint__" #[[a],[]]:=by
 unfold argsOk;rw[signature?_of (id:="reversed.__length_hint__") (n:=['_','_','t','n','i','h','_','h','t','g','n','e','l','_','_']) (o:=['d','e','s','r','e','v','e','r']) (by kernel_rfl) IU];kernel_rfl
def Yv{e:jM}{w:jT}{A:jY}{E:Ev->Go->Prop}{s:Go}{I l:Db}{c:Array Ev}{Q:Bool->Go->Prop}(d:IsRt s.heap I l ((c.size:Int) - 1))(j:nc s.heap l c)(p:c.size<=sizeLine)
  (k:∀b g,s.toks<=g->Q b {s with toks:=g}):wpAny (model e w) A (ko^.ref I) Q E s:=by
 have n:=jj;let#[o,h,q,i]:=id d;unfold ko;refine Ch^lV d.typeIs U6 ?_;show wpAny _ A (specialOf (jE I)^lE "__length_hint__" >>=_) _ _ _;refine Ch (lV d.typeIs Xm ?_)
 (generalize f:("reversed.__length_hint__":String)=id0;wp_delta;rw[show splitId id0=P3 ("reversed","__length_hint__")from by subst f;decide +kernel];subst f)
 refine Ch^nF (b:=t_) d.typeIs F.sub_reversed_self ?_;simp only[Bool.not_true,kC,if_false];rw[if_neg^by decide +kernel];refine Ch^nE ?_;refine Ch^k6 (slot_rev_hint.bind _) ?_;refine Ch^lf^kY slot_rev_hint d.typeIs Li ?_^Mf _;unfold kz.«reversed.__length_hint__»;refine Ch (k6 (a:=jE I) rfl ?_);refine Ch (jf h i (x:=.ref l) rfl ?_);show wpAny _ _ (if(jE l==jd)=t_ then _ else _) _ _ _;rw[if_neg (show ¬((jE l==jd)=t_)from jR)];refine Ch^len_tuple j (by lk) ?_;refine Ch^Re ?_;refine Ch (jf h i (x:=rawInt ((c.size:Int) - 1)) rfl ?_);show wpAny _ _ (if(c.size:Int)<((c.size:Int) - 1)+1 then _ else _) _ _ _;rw[if_neg^by lk];refine Ch^wpAny_mkInt^Re #[_,rfl,?_];refine Ch^Re ?_;show wpAny _ _ (if(!Builtin.List.listFitsIndex ((c.size:Int) - 1+1))=t_ then _ else _) _ _ _;rw[if_neg (by unfold Builtin.List.listFitsIndex;simp;lk),if_neg^by lk,if_neg^by unfold mS;simp;lk];exact Re^k _ _^jJ (jJ (jk _)^jk _)^jk _
section
variable {prog:Program}{w:World}{A:Around}{E:Value->Shared->Prop}{s:Shared}{I:Addr}{fp wr:v_ Addr}{G:Array GenState->Array GenState->Prop}{n:Nat}{P:Nat->Value->Prop}{St:Nat->Shared->Prop}
def SY{Q:v_ Ev->Go->Prop}(S:∀(A:jY) (E:Ev->Go->Prop) (f:Go) (Q:Bool->Go->Prop),St 0 f->(∀b p,f.toks<=p->Q b {f with toks:=p})->wpAny (model prog w) A (ko^.ref I) Q E f)
  (W:WalksS prog w A.in1 I fp wr G n P St) (T:∀i s,St i s->s.TypeIs (.ref I) "reversed") (J:St 0 s) (K:∀b∈fp,b<s.heap.objs.size) (U:I∈fp)
  (V:∀f d,Moved wr G s f->oq P d n->Q d.toList f) (hn:n<=sizeLine):wpAny (model prog w) A (collect^.ref I) Q E s:=by
 have t:s.heap.objs.size∉fp:=λu=>j7 _^K _ u;have L:s.heap.objs.size≠I:=λe=>t (e▸U);unfold collect;refine Ch^wpAny_runValue^kF F.entry_proto_collect ?_;rw[kL F.plain_proto_collect _];show wpAny _ A.in1 (newList [] >>=λl=>again^.builtin "list.__iadd__" #[[l,.ref I],[]]) _ _ s;refine Ch^j1 ?_;refine Re #[kQ nk _,kF F.entry_list_iadd ?_];rw[kL nk _];have a:=W.frame 0 s (s.heap.push {cls:=.type "list",data:=.seq ([]:v_ Ev).toArray}) s.toks J (Op _) λb _ o e=>FM _ e;have g:(s.heap.push {cls:=.type "list",data:=.seq ([]:v_ Ev).toArray}).get? s.heap.objs.size=P3 {cls:=.type "list",data:=.seq ([]:v_ Ev).toArray}:=XV _ rfl;have M:mV (.ref s.heap.objs.size)^.ref I=u_:=by simp[mV,L]
 show wpAny _ A.in1 (kn (.ref s.heap.objs.size) (.ref I)^.ref s.heap.objs.size) _ _ _;unfold kn;refine Ch^l7 (T 0 _ a) ?_;rw[if_neg^by rw[M];decide];refine Ch^W.self 0 _ _ _ a ?_;refine Ch^jn ?_;refine S _ _ _ _ a λb p v=>?_
 have z:∀(h:jI) (q m:Nat),s.toks<=m->St 0 {s with heap:=h,toks:=m}->h.get? s.heap.objs.size=P3 {cls:=.type "list",data:=.seq #[] q}->(∀b o,b≠s.heap.objs.size->s.heap.get? b=P3 o->h.get? b=P3 o)->
   ∀R:Result->Go->Prop,(∀f d c,f.heap.get? s.heap.objs.size=P3 {cls:=.type "list",dict:=s_,data:=.seq d c,slots:=#[]}->Moved wr G s f->oq P d n->R (.ok^.ret^.ref s.heap.objs.size) f)->
   codeAny (model prog w) A (.builtin "list.extend.loop" #[[.ref s.heap.objs.size,.ref I,.ref s.heap.objs.size],[]]) R {s with heap:=h,toks:=m}:=by
  intro h q m X N Y Z R hR;refine codeAny_extend_loopS W hn _ t _ n 0 _ _ _ rfl (eq _) N Y (ItemsOf.nil P) λf B c' u O C=>hR f B c' O #[λb o y e=>u.heap b o (λj=>?_)^Z b o (jL^Uf e) e,u.gens,u.drawn,u.os,jJ X u.toks] C
  rcases UF.mp j with e'|j
  .exact absurd (Uf e)^by rw[e'];exact j7 _
  .exact y j
 have r:∀f d c,f.heap.get? s.heap.objs.size=P3 {cls:=.type "list",dict:=s_,data:=.seq d c,slots:=#[]}->Moved wr G s f->oq P d n->wpAny (model prog w) A (load s.heap.objs.size >>=λo=>match o.data with
   |.seq xs _=>pure xs.toList
   |_=>unsupported "internal:collect") Q E f:=λf d c M h2 h3=>Ch^wpAny_load M^Re^V f d h2 h3
 have D:=W.frame 0 _ (s.heap.push {cls:=.type "list",data:=.seq ([]:v_ Ev).toArray}) p a v λb _ o e=>e;refine wpAny_ite_split (λ_=>?_) λ_=>Re #[kQ oh _,z _ 0 p v D g (λb o _ e=>FM _ e) _ r];refine Ch^nE ?_;refine Ch ?_;show wpAny _ _ (updateSeq s.heap.objs.size (·.push .none) >>=λ_=>updateSeq s.heap.objs.size (·.pop)) _ _ _;refine Ch (mn g rfl ?_);have k:=jr (j9 (·.push jd)) g rfl;refine mn (hz:=by seq_fits) k rfl ?_;have x:=jr (j9 (·.pop)) k rfl;refine Re #[kQ oh _,z _ _ p v ?_ x (λb o y e=>?_) _ r]
 .refine W.frame 0 {s with heap:=s.heap.push {cls:=.type "list",data:=.seq ([]:v_ Ev).toArray},toks:=p} _ p D (Op _) λb y o e=>?_
  have H:b≠s.heap.objs.size:=λh=>t (h▸y);exact(jF _ _^jv H).trans^(jF _ _^jv H).trans e
 .exact(jF _ _^jv y).trans^(jF _ _^jv y).trans^FM _ e
def Ma{Q₁:Ev->Go->Prop}(hH:∀(A:jY) (E:Ev->Go->Prop) (s':Go) (Q:Bool->Go->Prop),St 0 s'->(∀b tk,s'.toks<=tk->Q b {s' with toks:=tk})->wpAny (model prog w) A (ko^.ref I) Q E s')(W:WalksS prog w A.in1.in1 I fp wr G n P St)(hT:∀i s,St i s->s.TypeIs (.ref I) "reversed")(hst:St 0 s)(hfp:∀b∈fp,b<s.heap.objs.size)(hI:I∈fp)
  (h:∀s' acc,Moved wr G s s'->oq P acc n->Q₁ (.ref s'.heap.objs.size) {s' with heap:=s'.heap.push {cls:=.type "tuple",data:=.seq acc}}) (hsz:n<=sizeLine):
  codeAny (model prog w) A (.call (.builtin "tuple.__new__") #[[.type "tuple",.ref I],[]]) (wants Q₁ E) s:=by
 refine nQ ?_;show wpAny _ A.in1 (do checkBuiltinCall "tuple.__new__" #[[.type "tuple",.ref I],[]];again^.builtin "tuple.__new__" #[[.type "tuple",.ref I],[]]) _ _ s;refine Ch^k6 (F.newCall_tuple_1 _)^Re #[kQ nt _,kF F.entry_tuple_new ?_];rw[kL nt _];have hsub:=sub_tuple_self;have hinit:=init_tuple_lookup;have hmh:=madeHere_tuple;have hTI:=hT 0 s hst
 wp_walk using l7 hTI,SY (hn:=hsz) hH W hT hst hfp hI
 intro s' acc hm hacc;show wpAny _ _ (lF acc.toList.toArray >>=λv=>ret v) _ _ _;unfold lF;refine Ch (j1 ?_^by show acc.toList.toArray.size<=sizeLine;simp only[qE];rw[hacc.1];exact hsz);refine Re ?_;have e:acc.toList.toArray=acc:=by simp
 rw[e];exact h s' acc hm hacc
def Mb{Q:Ev->Go->Prop}(hH:∀(A:jY) (E:Ev->Go->Prop) (c:Go) (Q:Bool->Go->Prop),St 0 c->(∀b k,c.toks<=k->Q b {c with toks:=k})->wpAny (model prog w) A (ko^.ref I) Q E c)(W:WalksS prog w A.in1.in1.in1 I fp wr G n P St)(l:∀i s,St i s->s.TypeIs (.ref I) "reversed")(h:St 0 s)(j:∀b∈fp,b<s.heap.objs.size)(m:I∈fp)
  (o:∀c e,Moved wr G s c->oq P e n->Q (.ref c.heap.objs.size) {c with heap:=c.heap.push {cls:=.type "tuple",data:=.seq e}}) (hsz:n<=sizeLine):
  wpAny (model prog w) A (call (.type "tuple") [.ref I]) Q E s:=by
 refine callType_codes (Q₁:=λf a=>a.TypeIs f "tuple"/\Q f a) m_ (F.typeCall_tuple_1 _) oi
  (Ma (hsz:=hsz) hH W l h j m λc e p g=>#[#[_,XV _ rfl,rfl],o c e p g]) λf a d=>?_
 exact#[d.1,nG f _,pK m_.init.lookup m_.made (by cbv) prog w A.in1 _ a #[d.1,rfl,d.2]]
end
section
variable {X:Cx}{e:Expr}{te:TE}{p1 p2 q1 q2:Pos}
def WK(K:Frag)(te:TE):TE:=λZ H Q=>te Z H λx a=>∃l b,x=.ref l/\SqT K a l b/\∀r,a r=s_->Q (.ref r)^A4 a r^.tup b.reverse
def Ru(D:X.calm=t_)(he:PE X e te)(E:Gl X "tuple")(F:X.mg "tuple"=s_)(G:Gl X "reversed")(J:X.mg "reversed"=s_)(W:starEach [nY (.Name "reversed" p2) [e] [] q2] X.env=[(u_,eval (nY (.Name "reversed" p2) [e] [] q2) X.env)]:=by rfl)
  (Y:starEach [e] X.env=[(u_,eval e X.env)]:=by rfl):PE X (.Call (.Name "tuple" p1) [.Call (.Name "reversed" p2) [e] [] q2] [] q1)^WK X.K te:=by
 intro B s Z H Q I h;refine jq^DF I E F kX ?_;refine jw ?_ W rfl;rw[W];refine kU ?_;refine jq^DF I G J boot_reversed ?_;refine jw ?_ Y rfl;rw[Y];refine kU^thn (he B s Z H _ I h) λu d #[x,n,p,r1,l,L,ex,M,q]=>k8 ?_;subst ex;cases r1;let#[a,r',pl,N]:=p.tuple M;have g:=r'.length;have O:nc d.heap l a.toArray:=pl;have t:l<d.heap.objs.size:=by let#[_,e,_]:=id O;exact Uf e
 have j:((a.toArray.size:Nat):Int)<2 ^ 63:=by rw[f8,←g];have:=jj;lk
 refine Ol O j λk=>k8 ?_;have P:n d.heap.objs.size=s_:=p.fresh;have I2:Inv X B Z n {d with heap:=d.heap.push^Pu l ((a.toArray.size:Int) - 1),toks:=k}:=p.kept (t':=k) λb o e=>FM _ e;have R:Fx X B n d.heap.objs.size:=p.fpOk (Op _) P;refine Mb (hH:=λ_ _ S _ h M=>Yv (by have:=h.2.1;rw[show((a.toArray.size:Nat):Int) - 1 - ((0:Nat):Int)=((a.toArray.size:Nat):Int) - 1 by lk]at this;exact this) h.2.2 (by rw[f8,←g];exact N) M) (s:={d with heap:=d.heap.push^Pu l ((a.toArray.size:Int) - 1),toks:=k}) (V2 (A:=X.A.in1.in1.in1) (p.ok.hd D) d.heap.objs.size l (jL t) a.toArray j).toS (λi S hs=>hs.2.1.typeIs) #[eq _,#[_,XV _ rfl,rfl,by show Data.fields _=_;simp[Pu]],(let #[o,ho,r]:=O;#[o,FM _ ho,r])] (λb v=>?_) Rs (λS f C y=>?_)^by rw[f8,←g];exact N
 .rcases UF.mp v with rfl|v
  .exact Uf (XV _ rfl)
  .obtain rfl:=Tk.mp v
   exact jW t^by show d.heap.objs.size<=(d.heap.push _).objs.size;rw[pO];exact jk _
 .let#[h',g',d',m,T]:=S
  have e1:g'=d.gens:=C.gens;have e2:d'=d.drawn:=C.drawn;have e3:T=d.os:=C.os;subst e1 e2 e3;have U:=I2.turnedL (h':=h') (t':=m) (ch:=[d.heap.objs.size]) (λc D=>by rw[Tk.mp D];exact R) λb o v e=>C.heap b o v e;have I3:Inv X B Z n {d with heap:=h',toks:=m}:=U
  have hv:f.toList=a.reverse:=by
   refine List.ext_getElem? λi=>?_;let#[a1,a2]:=y;have e0:f.toList[i]?=f[i]?:=by simp
   rw[e0]
   by_cases hi:i<a.length
   .have z:i<f.size:=by rw[a1,f8];exact hi
    have a3:=a2 i f[i] (kZ z);rw[oK hi,kZ z,←a3,f8];simp
   .rw[oJ^by rw[kG];lk]
    exact n9^by rw[a1,f8];lk
  have V:f=a.reverse.toArray:=by rw[←hv]
  have rr:Vals L.reverse a.reverse:=r'.reverse;refine#[.ref h'.objs.size,A4 n h'.objs.size^.tup L.reverse,I3.laid (t':=m) (λb o e=>FM _ e) (Op _) (show ObjOk X.prog X.w _ _ _^.tup L.reverse from#[by rw[kG];exact N,a.reverse,rr,by rw[V];exact IsTupN.new _ _]),rfl,q _^I3.hok.fresh^Op _]
end
end L2
namespace Dp
open L2
def KQ(b:DW):DW:=λn c P=>b n c λd e=>∃a,d=.tup a/\P (.tup a.reverse) e
section
variable {X:Cx}{a:Expr}{zU:Kd}{wa:DW}{p1 p2 q1 q2:Pos}
def SU(m:X.calm=t_)(o:DE X a zU wa)(b:Gl X "tuple")(c:X.mg "tuple"=s_)(e:Gl X "reversed")(f:X.mg "reversed"=s_)(s:starEach [nY (.Name "reversed" p2) [a] [] q2] X.env=[(u_,eval (nY (.Name "reversed" p2) [a] [] q2) X.env)]:=by rfl)
  (u:starEach [a] X.env=[(u_,eval a X.env)]:=by rfl):DE X (.Call (.Name "tuple" p1) [.Call (.Name "reversed" p2) [a] [] q2] [] q1) .sh^KQ wa:=by
 let#[t,x,y]:=o;refine#[_,Ru m x b c e f s u,λC M H n z Z P Q R w q=>?_];refine y C M H n z Z _ _ R w λv h d A i j B p=>?_;let#[D,rfl,p]:=p;have E:=R.step i j;let#[F,k,rfl,G,I]:=(B.tpOf R.dom R.vM).tup;refine#[F,k,rfl,G.sq,λr l=>?_];have g:Grow h^A4 h r^.tup k.reverse:=A1 l;exact q _ _ (.tup D.reverse) A (i.trans g.ext) (j.grow g) (Ce E.dom l^I.reverse) p
end
end Dp
namespace Nt
open L2 Dp
def iz(N:Net)(s x:Str):Prop:=∃d,Wk N s x d
structure iX (N:Net) (s:Str) (ks:List Key):Prop where
 nd:ks.Nodup
 dom:∀k∈ks,∃x:Str,k=.inr x
 mem:∀x:Str,.inr x∈ks↔iz N s x
def Iw:W2:=λa n P=>a=[.fd]/\1<=n/\∀(e:D),fine (10 ^ 35) e->DC e<=250->Gz e<=2->P e (n - 1)
inductive YS:D->Prop
 |s (x:Str):YS^.str x
 |i (k:Int):YS^.int k
 |t (xs:List D) (h:∀x,x∈xs->YS x):YS^.tup xs
def PU(j:Nat):W2:=λc n P=>∃(d:D) (a:v_ Str) (i:Nat),c=[.fd,.sh d,.sh^.tup^a.map .str,.sh^.int i]/\i<=j/\YS d/\fine (10 ^ 34) d/\a≠[]/\a.length<=24/\(∀x∈a,SI x)/\DC d<=50000/\3*j+3<=n/\∀(e:D) (b:Nat),fine (10 ^ 35) e->DC e<=2*DC d+500->Gz e<=Gz d+3->n - (3*j+3)<=b->P e b
def PF:W2:=λd n P=>∃a:v_ BP,d=[.fd,.sh^.tup^a.map Aj]/\a.length+1<=n/\a.length<=60/\∀(b:v_ BP) (c:Nat),b.Sublist a->n - 1 - a.length<=c->P (.tup^b.map Aj) c
def Gd:Ac:=(Ae (A3 2^AX A5 (wC^D.int 1)^AR Bn^AB (A_ 0)^AB (AE^wC^D.int 4) AQ)
 (Aq^CI BI^AF (Bi [P3 0,P3 2,s_] (A0^AC 1) (AT 2) (AZ^AX (f2 λi j=>D.bl (decide (j<i))) (AR Bn^AB (A_ 0)^AB (AE^AX A5 (wC^D.int 1)^AC 1) AQ)^wC^D.int 0)^AC 2) AV))
def Hv:Ac:=(Ae (A3 1^CG^AF (wC D.non)^AF (wC^D.bl t_)^AF (wC^D.int 0)^AF (wC^D.int 1)^AF (Nn^wC^D.int 1)^AF (wC^D.int 7)^AF (wC^D.str "a")^AF (wC^D.str "in")^AF (wC^D.str "")^AF (BK AV)^AF (CG AV)^AF (BK^AF (wC^D.str "a") AV)^AF (CG^AF (wC^D.str "a") AV)^AF (BK^AF (wC^D.str "in")^AF (BK AV) AV)^AF (AX (Vv L9 λi j=>D.int (i ^ j.toNat)) (wC^D.int 10)^wC^D.int 30)^AF (BK^AF (wC^D.str "a")^AF (wC^D.str "a") AV) AV)
 (Aq^AX Az (AC 1)^AR Bn^AB (A_ 0)^AB (AE^wC^D.int 16) AQ))
def Ge(Wbent:W2):Ac:=(Ae (A3 4^AR Bn^AB (A_ 0)^AB (AE^wC^D.int 9) AQ)
 (Ae (BC (AZ^KU "tuple"^AC 1) (Ae (A3 5^AR Bn^AB (A_ 0)^AB (AE^AX A5 (CI EB^AF (AC 1) AV)^wC^D.int 1) AQ)
 (Ae (BC (EJ (AZ^AX (f2 λi j=>D.bl (decide (j<i))) (AC 4)^wC^D.int 3)^EJ (AZ^AX FV (AC 5)^CI EB^AF (AC 1) AV)^AZ^AX (f2 λi j=>D.bl (decide (j<i))) (AC 3)^wC^D.int 0) (Ae (A3 6^AR Wbent^AB (A_ 0)^AB (AE^AX Az (AC 1)^AC 5)^AB (AE^AC 2)^AB (AE^AX GW (AC 3)^wC^D.int 1) AQ)
 (Aq^AX A5 (AX A5 (IF Co (AC 1) BG^Bk^AC 5)^BK^AF (AC 6) AV)^IF Co (AC 1) (Bk^AX A5 (AC 5)^wC^D.int 1) BG)) Av)
 (Ae (BC (EI (AZ^AX (J7 u_) (AC 4)^wC^D.int 0)^AZ^AX (J7 u_) (AC 4)^wC^D.int 4) (Aq^AX A5 (IF Co (AC 1) BG^Bk^AC 5)^IF Co (AC 1) (Bk^AX A5 (AC 5)^wC^D.int 1) BG) Av)
 (Ae (BC (AZ^AX (J7 u_) (AC 4)^wC^D.int 1) (Aq^AX A5 (AX A5 (IF Co (AC 1) BG^Bk^AC 5)^IF Co (AC 1) (Bk^AC 5)^Bk^AX A5 (AC 5)^wC^D.int 1)^IF Co (AC 1) (Bk^AC 5) BG) Av)
 (Ae (BC (AZ^AX (J7 u_) (AC 4)^wC^D.int 2) (Aq^AX A5 (AX A5 (IF Co (AC 1) BG^Bk^AC 5)^BK^AF (AR Iw^AB (A_ 0) AQ) AV)^IF Co (AC 1) (Bk^AC 5) BG) Av)
 (Aq^AX Az (CG^AF (CI Lf^AF (AC 1) AV)^AF (KQ^AC 1) AV)^AR Bn^AB (A_ 0)^AB (AE^wC^D.int 2) AQ)))))) Av)
 (Ae (BC (EJ (AZ^KU "str"^AC 1)^AZ^AX (f2 λi j=>D.bl (decide (j<i))) (AC 4)^wC^D.int 1) (Aq^AX Az (AC 2)^AR Bn^AB (A_ 0)^AB (AE^CI EB^AF (AC 2) AV) AQ) Av)
 (Ae (BC (EJ (AZ^KU "int"^AC 1)^AZ^AX (f2 λi j=>D.bl (decide (j<i))) (AC 4)^wC^D.int 1) (Aq^AX Az (CG^AF (AX A5 (AC 1)^wC^D.int 1)^AF (AX GW (AC 1)^wC^D.int 1)^AF (AX (J7 u_) (AC 1)^wC^D.int 1)^AF (AX A5 (AC 1)^AX (Vv L9 λi j=>D.int (i ^ j.toNat)) (wC^D.int 10)^wC^D.int 6)^AF (wC^D.int 0)^AF (AX GW (AC 1)^wC^D.int 7)^AF (AX A5 (AC 1)^wC^D.int 13) AV)^AX GW (AC 4)^wC^D.int 2) Av)
 (Aq^AR Iw^AB (A_ 0) AQ)))))
section
variable {ss:v_ Slot}{n:Nat}{Pd:D->Nat->Prop}
def MJ(h:PF ss n Pd):Gd (EE Pd) n (ss++T0 1 .no):=by
 let#[c,rfl,u,l,p]:=h;unfold Gd;refine#[4,rfl,by cbv,by cbv,by lk,λsh v w=>?_];exists by show(c.map Aj).length<=10000000;rw[No];lk
 have o:∀(a done b:v_ BP) (m:Nat) (s:Slot),done++a=c->b.Sublist done->n - 1 - done.length<=m->
   D6 (AT 2) (AZ^AX (f2 λi j=>D.bl (decide (j<i))) (AR Bn^AB (A_ 0)^AB (AE^AX A5 (wC^D.int 1)^AC 1) AQ)^wC^D.int 0) (AC 2) (λb q=>Pd (.tup b) q) (a.map Aj) (b.map Aj) m [.fd,.sh^.int (1+sh),s]:=by
  intro a
  induction a with
  |nil=>
   intro done b m s e d f;rw[jZ]at e;subst e;exact p b m d f
  | cons t a g=>
   intro done b m s e d f;have x:done.length+(a.length+1)=c.length:=by rw[←e,jD,jC]
   have k:(done++[t])++a=c:=by rw[j6];exact e
   refine#[_,rfl,by lk,by lk,by lk,λr y z=>?_];refine DJ (λ_=>?_) λ_=>?_
   .have:=g (done++[t]) (b++[t]) (m - 1) (.sh^Aj t) k (d.append^pM [t])^by rw[jD,jV];lk
    rw[jz]at this;exact this
   .exact g (done++[t]) b (m - 1) (.sh^Aj t) k (d.trans^List.sublist_append_left _ _)^by rw[jD,jV];lk
 exact o c [] [] _ _ rfl (pM _) (by simp)
theorem Ie:∀{a:v_ Key},(∀k∈a,∃x:Str,k=.inr x)->∃ss:v_ Str,a=ss.map kg
 |[],_=>#[[],rfl]
 |k::a,h=>by
  let#[x,rfl]:=h k Rs;let#[ss,e]:=Ie λj b=>h j^Sc _ b;exact#[x::ss,by rw[e];rfl]
def Wf(h:Iw ss n Pd):Hv (EE Pd) n (ss++T0 1 .no):=by
 let#[rfl,u,p]:=h;have m:=PySem.sizeLine_eq
 have a:∀z∈[D.non,.bl t_,.int 0,.int 1,.int (-1),.int 7,.str "a",.str "in",.str "",.tup [],.lst [],.tup [.str "a"],.lst [.str "a"],.tup [.str "in",.tup []],.int (10 ^ (30:Int).toNat),.tup [.str "a",.str "a"]],fine (10 ^ 35) z/\DC z<=250/\Gz z<=2:=by
  have b:∀x∈[("a":Str),"in",""],(∀c∈cs x,c<1114112)/\x.length<=9:=by decide +kernel
  have d:fine (10 ^ 35)^.str "a":=(b _^by simp).1;have l:fine (10 ^ 35)^.str "in":=(b _^by simp).1;have v:DC^.str "a"<=9:=(b _^by simp).2;have w:DC^.str "in"<=9:=(b _^by simp).2;have e:∀i:Int,i.natAbs<=10 ^ 35->fine (10 ^ 35)^.int i:=λi h=>h;intro z f;simp only[UF,jO,or_false]at f
  rcases f with rfl|rfl|rfl|rfl|rfl|rfl|rfl|rfl|rfl|rfl|rfl|rfl|rfl|rfl|rfl|rfl
  .exact#[trivial,eq _,eq _]
  .exact#[trivial,eq _,eq _]
  .exact#[e _^by cbv,by show 200<=_;lk,eq _]
  .exact#[e _^by cbv,by show 200<=_;lk,eq _]
  .exact#[e _^by cbv,by show 200<=_;lk,eq _]
  .exact#[e _^by cbv,by show 200<=_;lk,eq _]
  .exact#[d,by lk,eq _]
  .exact#[l,by lk,eq _]
  .exact#[(b ""^by simp).1,jJ (b ""^by simp).2 (by lk),eq _]
  .exact#[trivial,eq _,by show 0+1<=_;lk]
  .exact#[trivial,eq _,by show 0+1<=_;lk]
  .exact#[#[d,trivial],by show DC^.str "a"+1+0<=_;lk,by show max 0 0+1<=_;decide]
  .exact#[#[d,trivial],by show DC^.str "a"+1+0<=_;lk,by show max 0 0+1<=_;decide]
  .exact#[#[l,trivial,trivial],by show DC^.str "in"+1+(0+1+0)<=_;lk,by show max 0^max (0+1) 0+1<=_;decide]
  .exact#[e _^by cbv,by show 200<=_;lk,eq _]
  .exact#[#[d,d,trivial],by show DC^.str "a"+1+(DC^.str "a"+1+0)<=_;lk,by show max 0^max 0 0+1<=_;decide]
 unfold Hv;exists 1,rfl,(by cbv:0<=sizeLine),(by cbv:0<=sizeLine),(by cbv:1<=sizeLine),(by cbv:1<=sizeLine),(by cbv:0<=sizeLine),(by cbv:2<=sizeLine),#[by cbv,by cbv,by cbv],(by cbv:2<=sizeLine),(by cbv:16<=sizeLine);refine#[16,rfl,by cbv,by cbv,by lk,λr y A=>?_];obtain⟨k,rfl⟩:∃k:Nat,r=(k:Int):=#[r.toNat,by lk];have o:k<16:=by lk
 generalize g:[D.non,.bl t_,.int 0,.int 1,.int (-1),.int 7,.str "a",.str "in",.str "",.tup [],.lst [],.tup [.str "a"],.lst [.str "a"],.tup [.str "in",.tup []],.int (10 ^ (30:Int).toNat),.tup [.str "a",.str "a"]]=zs at a;have j:k<zs.length:=by rw[←g];exact o
 let#[q,s,t]:=a zs[k] (jm j);refine#[zs[k],?_,p _ q s t];subst g;exact AJ^On j
def Us{T:W2}{j:Nat}(A:∀ss n P,j≠0->PU (j - 1) ss n P->T ss n P)(h0:PU j ss n Pd):Ge T (EE Pd) n (ss++T0 3 .no):=by
 let#[d,B,i,rfl,q,hT,O,C,Q,E,hz,hn,p]:=h0;have a2:=PySem.sizeLine_eq;have F:∀m:Nat,n - 1<=m->Iw [.fd] m Pd:=λm g=>#[rfl,by lk,λe l U G=>p e _ l (by lk) (by lk)^by lk];unfold Ge;refine#[9,rfl,by cbv,by cbv,by lk,λw w0 w1=>?_];cases hT with
 |s x=>
  refine DJ (λc=>?_) λc=>F (n - 1) (by lk);have hl:(B.map D.str).length=B.length:=No ..;have hp:=List.length_pos_iff.mpr C;refine#[_,_,rfl,rfl,_,rfl,by lk,by lk,by lk,λr V L=>?_];let#[y,M,ey]:=Zs (ps:=B) V (by lk);exists _,ey;have W:=E y M;exact p _ _ (show ∀c∈cs y,c<1114112 from λc hc=>by have:=W.2.2 c hc;lk) (by show y.length<=_;have:=W.2.1;lk) (eq _)^by lk
 | i k=>
  have N:k.natAbs<=10 ^ 34:=O;refine DJ (λc=>?_) λc=>F (n - 1) (by lk);have hw:1<w:=of_decide_eq_true c;exists#[by cbv,by cbv,by cbv],(by cbv:7<=sizeLine);obtain⟨a,X⟩:∃a:Nat,w - 2=(a:Int):=#[(w - 2).toNat,by lk];have R:a<7:=by lk
  have o:∀z∈[D.int (k+1),.int (k - 1),.bl (k==1),.int (k+10 ^ (6:Int).toNat),.int 0,.int (k - 7),.int (k+13)],fine (10 ^ 35) z/\DC z<=200/\Gz z<=0:=by
   have e6:(10:Int) ^ (6:Int).toNat=1000000:=by cbv
   have q:∀i:Int,i.natAbs<=10 ^ 35->fine (10 ^ 35)^.int i:=λi h=>h;intro z H;simp only[UF,jO,or_false]at H
   rcases H with rfl|rfl|rfl|rfl|rfl|rfl|rfl
   .exact#[q _^by lk,Op _,eq _]
   .exact#[q _^by lk,Op _,eq _]
   .exact#[trivial,eq _,eq _]
   .exact#[q _ (by rw[e6];lk),Op _,eq _]
   .exact#[q _^by cbv,Op _,eq _]
   .exact#[q _^by lk,Op _,eq _]
   .exact#[q _^by lk,Op _,eq _]
  generalize I:[D.int (k+1),.int (k - 1),.bl (k==1),.int (k+10 ^ (6:Int).toNat),.int 0,.int (k - 7),.int (k+13)]=zs at o;have J:a<zs.length:=by rw[←I];exact R
  let#[g1,g2,g3]:=o zs[a] (jm J);refine#[zs[a],?_,p _ _ g1 (by lk) (by lk)^by lk];subst I;rw[X];exact AJ^On J
 | t b hx=>
  have hl:=Dx b;have a3:Ct b<=50000:=hz;have K:(DC^.tup b)=Ct b:=rfl
  have v:∀(u:v_ D),(∀y∈u,y∈b\/(fine (10 ^ 35) y/\Gz y<=IG b+3))->Ct u<=2*Ct b+500->(∀m,n - (3*j+3)<=m->Pd (.tup u) m)/\∀m,n - (3*j+3)<=m->Pd (.lst u) m:=λu M Y=>by
   have l:He (10 ^ 35) u:=fines_iff.mpr λy h=>(M y h).elim (λh=>(fines_iff.mp O y h).mono^by cbv) And.left
   have:=dps_le.mpr λy h=>(M y h).elim (λh=>jJ (dps_le.mp (Op^IG b) y h)^pd _ 3) And.right
   have G:IG u+1<=IG b+1+3:=by lk
   exact#[λm g=>p _ m l (by rw[K];exact Y) G g,λm g=>p _ m l (by rw[K];exact Y) G g]
  refine#[_,_,rfl,rfl,(b.length:Int)+1,rfl,by lk,by lk,by lk,λa a0 a1=>?_];have c1:=Jy b s_^P3 a;have c2:=Jy b (P3 (a+1)) s_;have c3:=Jy b (P3 a)^P3 (a+1);have c4:=Jy b (P3 a) s_;have d1:=Dx^Dp.cutD b s_^P3 a;have d2:=Dx^Dp.cutD b (P3 (a+1)) s_;have d3:=Dx^Dp.cutD b (P3 a)^P3 (a+1);have d4:=Dx^Dp.cutD b (P3 a) s_;have S:=Vd b a a0;have e1:(Dp.cutD b s_^P3 a++Dp.cutD b (P3 a)^P3 (a+1)).length=_:=jD;have f:(Ae (BC (EI (AZ^AX (J7 u_) (AC 4)^wC^D.int 0)^AZ^AX (J7 u_) (AC 4)^wC^D.int 4) (Aq^AX A5 (IF Co (AC 1) BG^Bk^AC 5)^IF Co (AC 1) (Bk^AX A5 (AC 5)^wC^D.int 1) BG) Av)
 (Ae (BC (AZ^AX (J7 u_) (AC 4)^wC^D.int 1) (Aq^AX A5 (AX A5 (IF Co (AC 1) BG^Bk^AC 5)^IF Co (AC 1) (Bk^AC 5)^Bk^AX A5 (AC 5)^wC^D.int 1)^IF Co (AC 1) (Bk^AC 5) BG) Av)
 (Ae (BC (AZ^AX (J7 u_) (AC 4)^wC^D.int 2) (Aq^AX A5 (AX A5 (IF Co (AC 1) BG^Bk^AC 5)^BK^AF (AR Iw^AB (A_ 0) AQ) AV)^IF Co (AC 1) (Bk^AC 5) BG) Av)
 (Aq^AX Az (CG^AF (CI Lf^AF (AC 1) AV)^AF (KQ^AC 1) AV)^AR Bn^AB (A_ 0)^AB (AE^wC^D.int 2) AQ)))) (EE Pd) (n - 1 - 1) [.fd,.sh^.tup b,.sh^.tup^B.map .str,.sh^.int i,.sh^.int w,.sh^.int a,.no]:=by
   have L:(∀m,n - (3*j+3)<=m->Pd (.tup (Dp.cutD b s_^P3 a++Dp.cutD b (P3 (a+1)) s_)) m):=(v _ (λy h=>.inl^(jK.mp h).elim Ci Ci)^by rw[B8];lk).1;refine DJ (λ_=>#[by lk,L _^by lk]) λ_=>DJ (λ_=>#[by lk,L _^by lk]) λ_=>?_;refine DJ (λ_=>#[by lk,by lk,(v _ (λy h=>.inl^(jK.mp h).elim (λh=>(jK.mp h).elim Ci Ci) Ci)^by rw[B8,B8];lk).1 _^by lk]) λ_=>?_;refine DJ (λ_=>?_) λ_=>?_
   .refine#[rfl,by lk,λe l U G=>?_]
    have z1:Ct [e]=DC e+1+0:=rfl;have e2:(Dp.cutD b s_^P3 a++[e]).length=_:=jD;have e3:[e].length=1:=rfl;have a4:Ct^Dp.cutD b s_^P3 a+Ct^Dp.cutD b (P3 a) s_<=2*Ct b:=by lk
    refine#[(by cbv:1<=sizeLine),by lk,by lk,(v _ (λy h=>?_)^by rw[B8,B8];lk).1 _^by lk]
    rcases jK.mp h with h|h
    .rcases jK.mp h with h|h
     .exact .inl^Ci h
     .rw[Tk.mp h]
      exact .inr #[l,by lk]
    .exact .inl^Ci h
   .refine#[b,rfl,(by cbv:2<=sizeLine),2,rfl,by cbv,by cbv,by lk,λr V L=>?_]
    rcases(by lk:r=0\/r=1)with rfl|rfl
    .exact#[_,AJ (j:=0) rfl,(v b (λy h=>.inl h)^by lk).2 _^by lk]
    .exact#[_,AJ (j:=1) rfl,(v b.reverse (λy h=>.inl^lO.mp h)^by rw[TC];lk).1 _^by lk]
  refine DJ (λ_=>#[_,_,rfl,rfl,DJ (λca=>DJ (λcd=>?_) λ_=>f) λ_=>f]) λ_=>f;have X:a<(b.length:Int):=of_decide_eq_true ca;have a5:(0:Int)<(i:Int):=of_decide_eq_true cd;obtain⟨k,rfl⟩:∃k:Nat,a=(k:Int):=#[a.toNat,by lk];have N:k<b.length:=by lk
  exists b[k],AJ^On N;have g:b[k]∈b:=jm N;have a6:=TD g;refine A _ _ _ (by lk) #[b[k],B,i - 1,by rw[show(((i - 1:Nat)):Int)=(i:Int) - 1 by lk],by lk,hx _ g,fines_iff.mp O _ g,C,Q,E,by lk,by lk,λe n' l U G f4=>?_];have Z:=bO N e;have e2:(Dp.cutD b s_^P3 (k:Int)++[e]).length=_:=jD;have e3:[e].length=1:=rfl;have a7:=dps_le.mp (Op^IG b) _ g;refine#[(by cbv:1<=sizeLine),by lk,by lk,(v _ (λy h=>?_)^by lk).1 _^by lk]
  rcases jK.mp h with h|h
  .rcases jK.mp h with h|h
   .exact .inl^Ci h
   .rw[Tk.mp h]
    exact .inr #[l,by lk]
  .exact .inl^Ci h
end
end Nt
namespace L2
end L2
namespace Dp
open L2
end Dp
namespace Nt
open L2 Dp
def SH{N M a:Net}{t b:Int}{g:EZ}(c:a.Ok)(i:∀u∈M.ts,u∈a.ts)(j:0<=b)(h:keepsP N t b g M):keepsP N t b g a:=λp k d l=>by
 let#[q,m,n]:=h p k d l;let#[e,o,f]:=Hc c _ _ (Op _)^m.1.mono i;exact#[e,o,Int.le_trans (oZ f j) n]
def LV{N:Net}{t b:Int}{c:EZ}(ok:N.Ok)(e:b<=t):keepsP N t b c N:=λp _ d a=>#[d,a,mw e^a.1.pos ok]
theorem G7{N:Net}{t b:Int}{a:EZ}:∀{c:v_ BP}{M:Net},(Ag N t b a M c).ps=M.ps
 |[],M=>rfl
 |u::r,M=>by
  show(if BQ N t b a (BS M u)=t_ then Ag N t b a (BS M u) r else Ag N t b a M r).ps=_
  split
  .exact G7
  .exact G7
theorem CW{N:Net}{t b:Int}{a:EZ}:∀{c:v_ BP}{M:Net},∀u∈(Ag N t b a M c).ts,u∈M.ts
 |[],M=>λu h=>h
 |v::r,M=>λu h=>by
  replace h:u∈(if BQ N t b a (BS M v)=t_ then Ag N t b a (BS M v) r else Ag N t b a M r).ts:=h
  split at h
  .exact(k_.mp^CW u h).1
  .exact CW u h
theorem Ee{N:Net}{t b:Int}{a:EZ}:∀{d:v_ BP}{M:Net},keepsP N t b a M->keepsP N t b a^Ag N t b a M d
 |[],M,h=>h
 |v::r,M,h=>by
  show keepsP N t b a (if BQ N t b a (BS M v)=t_ then Ag N t b a (BS M v) r else Ag N t b a M r)
  split
  .rename_i c;exact Ee^keepsB_iff.mp c
  .exact Ee h
theorem Fz{N:Net}{t b:Int}{d:EZ}(i:0<=b):∀{f:v_ BP}{M:Net},okN M->∀u∈f,u∈(Ag N t b d M f).ts->BQ N t b d^BS (Ag N t b d M f) u=u_
 |[],_,_=>λu a _=>by cases a
 | v::r,M,g=>λu a h=>by
  have e:Ag N t b d M (v::r)=if BQ N t b d (BS M v)=t_ then Ag N t b d (BS M v) r else Ag N t b d M r:=rfl
  rw[e]at h ⊢
  split at h
  .rename_i c
   rw[if_pos c]
   rcases UF.mp a with rfl|a
   .exact absurd (k_.mp^CW u h).2 (by simp)
   .exact Fz i (B3 g v) u a h
  .rename_i c
   rw[if_neg c]
   rcases UF.mp a with rfl|a
   .refine ji.mpr λz=>c^keepsB_iff.mpr^SH (B3 g u).1 (λx j=>?_) i^keepsB_iff.mp z
    let#[k,l]:=k_.mp j;exact k_.mpr #[CW x k,l]
   .exact Fz i g u a h
def DY(N M:Net):Prop:=M.ps=N.ps/\thn N M.ts
abbrev CL(t b:Int):D:=.tup [.int t,.int b]
abbrev BJ(a:EZ):D:=.tup^a.map pairD
def Eb{N:Net}{a c:Str}{w:v_ Str}(h:Way N a c^P3 w):∃l,S1 30 N a c w l/\Least N a c l:=by
 let#[d,r,e,b,f,g,i,j]:=h;exact#[d,#[#[r,e],b,f,i,j],g]
def Ep{a:v_ Str}{x:Str}:((a.map D.str).any λy=>DQ y^.str x)=decide (x∈a):=by
 rw[kT,mU,decide_eq_true_eq];constructor
 .rintro⟨d,b,e⟩
  let#[y,c,rfl]:=TM.mp b;rw[Hf,beq_iff_eq]at e;rw[←e];exact c
 .exact λh=>#[.str x,TM.mpr #[x,h,rfl],by rw[Hf,beq_self_eq_true]]
def Xb{i j:Int}{F:D->Prop}(h:i<=j)(p:F^.bl t_):QW (.int i) (.int j) F:=by
 show F^.bl (decide (i<=j));rw[decide_eq_true h];exact p
def XQ{i j:Int}{F:D->Prop}(h:i<j)(p:F^.bl t_):FV (.int i) (.int j) F:=by
 show F^.bl (decide (i<j));rw[decide_eq_true h];exact p
def KI:W2:=λd n P=>∃(N:Net) (a c:Str) (z:D) (b:v_ BP),d=[.br z,.sh^.str a,.sh^.str c]/\Eg z=P3^b.map Aj/\(∀u,u∈b↔u∈N.ts)/\okN N/\a∈N.ps/\c∈N.ps/\∀o,Way N a c o->P (fB o) n
def gG(N M:Net)(t b:Int)(a c:Str):Prop:=∀d,Least N a c d->∃e,Least M a c e/\e*b<=d*t
def L5:W2:=λd n P=>∃(N M:Net) (t b:Int) (a c:Str) (e x y:D),d=[.sh^enc N,.sh^CL t b,.sh^pairD (a,c),.sh^enc M,.sh^.tup [e,x,y]]/\okN N/\okN M/\GA t b/\a∈N.ps/\c∈N.ps/\Dv x/\∀r:Bool,(r=t_->gG N M t b a c)->P (.bl r) n
def PJ:W2:=λb n P=>∃(N:Net) (d:D),b=[.sh^enc N,.sh d]/\okN N/\Dv d/\∀r:Bool,(r=t_->∃a:v_ Str,d=.tup^a.map .str/\∀x∈a,x∈N.ps)->P (.bl r) n
def F9:W2:=λb n P=>∃(N:Net) (a c:Str) (d:D),b=[.sh^enc N,.sh^pairD (a,c),.sh d]/\okN N/\a∈N.ps/\c∈N.ps/\Dv d/\∀r:Bool,(r=t_->∀k,¬Wk N a c k)->P (.bl r) n
def G1:W2:=λe n P=>∃(N M:Net) (t b:Int) (a c:Str) (d:D),e=[.sh^enc N,.sh^CL t b,.sh^pairD (a,c),.sh^enc M,.sh d]/\okN N/\okN M/\GA t b/\a∈N.ps/\c∈N.ps/\Dv d/\∀r:Bool,(r=t_->gG N M t b a c)->P (.bl r) n
def Iz:W2:=λc n P=>∃(N M:Net) (t b:Int) (a:EZ) (d:D),c=[.sh^enc N,.sh^CL t b,.sh^BJ a,.sh^enc M,.sh d]/\okN N/\okN M/\M.ps=N.ps/\GA t b/\Gp N a/\Dv d/\∀r:Bool,(r=t_->¬keepsP N t b a M)->P (.bl r) n
def L6:W2:=λe n P=>∃(a:EZ) (M:Net) (d:D),e=[.sh^BJ a,.sh^enc M,.sh d]/\∀r:Bool,(r=t_->∃b c:v_ D,d=.tup [.tup b,.tup c]/\b.length=a.length/\c.length=M.ts.length)->P (.bl r) n
def YW(N M:Net)(t b:Int)(a:EZ):Prop:=keepsP N t b a M/\∀u∈M.ts,¬keepsP N t b a^BS M u
def PQ:WX:=λc n P e=>∃(N M:Net) (t b:Int) (a:EZ) (d:D),c=[.sh^enc N,.sh^CL t b,.sh^BJ a,.sh^enc M,.sh d]/\okN N/\N.ps.length<=24/\DY N M/\GA t b/\Gp N a/\Dv d/\(YW N M t b a->P (.bl t_) n)/\∀(w:Str) (k:Nat),Dv^.tup [.str w,.int (k:Int)]->e "NoPaper" ["word","number"] [.str w,.int (k:Int)] n
def HQ(k:Nat)(d:D):Prop:=YS d/\fine (10 ^ 34) d/\DC d<=480+201*k/\Gz d<=2
def IA:W2:=λe n P=>∃(N M:Net) (t b:Int) (a c:Str),e=[.sh^enc N,.sh^enc M,.sh^.str a,.sh^.str c]/\okN N/\okN M/\M.ps=N.ps/\a∈N.ps/\c∈N.ps/\gG N M t b a c/\∀d,HQ N.ps.length d->P d n
def KH:W2:=λe n P=>∃(N M:Net) (t b:Int) (a:EZ) (c:v_^w_ Int),e=[.sh^enc N,.sh^CL t b,.sh^BJ a,.sh^.lst^c.map HS,.sh^enc M]/\okN N/\okN M/\M.ps=N.ps/\GA t b/\Gp N a/\Vq N a c/\BQ N t b a M=u_/\∀d,HQ N.ps.length d->P d n
def fA(N:Net)(c:EZ)(d:D):Prop:=∃a b:v_ D,d=.tup [.tup a,.tup b]/\a.length=c.length/\b.length<=N.ts.length/\(∀x∈a,HQ N.ps.length x)/\∀y∈b,HQ N.ps.length y
def L7:W2:=λc n P=>∃(N:Net) (t b:Int) (a:EZ),c=[.sh^enc N,.sh^CL t b,.sh^BJ a]/\okN N/\GA t b/\b<=t/\Gp N a/\∀d:D,fA N a d->P d n
def Sw:W2:=λb n P=>∃(a:Db) (w:Str) (k:Int),b=[.ex a "NoPaper" ["word","number"] [.str w,.int k]]/\P (.tup [.str w,.int k]) n
def Sz:W2:=λc n P=>∃(N M:Net) (t b:Int) (a:EZ) (d:D),c=[.sh^enc N,.sh^CL t b,.sh^BJ a,.sh^enc M,.sh d]/\okN N/\N.ps.length<=24/\DY N M/\GA t b/\Gp N a/\Dv d/\∀r:D,(r=.non/\YW N M t b a\/∃(w:Str) (k:Int),r=.tup [.str w,.int k]/\Dv r)->P r n
def PP:W2:=λd n P=>∃(M:Net) (b:v_ Str) (a:Str) (m:Int) (z q:D) (c:v_ BP),d=[.sh^.tup [.tup^b.map .str,q],.br z,.sh^.str a,.sh^.int m]/\Eg z=P3^c.map Aj/\(∀u,u∈c↔u∈M.ts)/\okN M/\M.ps=b/\a∈b/\30000000<=m/\m<=10 ^ 33/\∀l:v_ Int,l.length=b.length->(∀i∈l,0<=i/\i<=m)->P (.tup^l.map .int) n
def KG:W2:=λe n P=>∃(N:Net) (t b:Int) (c:EZ) (a:v_ BP),e=[.sh^enc N,.sh^CL t b,.sh^BJ c,.sh^enc^Ag N t b c N a]/\okN N/\GA t b/\b<=t/\Gp N c/\(∀u∈N.ts,u∈a)/\∀d:D,fA N c d->P d n
def F8:W2:=λd n P=>∃(N:Net) (t b:Int) (c:EZ) (a:v_ BP),d=[.sh^enc N,.sh^.tup [.int t,.int b],.sh^.tup^c.map pairD,.br^.lst^a.map Aj]/\okN N/\GA t b/\Gp N c/\(∀u∈a,u∈N.ts)/\P (enc^Ag N t b c N a) n
def YN:W2:=λc n P=>∃(N M:Net) (t b:Int) (a:EZ),c=[.sh^enc N,.sh^CL t b,.sh^BJ a,.sh^enc M]/\okN N/\okN M/\M.ps=N.ps/\GA t b/\Gp N a/\YW N M t b a/\P (.bl t_) n
def L4:W2:=λg n P=>∃(N:Net) (t b:Int) (a:EZ),g=[.fd,.sh^enc N,.sh^CL t b,.sh^BJ a]/\okN N/\N.ts.length<=10/\GA t b/\Gp N a/\100<=n/\∀(d e:v_ BP) (c:v_ Net) (f:Nat),(∀u∈N.ts,u∈d)->(∀u∈N.ts,u∈e)->c.length<=5->(∀M∈c,DY N M)->n - 100<=f->P (.lst^(Ag N t b a N d::Ag N t b a N e::c).map enc) f
def PM:W2:=λh n P=>∃(N:Net) (t b:Int) (a:EZ) (e f:v_ BP) (i:v_ Net),h=[.fd,.sh^enc N,.sh^CL t b,.sh^BJ a,.sh^.lst^(Ag N t b a N e::Ag N t b a N f::i).map enc]/\okN N/\1<=N.ps.length/\N.ps.length<=6/\N.ts.length<=10/\GA t b/\b<=t/\Gp N a/\a.length<=6/\(∀u∈N.ts,u∈e)/\(∀u∈N.ts,u∈f)/\100<=n/\∀(c:v_ D) (g:Nat),c.length<=20->(∀d∈c,Dv d)->n - 100<=g->P (.lst c) g
def VD:Ac:=(Ae (A3 8^dY (AZ^AX (J7 u_) (AC 5)^AX Az (As 4)^wC^D.int 0) (AC 6)^dY (AZ^AX (J7 u_) (AC 6)^AX Az (As 4)^wC^D.int 0) (AC 5)^wC D.non)
 (BC (EJ (AZ^AX (Di t_) (AC 8)^wC D.non)^EJ (AZ^AX (GC u_) (AC 8)^AC 3)^AZ^AX (J7 u_) (AX A5 (AX Bx (AC 3)^AC 8)^AC 7)^AX Bx (AC 3)^AX Az (As 4)^wC^D.int 0) (Ae (IL 4 "list" Xt^AF (wC^D.int 0)^AF (AC 8) AV)
 RM) Av))
def Hu:Ac:=(Ae (A3 3^AR Ck^AB (Bt^As 0)^AB (AE^AC 1) AQ)
 (Ae (BC (AZ^AX (GC t_) (AC 2)^AC 3) (Aq^wC D.non) Av)
 (Ae (DL 4^CG^AF (AC 2) AV)
 (Ae (IK (AZ^AX (J7 t_) (AX Az (As 4)^wC^D.int 0)^AC 1)^S5 0 (Bz 3^Aa (AT 5)^Aa (AT 6)^Aa (AT 7) BM) VD)
 (Aq^CI BI^AF (As 4) AV)))))
def Fe:Ac:=(Ae (A3 5^AR UQ^AB (AE^AC 3)^AB (AE^AX Az (AC 2)^wC^D.int 0)^AB (AE^AX Az (AC 2)^wC^D.int 1)^AB (AE^AX Az (AC 4)^wC^D.int 1) AQ)
 (Ae (BC (EI (AZ^AX (Di u_) (AC 5)^wC D.non)^B0^AZ^AR UR^AB (AE^AC 0)^AB (AE^AX Az (AC 4)^wC^D.int 2) AQ) (Aq^wC^D.bl u_) Av)
 (Aq^AR Cj^AB (AE^AC 5)^AB (AE^AC 1)^AB (AE^AR YR^AB (AE^AC 0)^AB (AE^AX Az (AC 4)^wC^D.int 2)^AB (AE^AX Az (AC 2)^wC^D.int 0)^AB (AE^AX Az (AC 2)^wC^D.int 1) AQ) AQ)))
def Ji:Ac:=(Aq^F_ (KU "tuple"^AC 1)^F_ (CI MX^AF (Bi [P3 0,s_] (A0^AC 1) (AT 1) DU^AX (MW u_) (AC 1)^AX Az (AC 0)^wC^D.int 0) AV)^AR KD^AB (AE^AC 1) AQ)
def Eu:Ac:=(Ae (BC (EI (B0^AZ^AR PJ^AB (AE^AC 0)^AB (AE^AC 2) AQ)^EI (AZ^AX (MW t_) (AX Az (AC 1)^wC^D.int 0)^AC 2)^AZ^AX (MW u_) (AX Az (AC 1)^wC^D.int 1)^AC 2) (Aq^wC^D.bl u_) Av)
 (Aq^CI MX^AF (Bi [P3 2,s_,s_,s_] (A0^AX Az (AC 0)^wC^D.int 1) (Bz 3^Aa (AT 1)^Aa (AT 2)^Aa (AT 3) BM) DU^AX SQ (AX (MW u_) (AC 1)^AC 0)^AX (MW u_) (AC 2)^AC 0) AV))
def Hs:Ac:=(Ae (BC (EJ (AZ^AR CF^AB (AE^wC^D.int 3)^AB (AE^AC 4) AQ)^AZ^AX SQ (AX Az (AC 4)^wC^D.int 0)^wC^D.str "near") (Aq^AR L5^AB (AE^AC 0)^AB (AE^AC 1)^AB (AE^AC 2)^AB (AE^AC 3)^AB (AE^AC 4) AQ) Av)
 (Aq^F_ (AR CF^AB (AE^wC^D.int 2)^AB (AE^AC 4) AQ)^F_ (AX SQ (AX Az (AC 4)^wC^D.int 0)^wC^D.str "apart")^AR F9^AB (AE^AC 0)^AB (AE^AC 2)^AB (AE^AX Az (AC 4)^wC^D.int 1) AQ))
def GZ:Ac:=(Ae (BC (EI (B0^AZ^AR CF^AB (AE^wC^D.int 3)^AB (AE^AC 4) AQ)^EI (B0^AZ^AR L3^AB (AE^AX Az (AC 4)^wC^D.int 0) AQ)^B0^AZ^RL QW FV (wC^D.int 0) (AX Az (AC 4)^wC^D.int 0)^CI EB^AF (AC 2) AV) (Aq^wC^D.bl u_) Av)
 (Ae (A3 5^AX Az (AX Az (AC 2)^AX Az (AC 4)^wC^D.int 0)^wC^D.int 0)
 (Ae (A3 6^AX Az (AX Az (AC 2)^AX Az (AC 4)^wC^D.int 0)^wC^D.int 1)
 (Ae (A3 7^AR UQ^AB (AE^AC 0)^AB (AE^AC 5)^AB (AE^AC 6)^AB (AE^AX Az (AC 4)^wC^D.int 1) AQ)
 (Ae (BC (EI (AZ^AX (Di u_) (AC 7)^wC D.non)^B0^AZ^AR UR^AB (AE^AC 3)^AB (AE^AX Az (AC 4)^wC^D.int 2) AQ) (Aq^wC^D.bl u_) Av)
 (Aq^Yg^AR Cj^AB (AE^AR YR^AB (AE^AC 0)^AB (AE^AX Az (AC 4)^wC^D.int 2)^AB (AE^AC 5)^AB (AE^AC 6) AQ)^AB (AE^AC 1)^AB (AE^AC 7) AQ))))))
def Ga:Ac:=(Aq^F_ (AR CF^AB (AE^wC^D.int 2)^AB (AE^AC 2) AQ)^F_ (AR CF^AB (AE^CI EB^AF (AC 0) AV)^AB (AE^AX Az (AC 2)^wC^D.int 0) AQ)^AR CF^AB (AE^CI EB^AF (AX Az (AC 1)^wC^D.int 1) AV)^AB (AE^AX Az (AC 2)^wC^D.int 1) AQ)
def fG(a:PX):Ac:=(BC (B0^AZ^AR G1^AB (AE^AC 0)^AB (AE^AC 1)^AB (AE^AC 6)^AB (AE^AC 3)^AB (AE^AX Az (AX Az (AC 4)^wC^D.int 0)^AC 5) AQ) (λb=>(Nm "NoPaper" ["word","number"]^AF (wC^D.str "pair")^AF (AC 5) AV) b a) Av)
def fF(a:PX):Ac:=(BC (B0^AZ^AR Iz^AB (AE^AC 0)^AB (AE^AC 1)^AB (AE^AC 2)^AB (AE^AR Du^AB (AE^AC 3)^AB (AE^CG^AF (AC 7) AV) AQ)^AB (AE^AX Az (AX Az (AC 4)^wC^D.int 1)^AC 5) AQ) (λb=>(Nm "NoPaper" ["word","number"]^AF (wC^D.str "tie")^AF (AC 5) AV) b a) Av)
def Dq(a:PX):Ac:=(Ae (BC (EI (B0^AZ^AR YM^AB (AE^AC 0)^AB (AE^AC 3) AQ)^B0^AZ^AR L6^AB (AE^AC 2)^AB (AE^AC 3)^AB (AE^AC 4) AQ) (λb=>(Nm "NoPaper" ["word","number"]^AF (wC^D.str "shape")^AF (wC^D.int 0) AV) b a) Av)
 (Ae (Cs (S6^AC 2) (Bz 2^Aa (AT 5)^Aa (AT 6) BM)^fG a)
 (Ae (Cs (S6^AR Er^AB (AE^AX Az (AC 3)^wC^D.int 1) AQ) (Bz 2^Aa (AT 5)^Aa (AT 7) BM)^fF a)
 (Aq^wC^D.bl t_))))
def Ho:Ac:=(Ae (A3 4^AR RE^AB (AE^AC 0)^AB (AE^AC 2)^AB (AE^AC 3) AQ)
 (Ae (BC (AZ^AX (Di u_) (AC 4)^wC D.non) (Aq^BK^AF (wC^D.str "apart")^AF (CI BI^AF (CI SO^AF (AR Iy^AB (AE^AC 0)^AB (AE^AC 2) AQ) AV) AV) AV) Av)
 (Aq^BK^AF (wC^D.str "near")^AF (AR Zw^AB (AE^AC 1)^AB (AE^AC 2)^AB (AE^AC 3) AQ)^AF (AR PL^AB (AE^AC 0)^AB (AE^AC 2)^AB (AE^AC 4) AQ) AV)))
def GY:Ac:=(Ae (A3 5^AR RD^AB (AE^AC 1)^AB (AE^AC 2)^AB (AE^AC 3)^AB (AE^AC 4) AQ)
 (Ae (A3 6^AX Az (AX Az (AC 2)^AC 5)^wC^D.int 0)
 (Ae (A3 7^AX Az (AX Az (AC 2)^AC 5)^wC^D.int 1)
 (Aq^BK^AF (AC 5)^AF (AR Zw^AB (AE^AC 0)^AB (AE^AC 6)^AB (AE^AC 7) AQ)^AF (AR PL^AB (AE^AC 4)^AB (AE^AC 6)^AB (AE^AR I_^AB (AE^AC 1)^AB (AE^AX Az (AC 3)^AC 5) AQ) AQ) AV))))
def Ew:Ac:=(Ae (A3 3^AR cu^AB (AE^AC 0)^AB (AE^AC 1)^AB (AE^AC 2) AQ)
 (Ae (A3 4^AR IB^AB (AE^AC 0)^AB (AE^AC 2) AQ)
 (Ae (A3 5^Bi [P3 0,P3 3,s_,s_] (A0^AC 2) (Bz 2^Aa (AT 2)^Aa (AT 3) BM) DU^AR IA^AB (AE^AC 0)^AB (AE^AC 1)^AB (AE^AC 2)^AB (AE^AC 3) AQ)
 (Ae (A3 6^Bi [P3 0,P3 1,P3 2,P3 4,P3 3,s_] (A0^AR Er^AB (AE^AX Az (AC 3)^wC^D.int 1) AQ) (AT 5) DU^AR KH^AB (AE^AC 0)^AB (AE^AC 1)^AB (AE^AC 2)^AB (AE^AC 3)^AB (AE^AR Du^AB (AE^AC 4)^AB (AE^CG^AF (AC 5) AV) AQ) AQ)
 (Aq^BK^AF (CI BI^AF (AC 5) AV)^AF (CI BI^AF (AC 6) AV) AV)))))
def EW:Ac:=(Ae (A3 1^CG^AF (Nl 0 "TooMany")^AF (Nl 0 "Twice")^AF (Nl 0 "NoPlace")^AF (Nl 0 "NoTie") AV)
 (Ae (A3 1^AX A5 (AC 1)^CG^AF (Nl 0 "NoLine")^AF (Nl 0 "NoRow")^AF (Yg^V4 0) AV)
 (Ae (BC (EI (AZ^AX (MW u_) (wC^D.bl t_)^AC 1)^B0^AZ^Nl 0 "NoPaper") (Aq^wC^D.str "other") Av)
 (Aq^BK^AF (gC 0 "word")^AF (gC 0 "number") AV))))
def Oq:Ac:=(Ae (A3 5^wC^D.str "other")
 (Ae (dU (dX (dW (cG u_) (V9 PQ^AB (AE^AC 0)^AB (AE^AC 1)^AB (AE^AC 2)^AB (AE^AC 3)^AB (AE^AC 4) AQ)^wC^D.bl t_) (λb _=>(A3 5^wC D.non) b) V6)
 (V8 "ThinError" 6 (λa=>(A3 5^V_ a 6 Sw^AB (WB 6) AQ))
 V7))
 (Aq^AC 5)))
def Ey:Ac:=(Ae (A3 4^AR Ck^AB (Bt^As 1)^AB (AE^AC 2) AQ)
 (Aq^CI BI^AF (Bi [P3 3,P3 4,s_] (A0^AX Az (AC 0)^wC^D.int 0) (AT 2) DU^S4 (AC 1) (AC 2)^AC 0) AV))
def ZP:Ac:=(Ae (A3 7^AR Ck^AB (Bt^AX Az (AC 0)^wC^D.int 1)^AB (AE^AC 5) AQ)
 (BC (AZ^AX (GC u_) (AC 6)^AC 7) (IL 4 "list" EC^AF (BK^AF (wC^D.str "near")^AF (AR KI^AB (Bt^AX Az (AC 3)^wC^D.int 1)^AB (AE^AC 5)^AB (AE^AC 6) AQ)^AF (AR PP^AB (AE^AC 0)^AB (Bt^AX Az (AC 0)^wC^D.int 1)^AB (AE^AC 5)^AB (AE^AX (Vv L9 λi j=>D.int (i ^ j.toNat)) (wC^D.int 10)^wC^D.int 30) AQ) AV) AV)^IL 4 "list" EC^AF (BK^AF (wC^D.str "apart")^AF (CI BI^AF (CI SO^AF (AC 7) AV) AV) AV) AV))
def bx:Ac:=(Ae (A3 10^Bi [P3 9,s_] (A0^AX Az (AC 3)^wC^D.int 1) (AT 1) (AZ^AX QV (AC 1)^AC 0)^AC 1)
 (Ae (A3 11^Bi [P3 0,P3 1,P3 10,P3 2,s_] (KR^AF (CI EB^AF (AC 2) AV) AV) (AT 4) (B0^AZ^AR Fv^AB (AE^AC 0)^AB (AE^AC 1)^AB (AE^IF Co (AC 3) (Bk^AC 4)^Bk^AX A5 (AC 4)^wC^D.int 1)^AB (AE^AC 2) AQ)^AC 4)
 (Ae (dZ (AX Az (AC 2)^AX Az (AC 11)^Nn^wC^D.int 1)^Bz 2^Aa (AT 5)^Aa (AT 6) BM)
 (IL 8 "list" EC^AF (BK^AF (AX Az (AC 11)^Nn^wC^D.int 1)^AF (AR KI^AB (Bt^AX Az (AC 0)^wC^D.int 1)^AB (AE^AC 5)^AB (AE^AC 6) AQ)^AF (AR PP^AB (AE^AC 0)^AB (Bt^AC 10)^AB (AE^AC 5)^AB (AE^AX (Vv L9 λi j=>D.int (i ^ j.toNat)) (wC^D.int 10)^wC^D.int 33) AQ) AV) AV))))
def Ds:Ac:=(Ae (DL 4^CG AV)
 (Ae (Cs (A0^AC 2) (Bz 2^Aa (AT 5)^Aa (AT 6) BM) ZP)
 (Ae (DL 8^CG AV)
 (Ae (Cs (A0^AR Er^AB (AE^AX Az (AC 3)^wC^D.int 1) AQ) (AT 9) bx)
 (Aq^BK^AF (CI BI^AF (As 4) AV)^AF (CI BI^AF (As 8) AV) AV)))))
def Fq:Ac:=(Ae (BC (B0^AZ^AR Fv^AB (AE^AC 0)^AB (AE^AC 1)^AB (AE^AC 2)^AB (AE^AX Az (AC 3)^wC^D.int 1) AQ) (Aq^wC^D.bl u_) Av)
 (Ae (Cs (A0^AX Az (AC 3)^wC^D.int 1) (AT 4)^BC (AZ^AR Fv^AB (AE^AC 0)^AB (AE^AC 1)^AB (AE^AC 2)^AB (AE^Bi [P3 4,s_] (A0^AX Az (AC 3)^wC^D.int 1) (AT 1) (AZ^AX QV (AC 1)^AC 0)^AC 1) AQ) (Aq^wC^D.bl u_) Av)
 (Aq^wC^D.bl t_)))
def Gc:Ac:=(Ae (A3 4^CI Lf^AF (AX Az (AC 0)^wC^D.int 1) AV)
 (Ae (S5 3 (AT 5) (Ae (A3 6^Bi [P3 5,s_] (A0^AC 4) (AT 1) (AZ^AX QV (AC 1)^AC 0)^AC 1)
 (BC (AZ^AR Fv^AB (AE^AC 0)^AB (AE^AC 1)^AB (AE^AC 2)^AB (AE^AC 6) AQ) (A3 4^AC 6) Av)))
 (Aq^BK^AF (AX Az (AC 0)^wC^D.int 0)^AF (CI BI^AF (CI CK^AF (AC 4) AV) AV) AV)))
def TB:Ac:=(Ae (BC (AZ^AX QV (AX Az (AX Az (As 6)^wC^D.int 0)^wC^D.int 1)^BK AV) (Ae (A3 8^AR Bn^AB (A_ 0)^AB (AE^CI EB^AF (AX Az (AX Az (As 6)^wC^D.int 0)^wC^D.int 1) AV) AQ)
 (IL 6 "list" EC^AF (BK^AF (AX Az (AC 1)^wC^D.int 0)^AF (AX A5 (IF Co (AX Az (AX Az (As 6)^wC^D.int 0)^wC^D.int 1) BG^Bk^AC 8)^IF Co (AX Az (AX Az (As 6)^wC^D.int 0)^wC^D.int 1) (Bk^AX A5 (AC 8)^wC^D.int 1) BG) AV) AV)) Av)
 (KS 6))
def Z2:Ac:=(Ae (A3 7^Bi [P3 6,s_] (A0^AX Az (AC 1)^wC^D.int 1) (AT 1) (AZ^AX (MW t_) (AC 1)^AX Az (AX Az (As 0)^wC^D.int 0)^wC^D.int 1)^AC 1)
 (Ae (BC (AZ^AX QV (AC 7)^CG AV) (IL 6 "list" EC^AF (BK^AF (AX Az (AC 1)^wC^D.int 0)^AF (CI BI^AF (CI CK^AF (AX A5 (AX Az (AX Az (As 6)^wC^D.int 0)^wC^D.int 1)^BK^AF (AX Az (AC 7)^AR Bn^AB (A_ 0)^AB (AE^CI EB^AF (AC 7) AV) AQ) AV) AV) AV) AV) AV) Av)
 TB))
def Fk:Ac:=(Ae (DL 4^CG AV)
 (Ae (Cs (A0^AX Az (AC 1)^wC^D.int 1) (AT 5)^IL 4 "list" Xt^AF (AR Bn^AB (A_ 0)^AB (AE^AX A5 (CI EB^AF (As 4) AV)^wC^D.int 1) AQ)^AF (AC 5) AV)
 (Ae (DL 6^CG^AF (AR F8^AB (AE^AC 1)^AB (AE^AC 2)^AB (AE^AC 3)^AB (Bt^As 4) AQ)^AF (AR F8^AB (AE^AC 1)^AB (AE^AC 2)^AB (AE^AC 3)^AB (Bt^Yf (AR Er^AB (AE^AX Az (AC 1)^wC^D.int 1) AQ)^Nn^wC^D.int 1) AQ) AV)
 (Ae (IL 6 "list" EC^AF (AR F8^AB (AE^AC 1)^AB (AE^AR H_^AB (A_ 0) AQ)^AB (AE^AC 3)^AB (Bt^Yf (As 4)^Nn^wC^D.int 1) AQ) AV)
 (Ae (IL 6 "list" EC^AF (AR F8^AB (AE^AC 1)^AB (AE^AC 2)^AB (AE^IF Co (AC 3) (Bk^wC^D.int 1) BG)^AB (Bt^As 4) AQ) AV)
 (Ae (IL 6 "list" EC^AF (BK^AF (AX Az (AC 1)^wC^D.int 0)^AF (AR PF^AB (A_ 0)^AB (AE^AX Az (AC 1)^wC^D.int 1) AQ) AV) AV)
 Z2))))))
def Y0:Ac:=(Ae (IL 6 "list" EC^AF (BK^AF (AX Az (AX Az (As 6)^wC^D.int 2)^wC^D.int 0)^AF (AX Az (AX Az (As 6)^wC^D.int 3)^wC^D.int 1) AV) AV)
 (Ae (IL 6 "list" EC^AF (BK^AF (AX Az (AX Az (As 6)^wC^D.int 2)^wC^D.int 0)^AF (IF Co (AX Az (AX Az (As 6)^wC^D.int 2)^wC^D.int 1) BG^Bk^Nn^wC^D.int 1) AV) AV)
 (Ae (IL 6 "list" EC^AF (BK^AF (AX Az (AX Az (As 6)^wC^D.int 2)^wC^D.int 0)^AF (AX A5 (AX Az (AX Az (As 6)^wC^D.int 2)^wC^D.int 1)^IF Co (AX Az (AX Az (As 6)^wC^D.int 2)^wC^D.int 1) BG^Bk^wC^D.int 1) AV) AV)
 (Ae (Cs (KR^AF (wC^D.int 3) AV) (AT 8)^IL 6 "list" EC^AF (AR (PU 4)^AB (A_ 0)^AB (AE^AX Az (As 6)^AC 8)^AB (AE^AX Az (AC 1)^wC^D.int 0)^AB (AE^wC^D.int 4) AQ) AV)
 (KS 6)))))
def Ez:Ac:=(Ae (A3 5^AR L7^AB (AE^AC 1)^AB (AE^AC 2)^AB (AE^AC 3) AQ)
 (Ae (DL 6^CG^AF (AC 5)^AF (BK^AF (AX Az (AC 5)^wC^D.int 0)^AF (Yf (AX Az (AC 5)^wC^D.int 1)^Nn^wC^D.int 1) AV) AV)
 (Ae (Cs (A0^IF Co (AC 4) BG^Bk^wC^D.int 2) (AT 7)^IL 6 "list" EC^AF (AR KG^AB (AE^AC 1)^AB (AE^AC 2)^AB (AE^AC 3)^AB (AE^AC 7) AQ) AV)
 Y0)))
def XY:Ac:=(Ae (A3 8^AR Sz^AB (AE^AC 2)^AB (AE^AC 3)^AB (AE^AC 4)^AB (AE^AC 7)^AB (AE^AC 6) AQ)
 (Ae (BC (AZ^AX SQ (AC 8)^wC^D.str "other") (Aq^wC^D.bl u_) Av)
 (BC (EJ (AZ^AX (Di u_) (AC 8)^wC D.non)^B0^AZ^AR YN^AB (AE^AC 2)^AB (AE^AC 3)^AB (AE^AC 4)^AB (AE^AC 7) AQ) (Aq^wC^D.bl u_) Av)))
def Nd:Ac:=(Ae (A3 2^AR Sy^AB (A_ 1)^AB (AE^wC^D.int 6)^AB (AE^wC^D.int 10) AQ)
 (Ae (A3 3^AR H_^AB (A_ 1) AQ)
 (Ae (A3 4^AR Sx^AB (A_ 1)^AB (AE^AX Az (AC 2)^wC^D.int 0)^AB (AE^wC^D.int 6) AQ)
 (Ae (A3 5^AR L4^AB (A_ 1)^AB (AE^AC 2)^AB (AE^AC 3)^AB (AE^AC 4) AQ)
 (Ae (Cs (A0^AR PM^AB (A_ 1)^AB (AE^AC 2)^AB (AE^AC 3)^AB (AE^AC 4)^AB (AE^AC 5) AQ) (AT 6)^Cs (A0^AC 5) (AT 7) XY)
 (Aq^wC^D.bl t_))))))
def K4(K:Kn)(x:Str)(d:Int)(t:BP):Prop:=(t.a=x/\∃c,K t.b=P3 c/\c+t.len=d)\/(t.a≠x/\t.b=x/\∃c,K t.a=P3 c/\c+t.len=d)
structure WI39 (N:Net) (K:Kn) (c:Str) (dc:Int) (x:Str) (r:List Str) (dx:Int):Prop where
 lst:(x::r).getLast?=P3 c
 wk:∃e,walk N (x::r) e/\dx+e=dc
 at_:K x=P3 dx
 nd:(x::r).Nodup
 far:∀y∈x::r,y∈N.ps/\∃dy,K y=P3 dy/\dx<=dy
def WI39.step{N:Net}{K:Kn}{c x y:Str}{f g a l:Int}{r:v_ Str}(I:WI39 N K c f x r g)(j:K y=P3 a)(k:y∈N.ps)(o:1<=l)(e:a+l=g)(m:Ed N y x l):WI39 N K c f y (x::r) a:=by
 refine#[by exact I.lst,?_,j,ja.mpr #[λh=>?_,I.nd],λz b=>?_]
 .let#[n,d,i]:=I.wk
  exact#[_,#[l,n,m,d,rfl],by lk]
 .let#[_,d',d,i]:=I.far y h
  grind
 .rcases UF.mp b with rfl|b
  .grind
  .let#[p,d',d,i]:=I.far z b
   grind
section
variable {ss:v_ Slot}{n:Nat}{Pd:D->Nat->Prop}
def Uq(h:KI ss n Pd):Hu (EE Pd) n (ss++T0 6 .no):=by
 let#[N,a,c,z,Z,rfl,hz,E,J,ha,hc,p]:=h;have ok:=J.1;have a2:=PySem.sizeLine_eq;unfold Hu;refine#[N,a,z,Z,rfl,hz,E,J,ha,λA B K Mp T=>?_];exists A,B,_,rfl,A2 c;show if(!(BY A B^.inr c).isSome)=t_ then _ else _
 rw[Mp.at_];cases U:K c with
 |none=>exact Bv^p s_ λd hd=>T.all c d hd U
 | some L=>
  refine Bl #[z1,?_];have c0:0<=L:=(T.least c L U).1.pos ok
  exists λm M ρ=>M=n/\∃(x:Str) (r:v_ Str) (i:Int) (k o s v:Slot),ρ=[.br z,.sh^.str a,.sh^.str c,.sh^.dic A B,.ow^.lst^(x::r).map .str,k,o,s,v]/\WI39 N K c L x r i/\m=i.toNat,
   #[_,rfl,c,[],L,_,_,_,_,rfl,#[rfl,#[0,rfl,by lk],U,by simp,λy O=>by rw[Tk.mp O];exact#[hc,L,U,mO _]],rfl]
  rintro m M ρ ⟨rfl,x,r,i,k,o,s,v,rfl,I,rfl⟩;have a1:(x::r).length<=N.ps.length:=KP I.nd λy O=>(I.far y O).1;have a3:=J.2.1;exists _,AJ (j:=0) rfl;show if(!(x==a))=t_ then _ else _
  cases cx:x==a with
  |true=>
   have ex:x=a:=eq_of_beq cx;subst ex;refine Bl ?_;let#[e,w,F]:=I.wk;have hl:=T.least x i I.at_;have e0:i=0:=Int.le_antisymm (hl.2 0 .nil)^hl.1.pos ok
   have:e=L:=by lk
   subst this;exact p (P3 (x::r)) #[e,r,rfl,I.lst,w,T.least c e U,by lk,λy O=>(I.far y O).1]
  | false=>
   have ne:x≠a:=λz=>by rw[z,beq_self_eq_true]at cx;cases cx
   refine Bv #[λn2 zO=>∃m',m'<i.toNat/\n2=M/\∃(x:Str) (r:v_ Str) (i:Int) (k o s v:Slot),zO=[.br z,.sh^.str a,.sh^.str c,.sh^.dic A B,.ow^.lst^(x::r).map .str,k,o,s,v]/\WI39 N K c L x r i/\m'=i.toNat,λn2 zO h=>h,z,Z.map Aj,rfl,hz,?_];let#[y,g,l,P,V,e]:=YI ok T I.at_ ne
   have ed:Ed N y x l:=by
    unfold look at V;cases cc:(EA N.ts y).find? λz=>decide (z.1=x)with
    |none=>rw[cc]at V;cases V
    |some q=>
     rw[cc]at V;have e1:q.1=x:=of_decide_eq_true^oW (p:=λz:Str×Int=>decide (z.1=x)) cc;have e2:q.2=l:=jH V;rw[←e1,←e2];exact mM cc
   have ex:∃t∈Z,K4 K x i t:=by
    let#[t,Q,rfl,hj]:=ed.tie ok;have R:=(ok.tin t Q).2.2.1
    rcases hj with⟨rfl,rfl⟩|⟨rfl,rfl⟩
    .exact#[t,(E t).mpr Q,.inr #[λz=>by rw[z]at R;exact mP _ R,rfl,g,P,e]]
    .exact#[t,(E t).mpr Q,.inl #[rfl,g,P,e]]
   have go:∀(f:v_ BP) (C:E2) (k o s v:Slot),(∀t∈f,t∈N.ts)->(∃t∈f,K4 K x i t)->
     (∀(y:Str) (g l:Int) (k o s v:Slot),K y=P3 g->y∈N.ps->1<=l->g+l=i->Ed N y x l->C.nx M [.br z,.sh^.str a,.sh^.str c,.sh^.dic A B,.ow^.lst^(y::x::r).map .str,k,o,s,v])->
     A7 (Bz 3^Aa (AT 5)^Aa (AT 6)^Aa (AT 7) BM) VD C (f.map Aj) M [.br z,.sh^.str a,.sh^.str c,.sh^.dic A B,.ow^.lst^(x::r).map .str,k,o,s,v]:=by
    intro f
    induction f with
    |nil=>intro C k o s v _ #[t,Q,_];cases Q
    | cons t f ih=>
     intro C k o s v hr hq G;have W:=hr t Rs;let#[ma,mb,R,t1,t2]:=ok.tin t W;let#[d1,d2]:=T8 W
     have on:¬K4 K x i t->∀k o s v,A7 (Bz 3^Aa (AT 5)^Aa (AT 6)^Aa (AT 7) BM) VD C (f.map Aj) M [.br z,.sh^.str a,.sh^.str c,.sh^.dic A B,.ow^.lst^(x::r).map .str,k,o,s,v]:=λhn k o s v=>by
      let#[t',S,X]:=hq
      rcases UF.mp S with rfl|S
      .exact absurd X hn
      .exact ih C _ _ _ _ (λu hu=>hr u^Sc _ hu) #[t',S,X] G
     have H:∀(y:Str) (l:Int),y∈N.ps->Ed N y x t.len->(∀g,K y=P3 g->g+t.len=i->K4 K x i t)->(K4 K x i t->∃g,K y=P3 g/\g+t.len=i)->(BC (EJ (AZ^AX (Di t_) (AC 8)^wC D.non)^EJ (AZ^AX (GC u_) (AC 8)^AC 3)^AZ^AX (J7 u_) (AX A5 (AX Bx (AC 3)^AC 8)^AC 7)^AX Bx (AC 3)^AX Az (As 4)^wC^D.int 0) (Ae (IL 4 "list" Xt^AF (wC^D.int 0)^AF (AC 8) AV)
 RM) Av) {C with nx:=A7 (Bz 3^Aa (AT 5)^Aa (AT 6)^Aa (AT 7) BM) VD C^f.map Aj,ct:=A7 (Bz 3^Aa (AT 5)^Aa (AT 6)^Aa (AT 7) BM) VD C^f.map Aj,bk:=C.nx} M [.br z,.sh^.str a,.sh^.str c,.sh^.dic A B,.ow^.lst^(x::r).map .str,.sh^.str t.a,.sh^.str t.b,.sh^.int t.len,.sh^.str y]:=λy _ O a0 a4 Y=>by
      exists rfl;exists A,B,_,rfl,A2 y;show if(BY A B^.inr y).isSome=t_ then _ else _
      rw[Mp.at_];cases P:K y with
      |none=>exact Bl^Bl^on (λh=>by let#[g,w,_]:=Y h;rw[P]at w;cases w) _ _ _ _
      | some g=>
       refine Bv #[A,B,_,.int g,rfl,A2 y,by rw[Mp.at_,P];rfl,_,AJ (j:=0) rfl,A,B,_,.int i,rfl,A2 x,by rw[Mp.at_,I.at_];rfl,?_];show if((g+t.len:Int)==i)=t_ then _ else _
       cases cq:(g+t.len:Int)==i with
       |false=>exact Bl^on (λh=>by let#[a5,w,F]:=Y h;rw[P]at w;cases w;rw[F,beq_self_eq_true]at cq;cases cq) _ _ _ _
       |true=>
        refine Bv #[_,rfl,rfl,_,0,_,rfl,rfl,by cbv,by lk,by cbv,by rw[No];lk,?_];exact G y g t.len _ _ _ _ P O t1 (eq_of_beq cq) a0
     unfold VD;exists rfl,rfl,_,AJ (j:=0) rfl;show if(t.a==x)=t_ then _ else _
     cases ca:t.a==x with
     |true=>
      have ea:t.a=x:=eq_of_beq ca;exact Bv^H t.b t.len mb (by rw[←ea];exact d2) (λg w F=>.inl #[ea,g,w,F]) λh=>h.elim (λh=>h.2) λh=>absurd ea h.1
     | false=>
      have na:t.a≠x:=λz=>by rw[z,beq_self_eq_true]at ca;cases ca
      refine Bl #[_,AJ (j:=0) rfl,?_];show if(t.b==x)=t_ then _ else _
      cases cb:t.b==x with
      |true=>
       have eb:t.b=x:=eq_of_beq cb;exact Bv^H t.a t.len ma (by rw[←eb];exact d1) (λg w F=>.inr #[na,eb,g,w,F]) λh=>h.elim (λh=>absurd h.1 na) λh=>h.2.2
      |false=>
       have nb:t.b≠x:=λz=>by rw[z,beq_self_eq_true]at cb;cases cb
       refine Bl ?_;exact#[rfl,on (λh=>h.elim (λh=>na h.1) λh=>nb h.2.1) _ _ _ _]
   refine go Z _ _ _ _ _ (λt Q=>(E t).mp Q) ex λy g l k o s v w F h3 h4 h5=>?_;have y0:0<=g:=(T.least y g w).1.pos ok;exact#[g.toNat,by lk,rfl,y,x::r,g,_,_,_,_,rfl,I.step w F h3 h4 h5,rfl]
end
def De{d:D}(h:Dv d):Cd d:=Cb (by cbv) h.1^by have:=h.2.2;lk
def QS{A:Net}(ok:A.Ok){a:v_ D}(e:JY A^.tup a=t_){x y:Str}{d:Int}(h:Wk A x y d):Qx (K9 A a x - K9 A a y)<=d:=by
 induction h with
 |nil=>rw[Int.sub_self];decide
 |snoc _ f b=>
  let#[v,g,rfl,l]:=f.tie ok;have c:=of_decide_eq_true^kr.mp (jN _ _▸e).2 v g
  rcases l with⟨rfl,rfl⟩|⟨rfl,rfl⟩ <;>revert b c <;>generalize K9 A a _=i <;>generalize K9 A a _=j <;>generalize K9 A a x=k <;>unfold Qx <;>intro b c <;>split <;>split at b <;>split at c <;>lk
theorem NN{M:Net}(ok:M.Ok):∀{r:v_ Str}{x:Str}{s l:Int},IZ M.ts x r s=P3 l->∃d,walk M (x::r) d/\l=s+d
 |[],x,s,l,h=>#[0,rfl,by have:s=l:=jH h;lk]
 | y::r,x,s,l,h=>by
  have h:(match look M.ts x y with|some l=>IZ M.ts y r (s+l)|none=>s_)=P3 l:=h;cases e:look M.ts x y with
  |none=>grind
  | some a=>
   rw[e]at h;let#[d,b,j]:=NN ok h
   have f:Ed M x y a:=by
    unfold look at e;cases c:(EA M.ts x).find? λz=>decide (z.1=y)with
    |none=>grind
    |some q=>
     rw[c]at e;have g:q.1=y:=of_decide_eq_true^oW (p:=λz:Str×Int=>decide (z.1=y)) c;have i:q.2=a:=jH e;rw[←g,←i];exact mM c
   exact#[a+d,#[a,d,f,b,rfl],by lk]
def Ts{A:Net}(ok:A.Ok){a c:Str}{y:D}{l:Int}(b:dI A a c y=.int l):∃k,Wk A a c k/\k<=l:=by
 have b:(match SG A y with|.int l=>if((Ud y).head?==P3 a&&(Ud y).getLast?==P3 c)=t_ then D.int l else .non|_=>.non)=.int l:=b
 rcases NL A y with e|⟨x,r,n,rfl,e⟩
 .rw[e]at b;cases b
 .rw [e]at b
  have j:Ud^IH (x::r)=x::r:=Ec _;rw[j]at b;have b:(if((x::r).head?==P3 a&&(x::r).getLast?==P3 c)=t_ then D.int n else .non)=.int l:=b
  split at b
  .rename_i o
   cases b;let#[f,g]:=(jN _ _▸o:_/\_);have f:x=a:=jH^eq_of_beq f;have g:=eq_of_beq g
   have h:SG A^IH (x::r)=if x∈A.ps then WZ^IZ A.ts x r 0 else .non:=by
    show(if((x::r).map D.str).all Dg then XX A^strsOf^(x::r).map D.str else D.non)=_;rw[all_strs,if_pos rfl,show strsOf^(x::r).map D.str=x::r from j];rfl
   rw[h]at e
   split at e
   .cases i:IZ A.ts x r 0 with
    |none=>rw[i]at e;cases e
    |some p=>
     rw[i]at e;have e:p=l:=by injection e
     let#[d,q,t]:=NN ok i;let#[k,m,s]:=II ok q g x Rs;rw[f]at m;exact#[k,m,by lk]
   .cases e
  .cases b
theorem Mx{d:v_ Str}:∀{a:v_ D},(∀e∈a,∃x,e=.str x/\x∈d)->∃b:v_ Str,a=b.map .str/\∀x∈b,x∈d
 |[],_=>#[[],rfl,λx h=>by cases h]
 |e::a,f=>by
  let#[x,rfl,j]:=f e Rs;let#[b,rfl,c]:=Mx λe g=>f e^Sc _ g;exact#[_,rfl,λy i=>(UF.mp i).elim (λe=>by grind)^c y]
def OS{x y z:Int}(h:x<=y)(a:0<=z):x*z<=y*z:=oZ h a
section
variable {ss:v_ Slot}{n:Nat}{Pd:D->Nat->Prop}
def Rc(h:L5 ss n Pd):Fe (EE Pd) n (ss++T0 1 .no):=by
 let#[N,M,t,b,a,c,e,x,y,rfl,f,i,#[r,s,u,v],w,A,B,p]:=h;unfold Fe;exists _,AJ (j:=0) rfl,_,AJ (j:=1) rfl,_,AJ (j:=1) rfl,M,a,c,x,rfl,i,B
 rcases NO M a c x with o|⟨l,o⟩
 .rw[o]
  exact#[rfl,p u_ λz=>by cases z]
 .rw[o]
  exists rfl,_,AJ (j:=2) rfl,N,y,rfl,f;show if(!JY N y)=t_ then _ else _
  cases q:JY N y with
  |false=>exact Bv^p u_ λz=>by cases z
  | true=>
   cases y with
   |tup C=>
    let#[D,E]:=T4 q;refine Bl #[_,AJ (j:=2) rfl,_,AJ (j:=0) rfl,_,AJ (j:=1) rfl,N,C,a,c,rfl,f,D,E,w,A,l,t,b,_,rfl,r,s,u,v,p _ λz d F=>?_];have z:=of_decide_eq_true z;let#[k,G,H]:=Ts i.1 o;let#[m,I,J]:=Hc i.1 k.toNat k (Op _) G;exists m,I;have g:=QS f.1 q F.1;have K:=OS (show m<=l by lk) (show 0<=b by lk);have L:=OS g (show 0<=t by lk);lk
   |_=>cases q
def Uj(h:PJ ss n Pd):Ji (EE Pd) n (ss++T0 0 .no):=by
 let#[N,d,rfl,c,l,p]:=h;unfold Ji;cases d with
 | tup a=>
  have A:a.length<=160000:=jJ (Dx a) l.2.1;refine#[by show a.length<=10000000;lk,?_];refine Ba (λe=>.bl^(N.ps.map D.str).any λu=>DQ u e) (λo=>∃s,o=[.sh^enc N,s]) _ _ _ _ ?_ #[_,rfl] ?_
  .rintro e f o m B ⟨s,rfl⟩ g
   exact#[_,AJ (j:=0) rfl,De^C7 l f,Ic c.1.names,_,rfl,g _ #[_,rfl]]
  .rw[jQ]
   delta AV
   dsimp only
   refine FW (p:=λe=>(N.ps.map D.str).any λu=>DQ u e) ?_;cases r:a.all λe=>(N.ps.map D.str).any λu=>DQ u e with
   |false=>exact p u_ λz=>by cases z
   | true=>
    have t:∀e∈a,∃x,e=.str x/\x∈N.ps:=λe f=>by
     let#[u,v,i]:=mU.mp^kr.mp r e f;let#[x,b,rfl]:=TM.mp v;cases e with
     |str y=>rw[Hf,beq_iff_eq]at i;exact#[y,rfl,i▸b]
     |_=>cases i
    have b:=Mx t;let#[q,rfl,k]:=b;refine#[_,q.map .str,rfl,rfl,by lk,λx b y w=>?_,p _ λ_=>#[q,rfl,k]];let#[x,_,rfl]:=TM.mp b;let#[y,_,rfl]:=TM.mp w;exact#[_,rfl]
 |_=>exact p u_ λz=>by cases z
def Px(h:F9 ss n Pd):Eu (EE Pd) n (ss++T0 0 .no):=by
 let#[N,a,c,d,rfl,g,P,Q,F,p]:=h;have R:=g.2.2;have ok:=g.1;have no:=p u_ λz=>by cases z
 unfold Eu;refine#[N,d,rfl,g,F,λr S=>?_];cases r with
 |false=>exact no
 | true=>
  let#[f,rfl,s]:=S rfl;have W:∀x∈f,SI x:=λx t=>ok.names x^s x t;have i:Cd^.tup^f.map .str:=De F;exists _,AJ (j:=0) rfl,ER^ok.names a P,i,_,rfl;show if(!((f.map D.str).any λy=>DQ y^.str a))=t_ then _ else _
  rw[Ep]
  by_cases w:a∈f
  .rw [decide_eq_true w]
   refine Bl #[_,AJ (j:=1) rfl,ER^ok.names c Q,i,_,rfl,?_];show if((f.map D.str).any λy=>DQ y^.str c)=t_ then _ else _
   rw[Ep]
   by_cases l:c∈f
   .rw[decide_eq_true l];exact Bv no
   .rw[decide_eq_false l]
    refine Bl #[_,AJ (j:=1) rfl,by show(N.ts.map Aj).length<=10000000;rw[No];lk,?_];refine Ba (λe=>match e with|.tup [.str x,.str y,_]=>.bl^DQ (.bl (decide (x∈f)))^.bl (decide (y∈f))|_=>.non) (λG=>∃H I J,G=[.sh^.tup^f.map .str,H,I,J]) _ _ _ _ ?_ #[_,_,_,rfl] ?_
    .rintro e A G m X ⟨H,I,J,rfl⟩ C
     let#[u,E,rfl]:=TM.mp A;let#[T,U,_]:=ok.tin u E;have K:∀b:Bool,Cd^.bl b:=λb=>Cb (B:=0) (by cbv) trivial (eq _);exists rfl,rfl,ER^ok.names _ T,i,_,rfl,ER^ok.names _ U,i,_,rfl,K _,K _;rw[Ep,Ep];exact C _ #[_,_,_,rfl]
    .rw[jQ]
     delta AV
     dsimp only
     have L:(N.ts.map Aj).map (λe=>match e with|.tup [.str x,.str y,_]=>D.bl^DQ (.bl (decide (x∈f)))^.bl (decide (y∈f))|_=>.non)=(N.ts.map λu=>D.bl^DQ (.bl (decide (u.a∈f)))^.bl (decide (u.b∈f))):=by
      rw[kh];rfl
     rw[L];refine FW (p:=λu:BP=>DQ (.bl (decide (u.a∈f)))^.bl (decide (u.b∈f))) ?_;refine p _ λz k V=>l ?_
     have M:∀u∈N.ts,(u.a∈f↔u.b∈f):=λu E=>by
      have q:(decide (u.a∈f)==decide (u.b∈f))=t_:=kr.mp z u E;have q:=eq_of_beq q;rw[kT,decide_eq_true_eq,decide_eq_true_eq]at q;exact q
     clear l no p z L
     induction V with
     |nil=>exact w
     |snoc _ A O=>
      let#[v,o,_,t]:=A.tie ok
      rcases t with⟨rfl,rfl⟩|⟨rfl,rfl⟩
      .exact(M v o).mp^O (ok.tin v o).1
      .exact(M v o).mpr (O (ok.tin v o).2.1)
  .rw[decide_eq_false w];exact Bv no
def N9(h:G1 ss n Pd):Hs (EE Pd) n (ss++T0 0 .no):=by
 let#[N,M,t,b,a,c,d,rfl,g,l,v,o,q,k,p]:=h;have no:=p u_ λz=>by cases z
 have s:∀x:Str,x="near"\/x="apart"->Cd^.str x:=λx w=>Cb (B:=0) (by cbv) (by rcases w with rfl|rfl <;>(show ∀c∈cs _,c<1114112;decide +kernel))^eq _;unfold Hs;exists 3,d,rfl
 have i:(Aq^F_ (AR CF^AB (AE^wC^D.int 2)^AB (AE^AC 4) AQ)^F_ (AX SQ (AX Az (AC 4)^wC^D.int 0)^wC^D.str "apart")^AR F9^AB (AE^AC 0)^AB (AE^AC 2)^AB (AE^AX Az (AC 4)^wC^D.int 1) AQ) (EE Pd) n [.sh^enc N,.sh^CL t b,.sh^pairD (a,c),.sh^enc M,.sh d]:=by
  exists 2,d,rfl;cases f:tupleOfB 2 d with
  |false=>exact no
  | true=>
   obtain⟨x,y,rfl⟩:∃x y,d=.tup [x,y]:=by
    cases d with
    | tup m=>
     match m,f with
     |[x,y],_=>exact#[x,y,rfl]
     |[],f=>cases f
     |[_],f=>cases f
     |_::_::_::r,f=>
      have:=eq_of_beq f
      simp only[jC]at this;lk
    |_=>cases f
   exists _,AJ (j:=0) rfl,De^C7 k Rs,s _ (.inr rfl);show(match D.bl (DQ x^.str "apart")with|.bl t_=>_|.bl u_=>_|_=>False);cases DQ x^.str "apart" with
   |false=>exact no
   |true=>
    refine#[_,AJ (j:=1) rfl,N,a,c,y,rfl,g,o,q,C7 k^Sc _ Rs,λr A=>p r λz d C=>absurd C.1^A z d]
 show if tupleOfB 3 d=t_ then _ else _
 cases u:tupleOfB 3 d with
 |false=>exact Bl i
 | true=>
  obtain⟨e,x,y,rfl⟩:∃e x y,d=.tup [e,x,y]:=by
   cases d with
   | tup m=>
    match m,u with
    |[e,x,y],_=>exact#[e,x,y,rfl]
    |[],f=>cases f
    |[_],f=>cases f
    |[_,_],f=>cases f
    |_::_::_::_::r,f=>
     have:=eq_of_beq f
     simp only[jC]at this;lk
   |_=>cases u
  refine Bv #[_,AJ (j:=0) rfl,De^C7 k Rs,s _ (.inl rfl),?_];show if DQ e (.str "near")=t_ then _ else _
  cases DQ e^.str "near" with
  |false=>exact Bl i
  |true=>exact Bv #[N,M,t,b,a,c,e,x,y,rfl,g,l,v,o,q,C7 k^Sc _ Rs,p]
end
def Yj{d:D}(h:tupleOfB 3 d=t_):∃e x y,d=.tup [e,x,y]:=by
 cases d with
 | tup b=>
  match b,h with
  |[e,x,y],_=>grind
  |[],a=>cases a
  |[_],a=>cases a
  |[_,_],a=>cases a
  |_::_::_::_::r,a=>
   have:=eq_of_beq a
   grind
 |_=>cases h
def Yk{d:D}(h:tupleOfB 2 d=t_):∃x y,d=.tup [x,y]:=by
 cases d with
 | tup b=>
  match b,h with
  |[x,y],_=>grind
  |[],a=>cases a
  |[_],a=>cases a
  |_::_::_::r,a=>
   have:=eq_of_beq a
   grind
 |_=>cases h
def da{k:Nat}{d:D}(h:tupleOfB (k:Int) d=t_):∃a,d=.tup a/\a.length=k:=by
 cases d with
 |tup b=>have:=eq_of_beq h;grind
 |_=>cases h
def VL{i j:Int}{F:D->Prop}(h:¬i<=j)(p:F^.bl u_):QW (.int i) (.int j) F:=by
 show F _;rw[decide_eq_false h];exact p
def VG{i j:Int}{F:D->Prop}(h:¬i<j)(p:F^.bl u_):FV (.int i) (.int j) F:=by
 show F _;rw[decide_eq_false h];exact p
def Gr{w:Str}{k:Nat}(a:w="shape"\/w="pair"\/w="tie")(b:k<=1000):Dv^.tup [.str w,.int (k:Int)]:=by
 have h:fine (10 ^ 40)^.str w/\w.length<=10:=by rcases a with rfl|rfl|rfl <;>exact#[by show ∀c∈cs _,c<1114112;decide +kernel,by cbv]
 refine#[#[h.1,by show(k:Int).natAbs<=10 ^ 40;lk,trivial],?_,by show 1<=50;decide];show w.length+1+(200+1+0)<=160000;lk
section
variable {ss:v_ Slot}{n:Nat}{Pd:D->Nat->Prop}{Pr:PX}
def Pz(h:Iz ss n Pd):GZ (EE Pd) n (ss++T0 3 .no):=by
 let#[N,M,t,b,u,d,rfl,a,o,C,#[I,J,K,L],O,P,p]:=h;have no:=p u_ λz=>by cases z
 unfold GZ;exists 3,d,rfl;show if(!tupleOfB 3 d)=t_ then _ else _
 cases Q:tupleOfB 3 d with
 |false=>exact Bv no
 | true =>
  let#[e,x,y,rfl]:=Yj Q;refine Bl #[_,AJ (j:=0) rfl,[e],rfl,rfl,?_];show if(!RJ e)=t_ then _ else _
  cases e with
  | int i=>
   refine Bl #[_,AJ (j:=0) rfl,?_]
   by_cases D:0<=i
   .refine Xb D #[_,_,rfl,rfl,?_]
    by_cases E:i<(u.length:Int)
    .refine XQ (by rw[No];exact E) ?_
     obtain⟨j,rfl⟩:∃j:Nat,i=(j:Int):=#[i.toNat,by lk];have R:j<u.length:=by lk
     obtain⟨q,w⟩:∃q,u[j]?=P3 q:=#[_,On R];have F:(u.map pairD)[j]?=P3^pairD q:=by rw[jG,w];rfl
     let#[S,T]:=O.2 q^jo w;refine Bl #[_,AJ (j:=0) rfl,_,AJ F,_,AJ (j:=0) rfl,_,AJ (j:=0) rfl,_,AJ F,_,AJ (j:=1) rfl,_,AJ (j:=1) rfl,N,q.1,q.2,x,rfl,a,C7 P^Sc _ Rs,?_]
     rcases NO N q.1 q.2 x with v|⟨l,v⟩
     .rw[v];exact#[rfl,no]
     .rw[v]
      exists rfl,_,AJ (j:=2) rfl,M,y,rfl,o;show if(!JY M y)=t_ then _ else _
      cases f:JY M y with
      |false=>exact Bv no
      | true=>
       cases y with
       |tup r=>
        let#[G,U]:=T4 f;rw[C]at G;refine Bl #[_,AJ (j:=2) rfl,N,r,q.1,q.2,rfl,a,G,U,S,T,_,t,b,l,rfl,I,J,K,L,p _ λz V=>?_];have z:¬Qx (K9 N r q.1 - K9 N r q.2)*b<=l*t:=λc=>by rw[decide_eq_true c]at z;cases z
        let#[k,A,W]:=Ts a.1 v;let#[m,X,Y]:=Hc a.1 k.toNat k (Op _) A;let#[d',B,Z]:=V q (jo w) m X;have g:=QS o.1 f B.1;have H:∀s,K9 M r s=K9 N r s:=λs=>by unfold K9;rw[C]
        rw[H,H]at g;have h1:=OS g (show 0<=b by lk);have h2:=OS (show m<=l by lk) (show 0<=t by lk);lk
       |_=>cases f
    .exact VG (by rw[No];exact E)^Bv no
   .exact VL D^Bv no
  |_=>exact Bv no
def Rg(h:L6 ss n Pd):Ga (EE Pd) n (ss++T0 0 .no):=by
 let#[a,M,d,rfl,p]:=h;have no:=p u_ λz=>by cases z
 unfold Ga;exists 2,d,rfl;cases b:tupleOfB 2 d with
 |false=>exact no
 | true=>
  let#[x,y,rfl]:=Yk b;exists _,_,rfl,rfl,_,AJ (j:=0) rfl,_,_,rfl;show(match (D.bl^tupleOfB ((a.map pairD).length:Int) x)with|.bl t_=>_|.bl u_=>_|_=>False);rw[No];cases c:tupleOfB (a.length:Int) x with
  |false=>exact no
  |true=>
   exists _,AJ (j:=1) rfl,_,_,rfl,rfl,_,AJ (j:=1) rfl,_,_,rfl;show Pd (.bl^tupleOfB ((M.ts.map Aj).length:Int) y) n;rw[No];refine p _ λz=>?_;let#[e,rfl,f]:=da c;let#[g,rfl,i]:=da z;exact#[e,g,rfl,f,i]
def Ur(h:PQ ss n Pd Pr):Dq Pr (EE Pd) n (ss++T0 3 .no):=by
 let#[N,#[Z,c],t,b,o,d,rfl,i,I,#[J,H],X,K,Y,p,q]:=h;replace J:Z=N.ps:=J;subst J;replace H:thn N c:=H;have f:=H.okN i;have L:=i.2.2;have M:=bC f;have a0:c.length<=60:=f.2.2;have a1:=PySem.sizeLine_eq;unfold Dq;refine#[N,enc #[N.ps,c],rfl,i.1,I,L,(F2 (by cbv) _).1 _ (Op _) M.1,by have:=M.2.1;lk,by have:=M.2.2;lk,?_];rw[H.thinB];refine Bl #[o,#[N.ps,c],d,rfl,λr y=>?_];cases r with
 |false=>exact Bv^.inr #[rfl,rfl,q "shape" 0^Gr (.inl rfl)^by cbv]
 | true=>
  let#[x,w,rfl,hx,z]:=y rfl;have O:Dv^.tup x:=C7 Y Rs;have P:Dv^.tup w:=C7 Y^Sc _ Rs;refine Bl #[_,rfl,?_]
  have go:∀(a done:EZ) (m l s:Slot) (A:E2),done++a=o->((∀r∈a,gG N #[N.ps,c] t b r.1 r.2)->∀m l,A.nx n [.sh^enc N,.sh^CL t b,.sh^BJ o,.sh^enc #[N.ps,c],.sh^.tup [.tup x,.tup w],m,l,s])->
    A7 (Bz 2^Aa (AT 5)^Aa (AT 6) BM) (fG Pr) A (ET done.length (a.map pairD)) n [.sh^enc N,.sh^CL t b,.sh^BJ o,.sh^enc #[N.ps,c],.sh^.tup [.tup x,.tup w],m,l,s]:=by
   intro a
   induction a with
   |nil=>intro done m l s A _ h;exact h (λ_ h=>by cases h) _ _
   | cons k a Q=>
    intro done m l s A e h;have B:o[done.length]?=P3 k:=by rw[←e,kH^Op _,nX];rfl
    have C:done.length<x.length:=by rw[hx];exact(ZB.mp B).1
    let#[q1,q2]:=K.2 k^jo B;refine#[rfl,rfl,_,AJ (j:=0) rfl,_,AJ^On C,N,_,t,b,k.1,k.2,x[done.length],rfl,i,f,X,q1,q2,C7 O^jm C,λr y=>?_];cases r with
    |false=>exact Bv^.inr #[rfl,rfl,q "pair" done.length (Gr (.inr (.inl rfl))^by have:=K.1;lk)]
    |true=>
     have:=Q (done++[k]) (.sh^.int (done.length:Int)) (.sh^pairD k) s A (by rw[j6];exact e) λR=>h λr S=>(UF.mp S).elim (λe=>by rw[e];exact y rfl)^R r
     rw[jD,jV]at this;exact Bl this
  refine go o [] _ _ _ _ rfl λE m l=>?_;refine#[_,AJ (j:=1) rfl,_,c,rfl,rfl,by lk,λT U r2=>#[_,rfl,?_]]
  have V:∀(a done:v_ BP) (m l s:Slot),done++a=T->(∀u∈done,¬keepsP N t b o^BS #[N.ps,c] u)->
    A7 (Bz 2^Aa (AT 5)^Aa (AT 7) BM) (fF Pr) {EE Pd with nx:=Aq (wC^D.bl t_)^EE Pd} (ET done.length (a.map Aj)) n [.sh^enc N,.sh^CL t b,.sh^BJ o,.sh^enc #[N.ps,c],.sh^.tup [.tup x,.tup w],m,l,s]:=by
   intro a
   induction a with
   |nil=>
    intro done m l s e F;rw[jZ]at e;subst e;exact p #[λk R d F=>E k R d F,λu G=>F u^U.mem_iff.mpr G]
   | cons u a Q=>
    intro done m l s e F;have B:T[done.length]?=P3 u:=by rw[←e,kH^Op _,nX];rfl
    have G:u∈c:=U.mem_iff.mp^jo B
    have C:done.length<w.length:=by
     have z:w.length=c.length:=z;rw[z,←U.length_eq];exact(ZB.mp B).1
    refine#[rfl,rfl,z1,_,u,rfl,f,Gh f.1 u G,_,AJ (j:=1) rfl,_,AJ^On C,N,BS #[N.ps,c] u,t,b,o,w[done.length],rfl,i,B3 f u,rfl,X,K,C7 P^jm C,λr y=>?_];cases r with
    |false=>exact Bv^.inr #[rfl,rfl,q "tie" done.length (Gr (.inr (.inr rfl))^by have z:w.length=c.length:=z;lk)]
    |true=>
     have:=Q (done++[u]) (.sh^.int (done.length:Int)) l (.sh^Aj u) (by rw[j6];exact e) λv W=>(jK.mp W).elim (F v) λW=>by rw[Tk.mp W];exact y rfl
     rw[jD,jV]at this;exact Bl this
  exact V T [] _ _ _ rfl λu G=>by cases G
end
def Pf{a:v_ Str}:YS^.tup^a.map .str:=.t _ λx b=>by let#[y,_,rfl]:=TM.mp b;exact .s y
def WH{l:v_ Int}:YS^.tup^l.map .int:=.t _ λx a=>by let#[y,_,rfl]:=TM.mp a;exact .i y
def TF{N:Net}(ok:N.Ok){w:v_ Str}(h:∀x∈w,x∈N.ps):fine (10 ^ 34)^IH w/\DC^IH w<=9*w.length/\Gz^IH w<=1:=by
 have c:Ct _<=9*(w.map D.str).length:=IP λd a=>by
  let#[x,b,rfl]:=TM.mp a
  have:=(ok.names x^h x b).2.1
  show x.length+1<=9;lk
 rw[No]at c;exists Dh λd a=>?_,c
 .let#[x,b,rfl]:=TM.mp a
  exact(C1^ok.names x^h x b).1.mono^by cbv
 .have:IG^w.map D.str<=0:=dps_le.mpr λd a=>by
   let#[x,b,rfl]:=TM.mp a;exact Op _
  show IG _+1<=1;lk
def ZU{l:v_ Int}(h:∀i∈l,0<=i/\i<=10 ^ 33):fine (10 ^ 34)^.tup^l.map .int/\DC^.tup^l.map .int<=201*l.length/\Gz^.tup^l.map .int<=1:=by
 have c:Ct _<=201*(l.map D.int).length:=IP λd a=>by
  let#[x,b,rfl]:=TM.mp a;exact Op _
 rw[No]at c;exists Dh λd a=>?_,c
 .let#[x,b,rfl]:=TM.mp a
  have:=h x b
  show x.natAbs<=10 ^ 34;lk
 .have:IG^l.map D.int<=0:=dps_le.mpr λd a=>by
   let#[x,b,rfl]:=TM.mp a;exact Op _
  show IG _+1<=1;lk
def OD{N:Net}(ok:N.Ok){e:D}{w:v_ Str}{l:v_ Int}(d:e=.str "near"\/∃j:Nat,e=.int (j:Int)/\j<=1000)(f:∀x∈w,x∈N.ps)(o:w.length<=30)(g:∀i∈l,0<=i/\i<=10 ^ 33)(h:l.length=N.ps.length):HQ N.ps.length^.tup [e,IH w,.tup^l.map .int]:=by
 let#[k,p,q]:=TF ok f;let#[m,n,r]:=ZU g
 have a:YS e/\fine (10 ^ 34) e/\DC e<=200/\Gz e<=0:=by
  rcases d with rfl|⟨j,rfl,u⟩
  .exact#[.s _,by show ∀c∈cs "near",c<1114112;decide +kernel,by cbv,by cbv]
  .exact#[.i _,by show(j:Int).natAbs<=10 ^ 34;lk,Op _,eq _]
 exists .t _ λx b=>?_,#[a.2.1,k,m,trivial],?_
 .simp only[UF,jO,or_false]at b
  rcases b with rfl|rfl|rfl
  .exact a.1
  .exact Pf
  .exact WH
 .show DC e+1+(DC^IH w+1+(DC^.tup^l.map .int+1+0))<=_
  rw[h]at n;lk
 .show max (Gz e)^max (Gz^IH w)^max (Gz^.tup^l.map .int) 0+1<=2
  omega
def XB{N:Net}(ok:N.Ok){w:v_ Str}(b:∀x∈w,x∈N.ps)(e:w.length<=30):HQ N.ps.length^.tup [.str "apart",IH w]:=by
 let#[d,f,g]:=TF ok b;exists .t _ λx a=>?_,#[by show ∀c∈cs _,c<1114112;decide +kernel,d,trivial],?_
 .simp[UF,jO,or_false]at a
  rcases a with rfl|rfl
  .exact .s _
  .exact Pf
 .show 5+1+(DC _+1+0)<=_
  omega
 .show max 0^max _ 0+1<=2
  omega
def Qc{M:Net}(b:okN M){a:Str}{F:L_}(T:Told M a F){m:Int}(c:0<=m)(e:m<=10 ^ 33):(M.ps.map λx=>D.int (MZ m ((F x).map (·.1))))=(M.ps.map λx=>MZ m ((F x).map (·.1))).map .int/\∀i∈M.ps.map λx=>MZ m ((F x).map (·.1)),0<=i/\i<=10 ^ 33:=by
 refine#[by simp_all,λi d=>?_];let#[y,_,rfl]:=TM.mp d
 have:=cW c^Za b.1^T.far y
 omega
def Xy{N:Net}(ok:N.Ok){x y:Str}{l:Int}(h:Ed N x y l):1<=l/\l<=1000000:=by
 let#[t,a,rfl,_]:=h.tie ok;exact(ok.tin t a).2.2.2
theorem Mq{N:Net}(ok:N.Ok):∀{w:v_ Str}{d:Int},walk N w d->d<=1000000*(w.length:Int)
 |[],_,h=>h.elim
 |[_],d,h=>by
  have h:d=0:=h
  grind
 |x::y::r,d,#[l,e,a,b,c]=>by
  have k:=Mq ok b
  have:=Xy ok a
  grind
def V3{N:Net}(b:okN N){a c:Str}{w:v_ Str}{l:Int}(h:S1 30 N a c w l):l<=30000000:=by
 have:=Mq b.1 h.2.2.1
 have:=h.2.2.2.1
 omega
theorem Mv{N:Net}(ok:N.Ok){a:Str}{F:L_}(T:Told N a F):∀(k:Nat) (r:v_ Str) (x:Str) (d:Int) (p:w_ Str),F x=P3 (d,p)->r.Nodup->(∀y∈r,y∈N.ps/\∃e q,F y=P3 (e,q)/\d<e)->N.ps.length<=r.length+k->d<=1000000*(k:Int)
 | k,r,x,d,p,c,m,n,f=>by
  have g:x∉r:=λh=>by
   grind
  have i:=T.ins x (by rw[c];simp);have b:=ja.mpr #[g,m]
  have:=KP b λy j=>(UF.mp j).elim (λe=>e▸i) λh=>(n y h).1
  rw[jC]at this
  match k,f with
  |0,f=>lk
  | k+1,f=>
   rcases T.prev x d p c with⟨_,rfl⟩|⟨y,o,q,l,_,j,s,rfl⟩
   .rw[T.start]at c
    grind
   .have t:=Xy ok s
    have:=Mv ok T k _ y o q j b (λz u=>by
     grind)^by grind
    omega
def WI{N:Net}(b:okN N){a:Str}{F:L_}(T:Told N a F){x:Str}{d:Int}{p:w_ Str}(h:F x=P3 (d,p)):d<=30000000:=by
 have:=Mv b.1 T N.ps.length [] x d p h kR (λ_ h=>by cases h)^by simp
 have:=b.2.1
 omega
section
variable {ss:v_ Slot}{n:Nat}{Pd:D->Nat->Prop}
def Rf(h:IA ss n Pd):Ho (EE Pd) n (ss++T0 1 .no):=by
 let#[N,M,t,b,a,c,rfl,f,r,s,k,A,E,p]:=h;have G:=f.2.1;have H:=f.1.names;unfold Ho;refine#[N,a,c,rfl,f,k,A,λo u=>#[rfl,?_]];cases o with
 |none=>
  refine Bv #[N,a,rfl,f,k,λI J F Dm T=>?_];let#[m,ex]:=Ie Dm.dom;have K:∀x,x∈m↔F x≠s_:=λx=>by rw[←Dm.mem x,ex,TM];exact#[λh=>#[x,h,rfl],fun#[y,hy,e]=>by cases e;exact hy]
  have i:∀x∈m,x∈N.ps:=λx g=>T.ins x^(K x).mp g;have L:m.length<=25:=by have:=Dm.le T.ins;rw[ex,No]at this;lk
  refine#[_,I,J,m,rfl,rfl,Dm.len,ex,by lk,λx g=>by have:=(H x^i x g).2.1;rw[jj];lk,λW B X=>#[?_,p _^XB f.1 (λx g=>i x^B.mem_iff.mp g)^by rw[B.length_eq];lk]];show 2<=sizeLine;decide
 | some d=>
  let#[O,v,P]:=E d u;refine Bl #[M,a,c,rfl,r,by rw[s];exact k,by rw[s];exact A,λQ j=>?_];cases Q with
  |none=>exact absurd v.1^j O
  | some w=>
   let#[l,C,L]:=Eb j;refine#[N,a,d,rfl,f,k,λF T=>#[by show 3<=sizeLine;decide,?_]];have R:=(show Least N a c d from u).1.pos f.1
   have S:d<=10 ^ 33:=by
    have e:(F c).map (·.1)=P3 d:=Far.unique (T.far c) u;cases z:F c with
    |none=>rw[z]at e;cases e
    |some q=>
     rw[z]at e;have e:q.1=d:=jH e
     have:=WI f T (p:=q.2) z
     omega
   let#[U,V]:=Qc f T R S;show Pd (.tup [.str "near",IH w,.tup (N.ps.map λx=>D.int (MZ d ((F x).map (·.1))))]) n;rw[U];exact p _^OD f.1 (.inl rfl) (λx g=>by have:=C.2.2.2.2 x g;rw[s]at this;exact this) C.2.2.2.1 V (No ..)
def Uo(h:KH ss n Pd):GY (EE Pd) n (ss++T0 3 .no):=by
 let#[N,M,t,b,f,G,rfl,a,c,g,k,r,H,A,p]:=h;unfold GY;refine#[N,M,t,b,f,G,rfl,c,g,k,r,H,λo I J=>?_];cases o with
 |none=>rw[I rfl]at A;cases A
 | some i=>
  let#[_,j,q,d,rfl,s,K,u,S]:=J i rfl;let#[e,y]:=r.2 q^jo s;have B:(f.map pairD)[j]?=P3^pairD q:=by rw[jG,s];rfl
  refine#[_,AJ B,_,AJ (j:=0) rfl,_,AJ B,_,AJ (j:=1) rfl,N,q.1,q.2,rfl,a,e,y,λo C=>?_];cases o with
  |none=>exact absurd u.1^C d
  |some w=>
   let#[l,z,L]:=Eb C;have O:=Least.unique L u;subst O;refine#[_,AJ (v:=D.int l) (by rw[jG,K];rfl),t,b,l,rfl,k,M,q.1,_,rfl,c,by rw[g];exact e,λF T=>#[by show 3<=sizeLine;decide,?_]];let#[U,V,W,P]:=k;have E:=u.1.pos a.1;have X:j<f.length:=(ZB.mp s).1;have lt:l<=30000000:=V3 a z;have Y:=Int.ediv_nonneg (Int.mul_nonneg E (show 0<=t by lk)) (show 0<=b by lk);have Z:l*t / b<=l*t:=Int.ediv_le_self _ (Int.mul_nonneg E^by lk);have m2:l*t<=30000000*1000000:=Int.mul_le_mul lt P (by lk) (by lk);let#[Q,R]:=Qc c T (m:=l*t / b+1) (by lk) (by lk);show Pd (.tup [.int (j:Int),IH w,.tup (M.ps.map λx=>D.int (MZ (l*t / b+1) ((F x).map (·.1))))]) n;rw[Q];exact p _^OD a.1 (.inr #[j,rfl,by have:=r.1;lk]) z.2.2.2.2 z.2.2.2.1 R^by rw[No,g]
def Ri(h:L7 ss n Pd):Ew (EE Pd) n (ss++T0 4 .no):=by
 let#[N,t,b,i,rfl,g,z,X,v,p]:=h;have Y:0<=b:=by have:=z.1;lk
 unfold Ew;refine#[N,t,b,i,rfl,g,z,v,λk Z bo=>#[N,i,rfl,g,v,λV A=>?_]];have f:okN^Ag N t b i N k.reverse:=Cu g;have y:(Ag N t b i N k.reverse).ps=N.ps:=G7;have B:keepsP N t b i^Ag N t b i N k.reverse:=Ee^LV g.1 X;have C:∀u∈(Ag N t b i N k.reverse).ts,BQ N t b i^BS (Ag N t b i N k.reverse) u=u_:=λu m=>Fz Y g u (lO.mpr^Z.mem_iff.mpr^CW u m) m;have E:(Ag N t b i N k.reverse).ts.length<=N.ts.length:=sub_len (CD f.1.trise) (CD g.1.trise) CW;revert f y B C E;generalize Ag N t b i N k.reverse=M;intro f y B C E;exists by show(i.map pairD).length<=10000000;rw[No];have:=v.1;lk
 have go:∀(a:EZ) (c:v_ D) (o F:Slot) (P:v_ D->Nat->Prop),(∀q∈a,q∈i)->(∀l:v_ D,l.length=a.length->(∀d∈l,HQ N.ps.length d)->P (c++l) n)->
   D6 (Bz 2^Aa (AT 2)^Aa (AT 3) BM) DU (AR IA^AB (AE^AC 0)^AB (AE^AC 1)^AB (AE^AC 2)^AB (AE^AC 3) AQ) P (a.map pairD) c n [.sh^enc N,.sh^enc M,o,F]:=by
  intro a
  induction a with
  |nil=>intro c o F P _ h;have:=h [] rfl (λ_ h=>by cases h);rw[jZ]at this;exact this
  |cons q a G=>
   intro c o F P H h;let#[q1,q2]:=v.2 q^H q Rs;refine#[rfl,rfl,N,M,t,b,q.1,q.2,rfl,g,f,y,q1,q2,B q^H q Rs,λd I=>?_];refine G (c++[d]) _ _ P (λr J=>H r^Sc _ J) λl K s=>?_;rw[j6];exact h (d::l) (by rw[jC,K,jC]) λx L=>(UF.mp L).elim (λe=>by rw[e];exact I)^s x
 refine go i [] _ _ _ (λq h=>h) λsh O Q=>?_;rw[jQ];refine#[_,AJ (j:=1) rfl,_,M.ts,rfl,rfl,by have:=f.2.2;lk,λW R r2=>#[by show(W.map Aj).length<=10000000;rw[No,R.length_eq];have:=f.2.2;lk,?_]]
 have S:∀(a:v_ BP) (c:v_ D) (o:Slot) (P:v_ D->Nat->Prop),(∀u∈a,u∈M.ts)->(∀l:v_ D,l.length=a.length->(∀d∈l,HQ N.ps.length d)->P (c++l) n)->
   D6 (AT 5) DU (AR KH^AB (AE^AC 0)^AB (AE^AC 1)^AB (AE^AC 2)^AB (AE^AC 3)^AB (AE^AR Du^AB (AE^AC 4)^AB (AE^CG^AF (AC 5) AV) AQ) AQ) P (a.map Aj) c n [.sh^enc N,.sh^CL t b,.sh^BJ i,.sh^.lst^V.map HS,.sh^enc M,o]:=by
  intro a
  induction a with
  |nil=>intro c o P _ h;have:=h [] rfl (λ_ h=>by cases h);rw[jZ]at this;exact this
  |cons u a G=>
   intro c o P m h;have w:=m u Rs;refine#[z1,M,u,rfl,f,Gh f.1 u w,N,BS M u,t,b,i,V,rfl,g,B3 f u,y,z,v,A,C u w,λd I=>?_];refine G (c++[d]) _ P (λr J=>m r^Sc _ J) λl K s=>?_;rw[j6];exact h (d::l) (by rw[jC,K,jC]) λx L=>(UF.mp L).elim (λe=>by rw[e];exact I)^s x
 refine S W [] _ _ (λu m=>R.mem_iff.mp m) λns T U=>?_;rw[jQ];exact#[by show 2<=sizeLine;decide,p _ #[sh,ns,rfl,O,by rw[T,R.length_eq];exact E,Q,U]]
def We(h:Sw ss n Pd):EW (EE Pd) n (ss++T0 1 .no):=by
 let#[a,w,k,rfl,p]:=h;unfold EW
 have b:∀l:v_ D,l=T0 7^.bl u_->Cd^.lst l/\(l.any λy=>DQ y^.bl t_)=u_:=λl e=>by
  subst e;exact#[Cb (B:=10 ^ 40) (by cbv) #[trivial,trivial,trivial,trivial,trivial,trivial,trivial,trivial]^by cbv,rfl]
 have c:decide (("NoPaper":Str)="TooMany")=u_:=by cbv
 have d:decide (("NoPaper":Str)="Twice")=u_:=by cbv
 have f:decide (("NoPaper":Str)="NoPlace")=u_:=by cbv
 have g:decide (("NoPaper":Str)="NoTie")=u_:=by cbv
 have i:decide (("NoPaper":Str)="NoLine")=u_:=by cbv
 have j:decide (("NoPaper":Str)="NoRow")=u_:=by cbv
 exists z4,z3,by cbv,Cb (B:=10 ^ 40) (by cbv) trivial (by cbv),?_,_,rfl
 .simp_all
 .have k:=(b ([.bl (decide (("NoPaper":Str)="TooMany")),.bl (decide (("NoPaper":Str)="Twice")),.bl (decide (("NoPaper":Str)="NoPlace")),.bl (decide (("NoPaper":Str)="NoTie"))]++[.bl (decide (("NoPaper":Str)="NoLine")),.bl (decide (("NoPaper":Str)="NoRow")),.bl !t_])^by simp_all).2
  exact#[_,fI _ _,_,fH _ _,z2,p]
def Wg(h:PP ss n Pd):Ey (EE Pd) n (ss++T0 1 .no):=by
 let#[M,E,a,m,z,q,r,rfl,t,c,b,rfl,u,F,G,p]:=h;have v:=b.2.1;unfold Ey;refine#[M,a,z,r,rfl,t,c,b,u,λf g K w T=>?_];refine#[_,AJ (j:=0) rfl,by show(M.ps.map D.str).length<=10000000;rw[No];lk,?_];refine Ba (λd=>match d with|.str x=>.int^(K x).getD m|_=>.non) (λo=>∃s,o=[.sh^.int m,.sh^.dic f g,s]) _ _ _ _ ?_ #[_,rfl] ?_
 .rintro d y o A B ⟨s,rfl⟩ l
  let#[x,H,rfl]:=TM.mp y;have k:B (.int^(K x).getD m) A [.sh^.int m,.sh^.dic f g,.sh^.str x]:=l _ #[_,rfl];exists f,g,rfl,_,A2 x;rw[w.at_ x];cases e:K x with
  |none=>rw[e]at k;exact k
  |some d=>rw[e]at k;exact k
 .rw[jQ]
  have e:(M.ps.map D.str).map (λd=>match d with|.str x=>D.int^(K x).getD m|_=>.non)=(M.ps.map λx=>(K x).getD m).map .int:=by
   rw[kh,kh];rfl
  rw[e];refine p _ (No ..) λi C=>?_;let#[x,_,rfl]:=TM.mp C;cases e:K x with
  |none=>show 0<=m/\m<=m;lk
  |some d=>
   have:=T.top x d e
   have:=(T.least x d e).1.pos b.1
   show 0<=d/\d<=m;lk
end
section
variable {ss:v_ Slot}{n:Nat}{Pd:D->Nat->Prop}
def Lj{M:Net}(a:okN M){u:BP}:(M.ts.map Aj).filter (λd=>!DQ d (Aj u))=(BS M u).ts.map Aj:=by
 rw[oX]
 congr 1
 refine pL λv _=>?_;show(!DQ _ _)=decide _;rw[decide_not]
 congr 1
 rw[kT,OX,decide_eq_true_eq]
def Ui(h:F8 ss n Pd):Gc (EE Pd) n (ss++T0 3 .no):=by
 let#[N,t,b,i,l,rfl,g,H,I,o,p]:=h;have ok:=g.1;have J:=g.2.2;unfold Gc;exists _,AJ (j:=1) rfl
 have K:∀(a:v_ BP) (M:Net) (x A:Slot),(∀u∈a,u∈N.ts)->okN M->M.ps=N.ps->Pd (enc^Ag N t b i M a) n->
   A7 (AT 5) (Ae (A3 6^Bi [P3 5,s_] (A0^AC 4) (AT 1) (AZ^AX QV (AC 1)^AC 0)^AC 1)
 (BC (AZ^AR Fv^AB (AE^AC 0)^AB (AE^AC 1)^AB (AE^AC 2)^AB (AE^AC 6) AQ) (A3 4^AC 6) Av)) {EE Pd with nx:=Aq (BK^AF (AX Az (AC 0)^wC^D.int 0)^AF (CI BI^AF (CI CK^AF (AC 4) AV) AV) AV)^EE Pd} (a.map Aj) n [.sh^enc N,.sh^.tup [.int t,.int b],.sh^.tup^i.map pairD,.br^.lst^l.map Aj,.sh^.lst^M.ts.map Aj,x,A]:=by
  intro a
  induction a with
  |nil=>
   intro M x A _ f q h;exists _,AJ (j:=0) rfl;show CK [D.lst^M.ts.map Aj] λz=>BI [z] λy=>2<=sizeLine/\Pd (.tup [.tup^N.ps.map .str,y]) n;refine Gj (ts:=M.ts) rfl (by have:=f.2.2;lk) λL O P=>#[z2,?_];rw[Gi f.1 f.1.trise O P];have e:(D.tup [.tup^N.ps.map .str,.tup^M.ts.map Aj])=enc M:=by rw[←q];rfl
   show Pd (D.tup [.tup^N.ps.map .str,.tup^M.ts.map Aj]) n;rw[e];exact h
  | cons u a F=>
   intro M x A C f q h;have w:Pd (enc (if BQ N t b i (BS M u)=t_ then Ag N t b i (BS M u) a else Ag N t b i M a)) n:=h;have E:=C u Rs;refine#[by show(M.ts.map Aj).length<=10000000;rw[No];have:=f.2.2;lk,?_];refine CM (λd=>!DQ d (Aj u)) id (λG=>∃s,G=[.sh^Aj u,s]) _ _ _ _ ?_ #[_,rfl] ?_
   .rintro d Q G m nx U ⟨s,rfl⟩ R S
    let#[v,r,rfl]:=TM.mp Q;exists D8 f.1 r,D8 ok E;exact DJ (λc=>R _ #[_,rfl] c) λc=>S _ #[_,rfl]^ji.mpr c
   rw[jQ,nL,Lj f];exists N,BS M u,t,b,i,_,rfl,rfl,g,B3 f u,q,H,I;cases c:BQ N t b i^BS M u with
   |true=>
    rw[c,if_pos rfl]at w;exact F (BS M u) _ _ (λv r=>C v^Sc _ r) (B3 f u) q w
   |false=>
    rw[c,if_neg^by cbv]at w;exact F M _ _ (λv r=>C v^Sc _ r) f q w
 exact#[_,_,rfl,rfl,K l N _ _ o g rfl p]
def Yx(h:YN ss n Pd):Fq (EE Pd) n (ss++T0 1 .no):=by
 let#[N,M,t,b,i,rfl,f,e,q,r,w,#[B,C],p]:=h;unfold Fq;exists _,AJ (j:=1) rfl,N,M,t,b,i,_,rfl,rfl,f,e,q,r,w;rw[keepsB_iff.mpr B];refine Bl #[_,AJ (j:=1) rfl,?_]
 have E:∀(a:v_ BP) (k:Slot),(∀u∈a,u∈M.ts)->
   A7 (AT 4) (BC (AZ^AR Fv^AB (AE^AC 0)^AB (AE^AC 1)^AB (AE^AC 2)^AB (AE^Bi [P3 4,s_] (A0^AX Az (AC 3)^wC^D.int 1) (AT 1) (AZ^AX QV (AC 1)^AC 0)^AC 1) AQ) (Aq^wC^D.bl u_) Av) {EE Pd with nx:=Aq (wC^D.bl t_)^EE Pd} (a.map Aj) n [.sh^enc N,.sh^CL t b,.sh^BJ i,.sh^enc M,k]:=by
  intro a
  induction a with
  |nil=>intro k _;exact p
  | cons u a F=>
   intro k y;have g:=y u Rs;refine#[_,AJ (j:=1) rfl,by show(M.ts.map Aj).length<=10000000;rw[No];have:=e.2.2;lk,?_];refine CM (λd=>!DQ d (Aj u)) id (λA=>∃s,A=[.sh^Aj u,s]) _ _ _ _ ?_ #[_,rfl] ?_
   .rintro d G A m nx J ⟨s,rfl⟩ H I
    let#[v,o,rfl]:=TM.mp G;exists D8 e.1 o,D8 e.1 g;exact DJ (λc=>H _ #[_,rfl] c) λc=>I _ #[_,rfl]^ji.mpr c
   rw[jQ,nL,Lj e];exists N,BS M u,t,b,i,_,rfl,rfl,f,B3 e u,q,r,w;rw[ji.mpr λz=>C u g^keepsB_iff.mp z];exact Bl^F _ λv o=>y v^Sc _ o
 exact E M.ts _ λ_ h=>h
def Wh(h:Sz ss n Pd):Oq (EE Pd) n (ss++T0 2 .no):=by
 let#[N,M,t,b,g,d,rfl,c,e,i,j,l,fd,p]:=h;refine#[N,M,t,b,g,d,rfl,c,e,i,j,l,fd,λf=>p _^.inl #[rfl,f],λw k m=>?_]
 .exact λa=>#[#[_,_,_,rfl],a,w,k,rfl,p _^.inr #[w,k,rfl,m]]
end
def Qe{a:Type}{l:v_ a}{k:Nat}{q:a}(h:l[k]?=P3 q):Dp.cutD l (P3 (k:Int))^P3 ((k:Int)+1)=[q]:=by
 let#[b,rfl]:=ZB.mp h;unfold Dp.cutD;rw[show(k:Int)+1=(k+1:Nat) by lk,HT.sIx_nat,HT.sIx_nat,lX^by lk,lX^by lk,show k+1 - k=1 by lk,kJ b];rfl
def QN{N M:Net}{t b:Int}{a:EZ}(h:BQ N t b a M=u_):∃(k:Nat) (q:Str×Str),a[k]?=P3 q/\BQ N t b [q] M=u_:=by
 apply mL;intro c
 have:keepsP N t b a M:=λq d=>by
  let#[k,f]:=List.getElem?_of_mem d;cases e:BQ N t b [q] M with
  |true=>exact keepsB_iff.mp e q Rs
  |false=>exact absurd #[k,q,f,e] c
 rw[keepsB_iff.mpr this]at h;cases h
section
variable {ss:v_ Slot}{n:Nat}{Pd:D->Nat->Prop}
def Ul(h:KG ss n Pd):Ds (EE Pd) n (ss++T0 8 .no):=by
 let#[N,t,b,f,I,rfl,A,tm,bt,hp,a3,p]:=h;have b0:0<=b:=by have:=tm.1;lk
 have b9:=PySem.sizeLine_eq;have a4:=hp.1;have B:okN^Ag N t b f N I:=Cu A;have em:(Ag N t b f N I).ps=N.ps:=G7;have km:keepsP N t b f^Ag N t b f N I:=Ee^LV A.1 bt;have nd:∀u∈(Ag N t b f N I).ts,BQ N t b f^BS (Ag N t b f N I) u=u_:=λu hu=>Fz b0 A u (a3 u^CW u hu) hu;have ml:(Ag N t b f N I).ts.length<=N.ts.length:=sub_len (CD B.1.trise) (CD A.1.trise) CW;revert B em km nd ml;generalize Ag N t b f N I=M;intro B em km nd ml;have c0:=B.2.2;have c1:=A.2.1;unfold Ds
 have go:∀(a:EZ) (Q:E2) (g:v_ D) (C E O:Slot),g.length+a.length<=30->(∀q∈a,q∈f)->(∀(J:v_ D) (C E O:Slot),J.length=a.length->(∀d∈J,HQ N.ps.length d)->Q.nx n [.sh^enc N,.sh^CL t b,.sh^BJ f,.sh^enc M,.ow^.lst (g++J),C,E,O,.no,.no,.no,.no])->
   A7 (Bz 2^Aa (AT 5)^Aa (AT 6) BM) ZP Q (a.map pairD) n [.sh^enc N,.sh^CL t b,.sh^BJ f,.sh^enc M,.ow^.lst g,C,E,O,.no,.no,.no,.no]:=by
  intro a
  induction a with
  |nil=>intro Q g C E O _ _ h;have:=h [] C E O rfl (λ_ h=>by cases h);rw[jZ]at this;exact this
  | cons q a ih=>
   intro Q g C E O hl hq h;rw[jC]at hl;have V:=hq q Rs;have H:=hp.2 q V
   have on:∀(d:D) (O:Slot),HQ N.ps.length d->A7 (Bz 2^Aa (AT 5)^Aa (AT 6) BM) ZP Q (a.map pairD) n [.sh^enc N,.sh^CL t b,.sh^BJ f,.sh^enc M,.ow^.lst (g++[d]),.sh^.str q.1,.sh^.str q.2,O,.no,.no,.no,.no]:=λd O S=>
    ih Q (g++[d]) _ _ _ (by rw[jD,jV];lk) (λr hr=>hq r^Sc _ hr) λJ C E O a0 a1=>by
     rw[j6];exact h (d::J) C E O (by rw[jC,a0,jC]) λx P=>(UF.mp P).elim (λe=>by rw[e];exact S)^a1 x
   unfold ZP;refine#[rfl,rfl,_,AJ (j:=1) rfl,N,q.1,_,N.ts,rfl,rfl,λ_=>pP,A,H.1,λks J K Mp T=>#[ks,J,_,rfl,A2 q.2,?_]];show if(BY ks J^.inr q.2).isSome=t_ then _ else _
   rw[Mp.at_];cases ek:K q.2 with
   |none=>
    let#[xs,ex]:=Ie Mp.dom;have hm:∀x,x∈xs↔K x≠s_:=λx=>by rw[←Mp.mem x,ex,TM];exact#[λh=>#[x,h,rfl],fun#[y,hy,e]=>by cases e;exact hy]
    have Z:∀x∈xs,x∈N.ps:=λx P=>T.ins x^(hm x).mp P;have c2:xs.length<=25:=by have:=Mp.le T.ins;rw[ex,No]at this;lk
    refine Bl #[_,rfl,rfl,_,ks,J,xs,rfl,rfl,Mp.len,ex,by lk,λx P=>by have:=(A.1.names x^Z x P).2.1;lk,λys py sy=>#[z2,_,_,rfl,rfl,by lk,?_]];exact on _ _^XB A.1 (λx P=>Z x^py.mem_iff.mp P)^by rw[py.length_eq];lk
   | some dk=>
    let#[d',a9,_]:=km q V dk^T.least q.2 dk ek;refine Bv #[_,rfl,rfl,_,AJ (j:=1) rfl,M,q.1,q.2,_,M.ts,rfl,rfl,λ_=>pP,B,by rw[em];exact H.1,by rw[em];exact H.2,λo ho=>?_];cases o with
    |none=>exact absurd a9.1^ho d'
    |some w=>
     let#[l,hw,_]:=Eb ho;refine#[_,AJ (j:=1) rfl,#[by cbv,by cbv,by cbv],N,N.ps,q.1,_,_,_,N.ts,rfl,rfl,λ_=>pP,A,rfl,H.1,by cbv,by cbv,λli ll lb=>#[z3,_,_,rfl,rfl,by lk,?_]];exact on _ _^OD A.1 (.inl rfl) (λx P=>by have:=hw.2.2.2.2 x P;rw[em]at this;exact this) hw.2.2.2.1 (λi hi=>#[(lb i hi).1,Int.le_trans (lb i hi).2 (by cbv)]) ll
 exists z0;refine go f _ [] _ _ _ (by simpa using a4) (λq h=>h) λsh C E O b1 b2=>?_;rw[jQ];refine#[z0,_,AJ (j:=1) rfl,_,M.ts,rfl,rfl,by lk,λo2 p2 r2=>?_]
 have b3:∀(a:v_ BP) (Q:E2) (g:v_ D) (C E W F G:Slot),g.length+a.length<=60->(∀u∈a,u∈M.ts)->(∀(J:v_ D) (C E W F G:Slot),J.length=a.length->(∀d∈J,HQ N.ps.length d)->Q.nx n [.sh^enc N,.sh^CL t b,.sh^BJ f,.sh^enc M,.ow^.lst sh,C,E,O,.ow^.lst (g++J),W,F,G])->
   A7 (AT 9) bx Q (a.map Aj) n [.sh^enc N,.sh^CL t b,.sh^BJ f,.sh^enc M,.ow^.lst sh,C,E,O,.ow^.lst g,W,F,G]:=by
  intro a
  induction a with
  |nil=>intro Q g C E W F G _ _ h;have:=h [] C E W F G rfl (λ_ h=>by cases h);rw[jZ]at this;exact this
  | cons u a ih=>
   intro Q g C E W F G hl hu h;rw[jC]at hl;have a5:=hu u Rs;unfold bx;refine#[_,AJ (j:=1) rfl,by show(M.ts.map Aj).length<=10000000;rw[No];lk,?_];refine CM (λd=>!DQ d (Aj u)) id (λρ=>∃s,ρ=[.sh^Aj u,s]) _ _ _ _ ?_ #[_,rfl] ?_
   .rintro d S ρ m nx sk ⟨s,rfl⟩ h1 h2
    let#[v,hv,rfl]:=TM.mp S;exists D8 B.1 hv,D8 B.1 a5;exact DJ (λc=>h1 _ #[_,rfl] c) λc=>h2 _ #[_,rfl]^ji.mpr c
   rw[jQ,nL,Lj B];have a2:=nd u a5;have X:=B3 B u;have Y:(BS M u).ps=N.ps:=em;revert a2 X Y;generalize BS M u=R;intro a2 X Y;have b8:((f.map pairD).length:Int)=(f.length:Int):=by rw[No]
   refine#[_,_,rfl,rfl,_,rfl,#[by lk,by lk],by rw[FH];lk,?_];refine CM (λd=>match d with|.int i=>!BQ N t b (Dp.cutD f (P3 i)^P3 (i+1)) R|_=>u_) id (λρ=>∃s,ρ=[.sh^enc N,.sh^CL t b,.sh^.lst^R.ts.map Aj,.sh^BJ f,s]) _ _ _ _ ?_ #[_,rfl] ?_
   .rintro d S ρ m nx sk ⟨s,rfl⟩ h1 h2
    let#[k,hk,rfl]:=Ku S;exists N,R,t,b,Dp.cutD f (P3 (0+(k:Int)))^P3 (0+(k:Int)+1),_,by rw[←UD],rfl,A,X,Y,tm,#[jJ (F5 f _ _).length_le a4,λq hq=>hp.2 q^(F5 f _ _).subset hq];exact DJ (λc=>h1 _ #[_,rfl] c) λc=>h2 _ #[_,rfl]^ji.mpr c
   rw[jQ,nL];let#[k0,q0,a6,V]:=QN a2;generalize hL:(GB 0 ((f.map pairD).length:Int).toNat).filter (λd=>match d with|.int i=>!BQ N t b (Dp.cutD f (P3 i)^P3 (i+1)) R|_=>u_)=L
   have a7:∀d∈L,∃(k:Nat) (q:Str×Str),d=.int (k:Int)/\f[k]?=P3 q/\BQ N t b [q] R=u_:=λd S=>by
    rw[←hL]at S;let#[h1,h2]:=k_.mp S;let#[k,hk,rfl]:=Ku h1;have b4:k<f.length:=by rw[No]at hk;lk
    have e:=On b4;exists k,_,by rw[Int.zero_add],e;have h2:(!BQ N t b (Dp.cutD f (P3 (0+(k:Int)))^P3 (0+(k:Int)+1)) R)=t_:=h2;rw[Int.zero_add,Qe e]at h2;exact(Bool.not_eq_true' _).mp h2
   have b5:L≠[]:=λz=>by
    have:D.int (0+(k0:Int))∈L:=by
     rw[←hL];refine k_.mpr #[?_,?_]
     .unfold GB
      refine TM.mpr #[k0,lP.mpr ?_,rfl]
      have:=(ZB.mp a6).1
      rw[No];lk
     .show(!BQ N t b (Dp.cutD f (P3 (0+(k0:Int)))^P3 (0+(k0:Int)+1)) R)=t_
      rw[Int.zero_add,Qe a6,V];rfl
    rw[z]at this;cases this
   obtain⟨L0,dl,rfl⟩:∃L0 dl,L=L0++[dl]:=#[_,_,(List.dropLast_concat_getLast b5).symm];let#[k,q,rfl,hk,a8]:=a7 dl (by simp);have H:=hp.2 q^jo hk;have U:=Qt L0^D.int (k:Int);exists 1,rfl,_,U,_,AJ (v:=pairD q) (by rw[jG,hk];rfl),rfl,rfl;refine#[_,rfl,rfl,1,rfl,_,U,_,AJ (j:=1) rfl,N,q.1,q.2,_,N.ts,rfl,rfl,λ_=>pP,A,H.1,H.2,λo ho=>?_];cases o with
   | none=>
    have:keepsP N t b [q] R:=λx P d S=>by
     rw[Tk.mp P]at S;exact absurd S.1^ho d
    rw[keepsB_iff.mpr this]at a8;cases a8
   |some w=>
    let#[l,hw,_]:=Eb ho;have jl:k<f.length:=(ZB.mp hk).1;refine#[#[by cbv,by cbv,by cbv],R,N.ps,q.1,_,_,_,R.ts,rfl,rfl,λ_=>pP,X,Y,H.1,by cbv,by cbv,λli ll lb=>#[z3,_,_,rfl,rfl,by lk,?_]];refine ih Q (g++[_]) _ _ _ _ _ (by rw[jD,jV];lk) (λr hr=>hu r^Sc _ hr) λJ C E W F G a0 a1=>?_;rw[j6];refine h (_::J) C E W F G (by rw[jC,a0,jC]) λx P=>(UF.mp P).elim (λe=>?_)^a1 x;rw[e];exact OD A.1 (.inr #[k,rfl,by lk]) hw.2.2.2.2 hw.2.2.2.1 (λi hi=>#[(lb i hi).1,Int.le_trans (lb i hi).2 (by cbv)]) ll
 refine b3 o2 _ [] _ _ _ _ _ (by rw[kW,p2.length_eq];lk) (λu hu=>p2.mem_iff.mp hu) λns C E W F G b6 b7=>?_;rw[jQ];exact#[z2,p _ #[sh,ns,rfl,b1,by rw[b6,p2.length_eq];exact ml,b2,b7]]
end
def C8{N:Net}(a:okN N){t b:Int}{ps:EZ}{ord:v_ BP}:DY N^Ag N t b ps N ord:=#[G7,λu c=>CW u c,(Cu a).1.trise]
section
variable {ss:v_ Slot}{n:Nat}{Pd:D->Nat->Prop}
def Rb(h:L4 ss n Pd):Fk (EE Pd) n (ss++T0 5 .no):=by
 let#[N,t,b,ps,rfl,f,a3,tm,U,hn,p]:=h;have b0:=PySem.sizeLine_eq;have a4:=f.2.2;unfold Fk;exists z0,_,AJ (j:=1) rfl
 have go:∀(g:v_ BP) (V:E2) (m:Nat) (a:v_ BP) (w:Slot),g.length<=m->a.length+g.length<=10->(∀u∈g,u∈N.ts)->(∀u∈a,u∈N.ts)->(∀(o:v_ BP) (w:Slot),(∀u∈o,u∈N.ts)->(∀u∈a,u∈o)->(∀u∈g,u∈o)->o.length<=10->V.nx (m - g.length) [.fd,.sh^enc N,.sh^CL t b,.sh^BJ ps,.ow^.lst^o.map Aj,w,.no,.no,.no])->
   A7 (AT 5) (IL 4 "list" Xt^AF (AR Bn^AB (A_ 0)^AB (AE^AX A5 (CI EB^AF (As 4) AV)^wC^D.int 1) AQ)^AF (AC 5) AV) V (g.map Aj) m [.fd,.sh^enc N,.sh^CL t b,.sh^BJ ps,.ow^.lst^a.map Aj,w,.no,.no,.no]:=by
  intro g
  induction g with
  |nil=>intro V m a w _ hl _ W h;exact h a w W (λu l=>l) (λu l=>by cases l)^by simpa using hl
  | cons u g ih=>
   intro V m a w hm hl l W h;rw[jC]at hm hl h;have el:(a.map Aj).length=a.length:=No ..;refine#[_,rfl,rfl,_,_,rfl,rfl,_,rfl,by lk,by lk,by lk,λr r0 r1=>?_];obtain⟨k,rfl⟩:∃k:Nat,r=(k:Int):=#[r.toNat,by lk];exists _,_,_,rfl,rfl,r0,by lk,by lk,by lk
   have e:(a.map Aj).take (k:Int).toNat++Aj u::(a.map Aj).drop (k:Int).toNat=(a.take k++u::a.drop k).map Aj:=by
    rw[jz,ju,List.map_take,List.map_drop];rfl
   rw[e]
   have I:∀v,v∈a.take k++u::a.drop k↔v=u\/v∈a:=λv=>by
    conv=>rhs;rw[←lQ k a]
    simp only[jK,UF]
    grind
   have a9:(a.take k++u::a.drop k).length=a.length+1:=by
    rw[jD,jC,mR,pU];lk
   refine ih V (m - 1) _ _ (by lk) (by lk) (λv B=>l v^Sc _ B) (λv B=>((I v).mp B).elim (λe=>e▸l u Rs)^W v) λo w J K h3 h4=>?_
   have:=h o w J (λv B=>K v^(I v).mpr^.inr B) (λv B=>(UF.mp B).elim (λe=>K v^(I v).mpr^.inl e)^h3 v) h4
   rw[show m - (g.length+1)=m - 1 - g.length by lk]at this;exact this
 refine go N.ts _ n [] _ (by lk) (by simpa using a3) (λu h=>h) (λu h=>by cases h) λa w L _ F dl=>?_;refine#[N,t,b,ps,a,rfl,f,tm,U,L,_,AJ (j:=1) rfl,_,N.ts,rfl,rfl,by lk,λC p2 r2=>#[1,rfl,rfl,?_]];exists N,t,b,ps,C.reverse,by rw[oG],f,tm,U,λu l=>p2.mem_iff.mp^lO.mp l,z2;have O:∀u∈N.ts,u∈C.reverse:=λu l=>lO.mpr^p2.mem_iff.mpr l;generalize C.reverse=C at O ⊢;have A:=C8 f (t:=t) (b:=b) (ps:=ps) (ord:=a);refine#[_,rfl,rfl,rfl,by lk,λX Y J K h3=>#[1,rfl,rfl,?_]];refine#[N,X,Y,ps,a.reverse,by rw[oG],f,#[J,by lk,by lk,h3],U,λu l=>L u^lO.mp l,_,_,rfl,rfl,by show 2<sizeLine;lk,?_];refine#[_,rfl,rfl,N,t,b,Dp.cutD ps (P3 1) s_,a,by rw[←UD],f,tm,#[jJ (F5 ps _ _).length_le U.1,λq hq=>U.2 q^(F5 ps _ _).subset hq],L,_,_,rfl,rfl,by show 3<sizeLine;lk,?_];refine#[_,rfl,rfl,_,AJ (j:=0) rfl,_,AJ (j:=1) rfl,N.ts,rfl,by lk,a4,λZ m a0 hm=>#[z2,_,_,rfl,rfl,by show 4<sizeLine;lk,?_]];have b1:n - 50<=m:=by lk
 have a5:=C8 f (t:=X) (b:=Y) (ps:=ps) (ord:=a.reverse);have a6:=C8 f (t:=t) (b:=b) (ps:=Dp.cutD ps (P3 1) s_) (ord:=a);have p:=p a C;have P:∀ts,thn N ts->DY N #[N.ps,ts]:=λts h=>#[rfl,h];have a7:DY N #[N.ps,Z]:=P Z #[λu l=>a0.subset l,f.1.trise.sublist a0]
 have a1:∀(Q:v_ Net) (m:Nat) (w s7 s8:Slot),Q.length<=5 - 1->(∀M∈Q,DY N M)->n - 98<=m->TB (EE Pd) m [.fd,.sh^enc N,.sh^CL t b,.sh^BJ ps,.ow^.lst^a.map Aj,w,.ow^.lst^(Ag N t b ps N a::Ag N t b ps N C::Q).map enc,s7,s8]:=λQ m w s7 s8 hl a2 hm=>by
  unfold TB;have el:((Ag N t b ps N a::Ag N t b ps N C::Q).map enc).length<sizeLine:=by rw[No,jC,jC];lk
  exists _,AJ (j:=0) rfl,_,AJ (j:=1) rfl,z0,(EQ f.1 A.2.1).1,(EQ f.1 (ts:=[]) λ_ h=>by cases h).1;cases ec:(Ag N t b ps N a).ts with
  |nil=>exact Bl #[_,rfl,p Q m F O (by lk) a2^by lk]
  | cons u0 b2=>
   rw[←ec];have tl:((Ag N t b ps N a).ts.map Aj).length=(Ag N t b ps N a).ts.length:=No ..;have b3:=(Cu f (N:=N) (t:=t) (b:=b) (ps:=ps) (ord:=a)).2.2;have t1:1<=(Ag N t b ps N a).ts.length:=by rw[ec,jC];lk
   have ne:(!DQ (.tup^(Ag N t b ps N a).ts.map Aj) (.tup []))=t_:=by rw[ec];rfl
   show if(!DQ (.tup^(Ag N t b ps N a).ts.map Aj) (.tup []))=t_ then _ else _
   rw[ne];refine Bv #[_,AJ (j:=0) rfl,_,AJ (j:=1) rfl,_,_,rfl,rfl,_,rfl,by lk,by lk,by lk,λr r0 r1=>?_];obtain⟨k,rfl⟩:∃k:Nat,r=(k:Int):=#[r.toNat,by lk];exists _,rfl,rfl,_,AJ (j:=0) rfl,_,AJ (j:=0) rfl,_,AJ (j:=1) rfl,_,AJ (j:=0) rfl,_,AJ (j:=1) rfl;have kl:k<(Ag N t b ps N a).ts.length:=by lk
   have S:Dp.cutD ((Ag N t b ps N a).ts.map Aj) s_^P3 (k:Int)=((Ag N t b ps N a).ts.take k).map Aj:=by
    rw[SX,tl,lX^by lk,List.map_take]
   have e2:Dp.cutD ((Ag N t b ps N a).ts.map Aj) (P3 ((k:Int)+1)) s_=((Ag N t b ps N a).ts.drop (k+1)).map Aj:=by
    rw[show(k:Int)+1=((k+1:Nat):Int) by lk,Qd,tl,lX^by lk,List.map_drop]
   have sb:((Ag N t b ps N a).ts.take k++(Ag N t b ps N a).ts.drop (k+1)).Sublist (Ag N t b ps N a).ts:=by
    conv=>rhs;rw[←lQ k (Ag N t b ps N a).ts]
    exact(pM _).append^by rw[←List.drop_drop];exact List.drop_sublist _ _
   exists by rw[S,e2,No,No,mR,pU];lk,z2,_,_,rfl,rfl,el;rw[S,e2,←jz]
   have:=p (Q++[#[N.ps,(Ag N t b ps N a).ts.take k++(Ag N t b ps N a).ts.drop (k+1)]]) (m - 1) F O (by rw[jD,jV];lk) (λM T=>(jK.mp T).elim (a2 M) λh=>by rw[Tk.mp h];exact P _ #[λu l=>A.2.1 u^sb.subset l,A.2.2.sublist sb])^by lk
   rw[←oF,←oF,jz]at this;exact#[_,rfl,this]
 unfold Z2;refine#[_,AJ (j:=1) rfl,by show(N.ts.map Aj).length<=10000000;rw[No];lk,?_];refine CM (λd=>!(((Ag N t b ps N a).ts.map Aj).any λy=>DQ y d)) id (λρ=>∃s,ρ=[.br^.lst^(Ag N t b ps N a::Ag N t b ps N C::[Ag N X Y ps N a.reverse,Ag N t b (Dp.cutD ps (P3 1) s_) N a,#[N.ps,Z]]).map enc,s]) _ _ _ _ ?_ #[_,rfl] ?_
 .rintro d W ρ m nx sk ⟨s,rfl⟩ J K
  let#[v,B,rfl]:=TM.mp W;exists _,AJ (j:=0) rfl,_,AJ (j:=1) rfl,D8 f.1 B,(EQ f.1 A.2.1).1,_,rfl;exact DJ (λc=>J _ #[_,rfl] c) λc=>K _ #[_,rfl]^ji.mpr c
 rw[jQ,nL,Xa]
 have i:∀u∈Tr N (Ag N t b ps N a).ts,u∈N.ts/\u∉(Ag N t b ps N a).ts:=λu l=>by
  let#[J,K]:=k_.mp l;exact#[J,of_decide_eq_true K]
 have lm:(Tr N (Ag N t b ps N a).ts).length<=N.ts.length:=mE _ _;have tl:(Ag N t b ps N a).ts.length<=60:=(Cu f (N:=N) (t:=t) (b:=b) (ps:=ps) (ord:=a)).2.2
 have G:∀M∈[Ag N X Y ps N a.reverse,Ag N t b (Dp.cutD ps (P3 1) s_) N a,#[N.ps,Z]],DY N M:=λM T=>by
  simp only[UF,jO,or_false]at T
  rcases T with rfl|rfl|rfl
  .exact a5
  .exact a6
  .exact a7
 exists z0,(EQ f.1 λu l=>(i u l).1).2,(EQ f.1 (ts:=[]) λ_ h=>by cases h).2;revert lm i;generalize Tr N (Ag N t b ps N a).ts=mo;intro i lm;cases mo with
 |nil=>exact Bl^a1 [_,_,_] m _ _ _ (by show 3<=4;decide) G^by lk
 |cons u0 E=>
  have ne:(!DQ (.lst^(u0::E).map Aj) (.lst []))=t_:=rfl;show if(!DQ (.lst^(u0::E).map Aj) (.lst []))=t_ then _ else _
  rw[ne];revert i lm;have l1:1<=(u0::E).length:=by rw[jC];lk
  revert l1;generalize u0::E=mo;intro l1 i lm;have ml:(mo.map Aj).length=mo.length:=No ..;refine Bv #[_,rfl,rfl,_,AJ (j:=0) rfl,_,AJ (j:=0) rfl,_,AJ (j:=1) rfl,_,_,rfl,rfl,_,rfl,by lk,by lk,by lk,λr r0 r1=>?_];obtain⟨k,rfl⟩:∃k:Nat,r=(k:Int):=#[r.toNat,by lk];have S:mo[k]?=P3 mo[k]:=On (by lk);have l:=i mo[k] (jm _);revert S l;generalize mo[k]=u;intro S l;refine#[_,AJ (v:=Aj u) (by rw[jG,S];rfl),z1,by rw[No];show _+1<=_;lk,?_];have ee:Eg^.tup ((Ag N t b ps N a).ts.map Aj++[Aj u])=P3^((Ag N t b ps N a).ts++[u]).map Aj:=by rw[jz];rfl
  have nd:((Ag N t b ps N a).ts++[u]).Nodup:=lL.mpr #[CD A.2.2,by simp,λx hx y hy=>by rw[Tk.mp hy];exact λz=>l.2 (z▸hx)];have H:∀x∈(Ag N t b ps N a).ts++[u],x∈N.ts:=λx hx=>(jK.mp hx).elim (A.2.1 x) λh=>by rw[Tk.mp h];exact l.1
  show CK [.tup ((Ag N t b ps N a).ts.map Aj++[Aj u])] λz=>BI [z] λy=>2<=sizeLine/\EC (.lst^([Ag N t b ps N a,Ag N t b ps N C,Ag N X Y ps N a.reverse,Ag N t b (Dp.cutD ps (P3 1) s_) N a,#[N.ps,Z]]:v_ Net).map enc) [.tup [.tup^N.ps.map .str,y]] λe _=>TB (EE Pd) (m - 1) [.fd,.sh^enc N,.sh^CL t b,.sh^BJ ps,.ow^.lst^a.map Aj,w,.ow e,.sh^.lst^mo.map Aj,.no];refine Gj ee (by rw[jD,jV];lk) λR p1 p2=>#[z2,_,_,rfl,rfl,by show 5<sizeLine;lk,?_];have eo:=bD f.1 H nd p1 p2;have a8:DY N #[N.ps,R]:=P _ #[λx hx=>H x^p1.mem_iff.mp hx,by rw[show R=N.ts.filter _ from congrArg Net.ts eo];exact f.1.trise.sublist List.filter_sublist];exact a1 [_,_,_,#[N.ps,R]] (m - 1) _ _ _ (by show 4<=4;decide) (λM T=>(jK.mp (show M∈[_,_,_]++[_]from T)).elim (G M) λh=>by rw[Tk.mp h];exact a8)^by lk
end
def ML(k:Nat)(d:D):Prop:=∃a b:v_ D,d=.tup [.tup a,.tup b]/\a.length<=6/\b.length<=20/\(∀x∈a,HQ k x)/\∀y∈b,HQ k y
def NF{k:Nat}(e:k<=6){a:v_ D}(h:∀x∈a,HQ k x):YS^.tup a/\fine (10 ^ 34)^.tup a/\DC^.tup a<=1687*a.length/\Gz^.tup a<=3:=by
 exists .t _ λx b=>(h x b).1,Dh λx b=>(h x b).2.1,?_
 .exact IP λd c=>by have:=(h d c).2.2.1;lk
 .have:IG a<=2:=dps_le.mpr λd c=>(h d c).2.2.2
  show IG a+1<=3;lk
def HR{k:Nat}(b:k<=6){d:D}(h:ML k d):YS d/\fine (10 ^ 34) d/\DC d<=50000/\Gz d<=4:=by
 let#[c,e,rfl,a,n,f,g]:=h;let#[i,j,o,p]:=NF b f;let#[l,m,q,r]:=NF b g;exists .t _ λx a=>?_,#[j,m,trivial],?_
 .simp only[UF,jO,or_false]at a
  rcases a with rfl|rfl
  .exact i
  .exact l
 .show DC^.tup c+1+(DC^.tup e+1+0)<=50000
  omega
 .show max (Gz^.tup c)^max (Gz^.tup e) 0+1<=4
  omega
def Cv{k:Nat}(a:k<=6){d:D}(h:ML k d):Dv d:=by
 let#[_,b,c,e]:=HR a h;exact#[(F2 (by cbv) _).1 _ (Op _) b,by lk,by lk]
def Fd{k:Nat}(a:k<=6){d e:D}(h:ML k d)(f:fine (10 ^ 35) e)(s:DC e<=2*DC d+500)(p:Gz e<=Gz d+3):Dv e:=by
 let#[_,b,c,g]:=HR a h;exact#[(F2 (by cbv) _).1 _ (Op _) f,by lk,by lk]
section
variable {ss:v_ Slot}{n:Nat}{Pd:D->Nat->Prop}
def Uk(h:PM ss n Pd):Ez (EE Pd) n (ss++T0 4 .no):=by
 let#[N,t,b,c,q,r,G,rfl,g,U,i,X,J,K,L,p6,M,O,hn,p]:=h;have Y:=PySem.sizeLine_eq;unfold Ez;refine#[N,t,b,c,rfl,g,J,K,L,λd0 Z=>?_];let#[v,w,rfl,a0,a1,A,B]:=Z;exists _,AJ (j:=0) rfl,_,AJ (j:=1) rfl,1,rfl,rfl,z2,z2
 have ec:Dp.cutD ((Ag N t b c N q::Ag N t b c N r::G).map enc) s_^P3 (2:Int)=[enc^Ag N t b c N q,enc^Ag N t b c N r]:=by
  rw[show(2:Int)=((2:Nat):Int)from rfl,SX,lX^by rw[No,jC,jC];lk];rfl
 have step:∀(f:Ac) (H:E2) (m:Nat) (C:v_ Slot),C[4]?=P3^.sh^.lst^(Ag N t b c N q::Ag N t b c N r::G).map enc->A7 (AT 7) f H [enc^Ag N t b c N q,enc^Ag N t b c N r] m C->Cs (A0^IF Co (AC 4) BG^Bk^wC^D.int 2) (AT 7) f H m C:=λf H m C e h=>by
  unfold Cs A0 IF AC;rw[e];show A7 (AT 7) f H (Dp.cutD ((Ag N t b c N q::Ag N t b c N r::G).map enc) s_^P3 (2:Int)) m C;rw[ec];exact h
 suffices k:A7 (AT 7) (IL 6 "list" EC^AF (AR KG^AB (AE^AC 1)^AB (AE^AC 2)^AB (AE^AC 3)^AB (AE^AC 7) AQ) AV) {EE Pd with nx:=Y0^EE Pd} [enc^Ag N t b c N q,enc^Ag N t b c N r] n [.fd,.sh^enc N,.sh^CL t b,.sh^BJ c,.sh^.lst^(Ag N t b c N q::Ag N t b c N r::G).map enc,.sh^.tup [.tup v,.tup w],.ow^.lst [.tup [.tup v,.tup w],.tup [.tup v,.tup w.reverse]],.no,.no]from step _ _ _ _ rfl k
 refine#[_,rfl,rfl,N,t,b,c,q,rfl,g,J,K,L,M,λd2 h2=>#[_,_,rfl,rfl,by show 2<sizeLine;lk,?_]];refine#[_,rfl,rfl,N,t,b,c,r,rfl,g,J,K,L,O,λd3 h3=>#[_,_,rfl,rfl,by show 3<sizeLine;lk,?_]];show Y0 (EE Pd) n _;unfold Y0;let#[I,u,rfl,a2,a3,l,o]:=h2;let#[x3,V,rfl,a4,a5,P,E]:=h3;refine#[_,rfl,rfl,_,AJ (j:=2) rfl,_,AJ (j:=0) rfl,_,AJ (j:=3) rfl,_,AJ (j:=1) rfl,z2,_,_,rfl,rfl,by show 4<sizeLine;lk,?_];refine#[_,rfl,rfl,_,AJ (j:=2) rfl,_,AJ (j:=0) rfl,_,AJ (j:=2) rfl,_,AJ (j:=1) rfl,1,rfl,z2,_,_,rfl,rfl,by show 5<sizeLine;lk,?_];exists _,rfl,rfl,_,AJ (j:=2) rfl,_,AJ (j:=0) rfl,_,AJ (j:=2) rfl,_,AJ (j:=1) rfl,_,AJ (j:=2) rfl,_,AJ (j:=1) rfl;have c1:=(F5 u s_^P3 (1:Int)).length_le;have c2:=(F5 u s_^P3 (-1:Int)).length_le;refine#[by lk,z2,_,_,rfl,rfl,by show 6<sizeLine;lk,?_];have Q:ML N.ps.length^.tup [.tup v,.tup w]:=#[_,_,rfl,by lk,by lk,A,B];have R:ML N.ps.length^.tup [.tup v,.tup w.reverse]:=#[_,_,rfl,by lk,by rw[kG];lk,A,λy s=>B y^lO.mp s];have S:ML N.ps.length^.tup [.tup I,.tup u]:=#[_,_,rfl,by lk,by lk,l,o];have b3:ML N.ps.length^.tup [.tup x3,.tup V]:=#[_,_,rfl,by lk,by lk,P,E];have b4:ML N.ps.length^.tup [.tup I,.tup V]:=#[_,_,rfl,by lk,by lk,l,E];have b5:ML N.ps.length^.tup [.tup I,.tup^Dp.cutD u s_^P3 (-1:Int)]:=#[_,_,rfl,by lk,by lk,l,λy s=>o y^Ci s];have b6:ML N.ps.length^.tup [.tup I,.tup (u++Dp.cutD u s_^P3 (1:Int))]:=#[_,_,rfl,by lk,by rw[jD];lk,l,λy s=>(jK.mp s).elim (o y) λs=>o y^Ci s];have T:N.ps≠[]:=λz=>by rw[z]at U;simp at U
 exists _,rfl,#[by cbv,by cbv];show A7 _ _ _ [D.int ((0:Nat):Int),D.int ((1:Nat):Int),D.int ((2:Nat):Int)] _ _;let#[t0,f0,s0,_]:=HR i Q;let#[t1,f1,s1,_]:=HR i R;let#[t2,f2,s2,_]:=HR i S;refine#[_,rfl,rfl,_,AJ (j:=0) rfl,_,AJ (j:=0) rfl,_,N.ps,4,rfl,Op _,t0,f0,T,by lk,λx F=>g.1.names x F,s0,by lk,λe0 m0 q1 q2 q3 q4=>#[_,_,rfl,rfl,by show 7<sizeLine;lk,?_]];refine#[_,rfl,rfl,_,AJ (j:=1) rfl,_,AJ (j:=0) rfl,_,N.ps,4,rfl,Op _,t1,f1,T,by lk,λx F=>g.1.names x F,s1,by lk,λe1 m1 u1 u2 u3 u4=>#[_,_,rfl,rfl,by show 8<sizeLine;lk,?_]];refine#[_,rfl,rfl,_,AJ (j:=2) rfl,_,AJ (j:=0) rfl,_,N.ps,4,rfl,Op _,t2,f2,T,by lk,λx F=>g.1.names x F,s2,by lk,λe2 m2 v1 v2 v3 v4=>#[_,_,rfl,rfl,by show 9<sizeLine;lk,?_]];refine#[_,rfl,p _ _ (by show 10<=20;decide) (λd W=>?_)^by lk];simp only[oF,jQ,UF,jO,or_false]at W
 rcases W with rfl|rfl|rfl|rfl|rfl|rfl|rfl|rfl|rfl|rfl
 .exact Cv i Q
 .exact Cv i R
 .exact Cv i S
 .exact Cv i b3
 .exact Cv i b4
 .exact Cv i b5
 .exact Cv i b6
 .exact Fd i Q q1 q2 q3
 .exact Fd i R u1 u2 u3
 .exact Fd i S v1 v2 v3
def Rj:Nd {nx:=λ_ _=>False,rt:=λd _=>d=.bl t_} 3000 (.no::.fd::T0 7 .no):=by
 unfold Nd;refine#[6,10,rfl,by cbv,by cbv,by cbv,by cbv,by cbv,λN n0 ok l2 T q U=>?_];have f:okN N:=#[ok,by lk,by lk];refine#[rfl,by lk,λt b V W X=>?_];have s:GA t b:=#[V,by lk,by lk,X];refine#[_,AJ (j:=0) rfl,N.ps,6,rfl,ok.rise,by lk,by cbv,by lk,λg n1 z A Y=>?_];have u:Gp N g:=#[by lk,z];refine#[N,t,b,g,rfl,f,q,s,u,by lk,λC E F n2 G H lM Z a0=>?_];refine#[N,t,b,g,C,E,F,rfl,f,by lk,T,q,s,W,u,A,G,H,by lk,λds v hl x a1=>?_]
 have o:∀M∈Ag N t b g N C::Ag N t b g N E::F,DY N M:=λM h=>by
  rcases UF.mp h with rfl|h
  .exact C8 f
  rcases UF.mp h with rfl|h
  .exact C8 f
  .exact Z M h
 revert o;generalize Ag N t b g N C::Ag N t b g N E::F=L;intro o;have m:Cd^.str "other":=Cb (B:=10 ^ 40) (by cbv) (by show ∀c∈cs "other",c<1114112;decide +kernel)^by cbv
 have I:∀(a:v_ Net) (p:E2) (d:D) (i l:Slot),Dv d->(∀M∈a,DY N M)->(∀i l,p.nx v [.no,.fd,.sh^enc N,.sh^CL t b,.sh^BJ g,.sh^.lst^L.map enc,.sh d,i,l])->
   A7 (AT 7) XY p (a.map enc) v [.no,.fd,.sh^enc N,.sh^CL t b,.sh^BJ g,.sh^.lst^L.map enc,.sh d,i,l]:=by
  intro a
  induction a with
  |nil=>intro p d i l _ _ h;exact h _ _
  | cons M a J=>
   intro p d i l fd R h;have y:=R M Rs;unfold XY;refine#[N,M,t,b,g,d,rfl,f,by lk,y,s,u,fd,λr hr=>?_];have S:A7 (AT 7) XY p (a.map enc) v [.no,.fd,.sh^enc N,.sh^CL t b,.sh^BJ g,.sh^.lst^L.map enc,.sh d,.sh^enc M,.sh r]:=J p d _ _ fd (λM h=>R M^Sc _ h) h
   rcases hr with⟨rfl,K⟩|⟨w,k,rfl,hf⟩
   .refine#[Cb (B:=10 ^ 40) (by cbv) trivial (by cbv),m,Bl ?_]
    have O:okN M:=by
     have:=y.2.okN f
     have e:M=#[N.ps,M.ts]:=by rw[←y.1]
     rw[e];exact this
    exact#[rfl,N,M,t,b,g,rfl,f,O,y.1,s,u,K,S]
   .exact#[De hf,m,Bl #[rfl,S]]
 have P:∀(a:v_ D) (Q i l:Slot),(∀d∈a,Dv d)->A7 (AT 6) (Cs (A0^AC 5) (AT 7) XY) {({nx:=λ_ _=>False,rt:=λd _=>d=.bl t_}:E2)with nx:=Aq (wC^D.bl t_) {nx:=λ_ _=>False,rt:=λd _=>d=.bl t_}} a v [.no,.fd,.sh^enc N,.sh^CL t b,.sh^BJ g,.sh^.lst^L.map enc,Q,i,l]:=by
  intro a
  induction a with
  |nil=>intro Q i l _;exact rfl
  |cons d a J=>
   intro Q i l x;exact I L _ d _ _ (x d Rs) o λi l=>J _ _ _ λd h=>x d^Sc _ h
 exact P ds _ _ _ x
end
end Nt
namespace L2
def ZE{X:Cx}{k:Nat}(i:RoomH k X.A):OpR X (compareOp .In)^Yz u_:=by
 intro o s Z H x y v u Q I j c h;let#[d,l,m,a,e,f,p,q]:=h;let#[r,g]:=RV.reads I m j;have t:=i.un;have w:min (kj l) _<=d.depth:=nC _ _
 rcases a with a|a
 .let#[n,b]:=RV.reads I a c
  exact PySem.SeqAt.in_list_reads b g f e (by lk) #[.bl _,H,I,rfl,q]
 .let#[n,b]:=RV.reads I a c
  exact PySem.SeqAt.in_tuple_reads b g f e (by lk) #[.bl _,H,I,rfl,q]
end L2
namespace K39
open L2 Dp Nt
section
variable (P:Program)(w:World)(K:Frag)(mg:Str->w_ Value)(base:Heap)
abbrev Sn:Prop:=Got P w K mg base "is_whole" 1 ["thing"] .sh L3
abbrev Mj:Prop:=Got P w K mg base "is_tuple_of" 1 ["count","thing"] .sh CF
abbrev Q7:Prop:=Got P w K mg base "is_rising" 1 ["things"] .sh KD
abbrev Vk:Prop:=Got P w K mg base "rank_of" 1 ["tie"] .sh YO
abbrev Sm:Prop:=Got P w K mg base "order_of" 4 ["ties"] .fr Er
abbrev Sk:Prop:=Got P w K mg base "steps_of" 1 ["net"] .sh PD
abbrev cm:Prop:=Got P w K mg base "only" 1 ["net","ties"] .sh PN
abbrev Q6:Prop:=Got P w K mg base "is_tie_of" 2 ["net","thing"] .sh cr
abbrev Vl:Prop:=Got P w K mg base "is_thin" 3 ["net","thing"] .sh YM
abbrev Vj:Prop:=Got P w K mg base "without" 2 ["net","ties"] .sh Du
abbrev Q4:Prop:=Got P w K mg base "length_of" 2 ["net","thing"] .sh cv
abbrev Iu:Prop:=Got P w K mg base "length_between" 3 ["net","a","b","thing"] .sh UQ
abbrev O0:Prop:=Got P w K mg base "nearest_of" 1 ["waiting","found"] .sh YQ
abbrev O3:Prop:=Got P w K mg base "least_ways" 2 ["net","start"] .fr Iy
abbrev fq:Prop:=Got P w K mg base "far" 3 ["net","a","b"] .sh RE
abbrev YL:Prop:=Got P w K mg base "way_of" 3 ["net","a","b"] .sh Zw
abbrev O5:Prop:=Got P w K mg base "are_prices" 2 ["net","thing"] .sh PK
abbrev Q2:Prop:=Got P w K mg base "price_gap" 1 ["net","prices","a","b"] .sh YR
abbrev Vn:Prop:=Got P w K mg base "is_fair" 3 ["net","thing"] .sh UR
abbrev Mh:Prop:=Got P w K mg base "prices_from" 3 ["net","place","most"] .sh PL
abbrev Q5:Prop:=Got P w K mg base "is_within" 1 ["length","times","number"] .sh Cj
abbrev Ly:Prop:=Got P w K mg base "least_beyond" 1 ["times","number"] .sh I_
abbrev Oz:Prop:=Got P w K mg base "shows_near" 4 ["net","times","pair","thin","thing"] .sh L5
abbrev Vm:Prop:=Got P w K mg base "is_side" 2 ["net","thing"] .sh PJ
abbrev Mg:Prop:=Got P w K mg base "shows_apart" 3 ["net","pair","side"] .sh F9
abbrev Sq:Prop:=Got P w K mg base "is_shown" 5 ["net","times","pair","thin","thing"] .sh G1
abbrev Q8:Prop:=Got P w K mg base "is_needed" 4 ["net","times","pairs","less","thing"] .sh Iz
abbrev Q9:Prop:=Got P w K mg base "has_shape" 2 ["pairs","thin","paper"] .sh L6
abbrev O1:Prop:=dB P w K mg base "lets_pairs" 6 ["net","times","pairs","thin","paper"] .sh PQ
abbrev O2:Prop:=Got P w K mg base "lengths_of" 4 ["net","pairs"] .sh IB
abbrev O4:Prop:=Got P w K mg base "first_lost" 4 ["times","pairs","lengths","thin"] .sh RD
abbrev GD:Prop:=Got P w K mg base "thinned_for_pairs" 5 ["net","times","pairs"] .sh cu
abbrev Sl:Prop:=Got P w K mg base "shown_of" 4 ["net","thin","a","b"] .sh IA
abbrev Q3:Prop:=Got P w K mg base "needed_of" 5 ["net","times","pairs","lengths","less"] .sh KH
abbrev Mi:Prop:=Got P w K mg base "pairs_paper" 6 ["net","times","pairs"] .sh L7
abbrev RB:Prop:=Got P w K mg base "_law_next" 1 ["_law_feed_here","_law_many"] .sh Bn
abbrev O_:Prop:=Got P w K mg base "_law_names" 2 ["_law_feed_here","_law_many"] .sh L8
abbrev Mo:Prop:=Got P w K mg base "_law_length" 2 ["_law_feed_here","_law_way_here"] .sh PR
abbrev Su:Prop:=Got P w K mg base "_law_net" 3 ["_law_feed_here","_law_most","_law_ties"] .sh Sy
abbrev O9:Prop:=Got P w K mg base "_law_order" 1 ["_law_ties"] .fr Er
abbrev L1:Prop:=Got P w K mg base "_law_lengths" 1 ["_law_ties","_law_place"] .fr Ck
abbrev O6:Prop:=Got P w K mg base "_law_times" 2 ["_law_feed_here"] .sh H_
abbrev Ml:Prop:=Got P w K mg base "_law_within" 1 ["_law_length_here","_law_times_here","_law_number"] .sh Cj
abbrev Sr:Prop:=Got P w K mg base "_law_way" 2 ["_law_ties","_law_a","_law_b"] .sh KI
abbrev Lz:Prop:=dC P w K mg base "_law_refused" 1 ["_law_e"] .sh Sw
abbrev O8:Prop:=Got P w K mg base "_law_pairs" 2 ["_law_feed_here","_law_places","_law_most"] .sh Sx
abbrev PB:Prop:=Got P w K mg base "_law_keeps" 2 ["_law_net_here","_law_times_here","_law_pairs_here","_law_ties"] .sh Fv
abbrev Q_:Prop:=Got P w K mg base "_law_stay" 3 ["_law_net_here","_law_times_here","_law_pairs_here","_law_order_here"] .sh F8
abbrev Mm:Prop:=Got P w K mg base "_law_prices" 2 ["_law_net_here","_law_ties","_law_a","_law_number"] .sh PP
abbrev Iv:Prop:=Got P w K mg base "_law_own_paper" 3 ["_law_net_here","_law_times_here","_law_pairs_here","_law_thin"] .sh KG
abbrev RA:Prop:=Got P w K mg base "_law_some" 2 ["_law_feed_here","_law_ties"] .sh PF
abbrev Ss:Prop:=Got P w K mg base "_law_odd" 2 ["_law_feed_here"] .sh Iw
abbrev RC:Prop:=Got P w K mg base "_law_bent" 7 ["_law_feed_here","_law_thing","_law_names_here","_law_deep"] .sh^PU 4
abbrev Sv:Prop:=Got P w K mg base "_law_let" 7 ["_law_net_here","_law_times_here","_law_pairs_here","_law_thin","_law_paper"] .sh Sz
abbrev PC:Prop:=Got P w K mg base "_law_is_so" 3 ["_law_net_here","_law_times_here","_law_pairs_here","_law_thin"] .sh YN
abbrev O7:Prop:=Got P w K mg base "_law_thins" 4 ["_law_feed_here","_law_net_here","_law_times_here","_law_pairs_here"] .fr L4
abbrev Mn:Prop:=Got P w K mg base "_law_papers" 8 ["_law_feed_here","_law_net_here","_law_times_here","_law_pairs_here","_law_thins_here"] .fr PM
end
def iP{d:jp}{b:v_ Str}{n:Nat}(c:∀f:Nat->Ev,bindArgs d #[(je n).map f,[]]=pure^b.zip^(je n).map f)(a:v_ Ev)(h:a.length=n):bindArgs d #[a,[]]=pure^b.zip a:=by
 have e:a=(je n).map λi=>a.getD i .none:=by
  apply List.ext_getElem <;>simp_all
 rw[e];exact c _
local macro_rules|`(tactic|walk_at "L")=>`(tactic|(intro _ _ _ h;repeat (first|(obtain⟨e,_⟩:=h;subst e;rfl)|(obtain⟨_,h⟩:=h))))
local macro_rules|`(tactic|walk_at "B")=>`(tactic|(intro _ _ _ _ _ _;exact iP λ_=>rfl))
def Ht(K:Frag)(x:Str)(st:jP):Prop:=∃(f:Db) (b:Ev) (c d:w_ Db) (e:Array^w_ Ev) (kV g h a i:Ev),nsIn K mainGlobals x=P3^P3^.ref f/\K.lookup f=P3 #[b,c,.func^fnOf x x (CS st) (Bc st) (AK st) .none kV g h d a i,e]/\codeIn K a x=t_/\keepIn K^.ref f=t_
def Hn(K:Frag)(x:Str):Prop:=nsIn K mainGlobals x=P3 s_
def Ht.mk{K:Frag}{x:Str}{st:jP}{f:Db}{d:Ev}{e g:w_ Db}{h:Array^w_ Ev}{kV i j b m:Ev}(a:nsIn K mainGlobals x=P3^P3^.ref f)(l:K.lookup f=P3 #[d,e,.func^fnOf x x (CS st) (Bc st) (AK st) .none kV i j g b m,h])(c:codeIn K b x=t_)(k:keepIn K^.ref f=t_):Ht K x st:=#[f,d,e,g,h,kV,i,j,b,m,a,l,c,k]
def Hn.mk{K:Frag}{x:Str}(a:nsIn K mainGlobals x=P3 s_):Hn K x:=a
def xc_mk{K:Frag}{i q k:Str}{C U N l:Db}{bs c sub a:v_ Ev}{m d:v_ Str}{n e f:Bool}{g b:w_ Bool}{p h:w_ Db}{r s t v w x y z A B:w_ Ev}(at_:nsIn K mainGlobals i=P3^P3^.ref C)(j:nsIn K mainGlobals "ThinError"=P3^P3^.ref U)
  (o:K.lookup C=P3^excClassObj i q C N bs (.ref U::[.type "ValueError",.type "Exception",.type "BaseException",.type "object"]) t_ m sub n g p r s t v w "ValueError.__new__")
  (u:K.lookup U=P3^excClassObj "ThinError" k U l c [.type "ValueError",.type "Exception",.type "BaseException",.type "object"] f d a e b h x y z A B "ValueError.__new__")
  (D:keepIn K^.ref C=t_) (E:PySem.W.findIn K (.ref C) "__getattribute__"=P3^P3^.builtin "BaseException.__getattribute__") (F:PySem.W.findIn K (.ref C) "__getattr__"=P3 s_) (G:PySem.W.findIn K (.ref C) "__setattr__"=P3^P3^.builtin "object.__setattr__") (H:PySem.W.findIn K (.ref C) "__class__"=P3^P3^.builtin "object.__class__")
  (I:PySem.W.findIn K (.ref C) "word"=P3 s_) (J:PySem.W.findIn K (.ref C) "number"=P3 s_) (L:PySem.W.findIn K (.ref C) "row"=P3 s_):XC K i C U:=
 #[#[q,N,bs,m,sub,n,g,p,r,s,t,v,w,o],#[k,l,c,d,a,e,b,h,x,y,z,A,B,f,u],D,E,F,G,at_,j,H,I,J,L]
def Hx(K:Frag)(a:Str):Prop:=∃C U,XC K a C U
def Hx.mk{K:Frag}{a:Str}{C U:Db}(c:XC K a C U):Hx K a:=#[C,U,c]
def H2(K:Frag)(c a:Str)(st:jP):Prop:=∃C U,XC K c C U/\∃(f:Db) (d:Ev) (e g:w_ Db) (h:Array^w_ Ev) (kV i j b k:Ev),PySem.W.findIn K (.ref C) "__init__"=P3^P3^.ref f/\PySem.W.typeIn K^.ref f=P3^.type "function"/\K.lookup f=P3 #[d,e,.func^fnOf "__init__" a (CS st) (Bc st) (AK st) .none kV i j g b k,h]/\codeIn K b a=t_/\keepIn K^.ref f=t_
def H2.mk{K:Frag}{d a:Str}{st:jP}{C U f:Db}{e:Ev}{g h:w_ Db}{j:Array^w_ Ev}{kV m n b o:Ev}(c:XC K d C U)(i:PySem.W.findIn K (.ref C) "__init__"=P3^P3^.ref f)(ty:PySem.W.typeIn K^.ref f=P3^.type "function")
  (l:K.lookup f=P3 #[e,g,.func^fnOf "__init__" a (CS st) (Bc st) (AK st) .none kV m n h b o,j]) (p:codeIn K b a=t_) (k:keepIn K^.ref f=t_):H2 K d a st:=#[C,U,c,f,e,g,h,j,kV,m,n,b,o,i,ty,l,p,k]
structure C0 (K:Frag) (mg:Str->Option Ev) (h:jI):Prop where
 X:K.In h
 G:h.Ns mainGlobals mg
 h_is_whole:Ht K "is_whole" Ko
 h_is_tuple_of:Ht K "is_tuple_of" GK
 h_is_rising:Ht K "is_rising" JI
 h_rank_of:Ht K "rank_of" M_
 h_order_of:Ht K "order_of" Kl
 h_steps_of:Ht K "steps_of" Gm
 h_only:Ht K "only" WW
 h_is_tie_of:Ht K "is_tie_of" JH
 h_is_thin:Ht K "is_thin" NA
 h_without:Ht K "without" M9
 h_length_of:Ht K "length_of" JF
 h_length_between:Ht K "length_between" EL
 h_nearest_of:Ht K "nearest_of" G9
 h_least_ways:Ht K "least_ways" HB
 h_far:Ht K "far" Z3
 h_way_of:Ht K "way_of" Pt
 h_are_prices:Ht K "are_prices" HD
 h_price_gap:Ht K "price_gap" JD
 h_is_fair:Ht K "is_fair" NC
 h_prices_from:Ht K "prices_from" GI
 h_is_within:Ht K "is_within" JG
 h_least_beyond:Ht K "least_beyond" FD
 h_shows_near:Ht K "shows_near" G8
 h_is_side:Ht K "is_side" NB
 h_shows_apart:Ht K "shows_apart" GH
 h_is_shown:Ht K "is_shown" Kp
 h_is_needed:Ht K "is_needed" JJ
 h_has_shape:Ht K "has_shape" JK
 h_lets_pairs:Ht K "lets_pairs" G_
 h_lengths_of:Ht K "lengths_of" HA
 h_first_lost:Ht K "first_lost" HC
 h_thinned_for_pairs:Ht K "thinned_for_pairs" DM
 h_shown_of:Ht K "shown_of" Kk
 h_needed_of:Ht K "needed_of" JE
 h_pairs_paper:Ht K "pairs_paper" GJ
 h__law_feed:Ht K "_law_feed" FG
 h__law_next:Ht K "_law_next" Dz
 h__law_names:Ht K "_law_names" HI
 h__law_length:Ht K "_law_length" GP
 h__law_net:Ht K "_law_net" Ks
 h__law_order:Ht K "_law_order" HH
 h__law_lengths:Ht K "_law_lengths" FF
 h__law_times:Ht K "_law_times" HE
 h__law_within:Ht K "_law_within" GL
 h__law_way:Ht K "_law_way" Kq
 h__law_refused:Ht K "_law_refused" FE
 h__law_pairs:Ht K "_law_pairs" HG
 h__law_keeps:Ht K "_law_keeps" HJ
 h__law_stay:Ht K "_law_stay" JL
 h__law_prices:Ht K "_law_prices" GN
 h__law_own_paper:Ht K "_law_own_paper" EM
 h__law_some:Ht K "_law_some" JM
 h__law_odd:Ht K "_law_odd" Kr
 h__law_bent:Ht K "_law_bent" JN
 h__law_let:Ht K "_law_let" Kt
 h__law_is_so:Ht K "_law_is_so" HK
 h__law_thins:Ht K "_law_thins" HF
 h__law_papers:Ht K "_law_papers" GO
 h_law:Ht K "law" Km
 z0:Hn K "ValueError"
 z1:Hn K "abs"
 z2:Hn K "all"
 z3:Hn K "bool"
 z4:Hn K "enumerate"
 z5:Hn K "int"
 z6:Hn K "isinstance"
 z7:Hn K "len"
 z8:Hn K "list"
 z9:Hn K "min"
 z10:Hn K "range"
 z11:Hn K "reversed"
 z12:Hn K "sorted"
 z13:Hn K "str"
 z14:Hn K "tuple"
 z15:Hn K "zip"
 y0:H2 K "NoPaper" "NoPaper.__init__" CY
 y1:Hx K "NoLine"
 y2:Hx K "TooMany"
 y3:Hx K "Twice"
 y4:Hx K "NoPlace"
 y5:Hx K "NoTie"
 y6:Hx K "NoRow"
def Ctx(P:jM)(w:jT)(K:Frag)(b:Str->w_ Ev)(a h:jI):Prop:=C0 K b h
section
variable {P:Program}{w:World}{K:Frag}{mg:Str->w_ Value}{h base:Heap}{x:Str}{st:Stmt}
def Ht.fn(X:K.In h)(G:h.Ns mainGlobals mg)(H:Ht K x st):∃f fd,mg x=P3^.ref f/\Fun K x x st f fd:=by
 let#[f,b,d,e,g,i,j,m,n,o,a,l,c,k]:=H;exact#[f,_,mg_of X G a,SN (st:=st) l c k]
def Hx.xm{a:Str}(X:K.In h)(G:h.Ns mainGlobals mg)(H:Hx K a):∃C U,XC K a C U/\mg a=P3^.ref C:=let #[C,U,c]:=H;#[C,U,c,mg_of X G c.at_]
def H2.u{b a:Str}(X:K.In h)(G:h.Ns mainGlobals mg)(H:H2 K b a st):∃U,dQ K U/\mg "ThinError"=P3^.ref U/\nsIn K mainGlobals "ThinError"=P3^P3^.ref U:=let #[C,U,c,_]:=H;#[U,c.isU,mg_of X G c.atU,c.atU]
def H2.hx{b a:Str}(H:H2 K b a st):Hx K b:=let #[C,U,c,_]:=H;#[C,U,c]
def C0.T(A:C0 K mg h):Txt K mg:=#[mg_none_of A.X A.G A.z0,mg_none_of A.X A.G A.z1,mg_none_of A.X A.G A.z2,mg_none_of A.X A.G A.z3,mg_none_of A.X A.G A.z4,mg_none_of A.X A.G A.z5,mg_none_of A.X A.G A.z6,mg_none_of A.X A.G A.z7,mg_none_of A.X A.G A.z8,mg_none_of A.X A.G A.z9,mg_none_of A.X A.G A.z10,mg_none_of A.X A.G A.z11,mg_none_of A.X A.G A.z12,mg_none_of A.X A.G A.z13,mg_none_of A.X A.G A.z14,mg_none_of A.X A.G A.z15,A.y0.hx.xm A.X A.G,A.y1.xm A.X A.G,A.y2.xm A.X A.G,A.y3.xm A.X A.G,A.y4.xm A.X A.G,A.y5.xm A.X A.G,A.y6.xm A.X A.G,A.y0.u A.X A.G]
def Ctx.got{k:Nat}{a:v_ Str}{e:Kd}{W:W2}(A:Ctx P w K mg base h)(H:Ht K x st)
  (ok:∀{f:Db}{fd:jp},Txt K mg->Fun K x x st f fd->mg x=P3^.ref f->Binds K fd a []->CU P w K mg base Fy k f fd a^Vt K e W a.length)
  (j:∀g n P,W g n P->g.length=a.length:=by walk_at "L") (i:∀(kV b l:Ev) (o:w_ Db) (c p:Ev) (d:v_ Ev),d.length=a.length->bindArgs (fnOf x x (CS st) (Bc st) (AK st) .none kV b l o c p) #[d,[]]=pure^a.zip d:=by walk_at "B"):Got P w K mg base x k a e W:=by
 let#[f,fd,m,F]:=H.fn A.X A.G;exact#[f,fd,ok A.T F m^F.binds i,m,F.kp,F.binds i,j]
def Ctx.gotH{k:Nat}{a:v_ Str}{e:Kd}{W:W2}(A:Ctx P w K mg base h)(H:Ht K x st)
  (ok:∀{f:Db}{fd:jp},Txt K mg->Fun K x x st f fd->RF P w K mg base k f fd a^Vt K e W a.length)
  (i:∀g n P,W g n P->g.length=a.length:=by walk_at "L") (j:∀(kV b l:Ev) (o:w_ Db) (c p:Ev) (d:v_ Ev),d.length=a.length->bindArgs (fnOf x x (CS st) (Bc st) (AK st) .none kV b l o c p) #[d,[]]=pure^a.zip d:=by walk_at "B"):dC P w K mg base x k a e W:=by
 let#[f,fd,m,F]:=H.fn A.X A.G;exact#[f,fd,ok A.T F,m,F.kp,F.binds j,i]
def Ctx.gotR{k:Nat}{a:v_ Str}{e:Kd}{W:WX}(A:Ctx P w K mg base h)(H:Ht K x st)
  (ok:∀{f:Db}{fd:jp},Txt K mg->Fun K x x st f fd->CU P w K mg base (Vr P w) k f fd a^gn K e W a.length) (i:∀g n P j,W g n P j->g.length=a.length) (l:∀(kV b o:Ev) (p:w_ Db) (c q:Ev) (d:v_ Ev),d.length=a.length->bindArgs (fnOf x x (CS st) (Bc st) (AK st) .none kV b o p c q) #[d,[]]=pure^a.zip d:=by walk_at "B"):dB P w K mg base x k a e W:=by
 let#[f,fd,m,F]:=H.fn A.X A.G;exact#[f,fd,ok A.T F,m,F.kp,F.binds l,i]
end
section
variable {P:Program}{w:World}{K:Frag}{mg:Str->w_ Value}{base:Heap}
variable {f:Addr}{fd:FuncData}
def Jm:Ab ["self","word","number"] ["self","word","number"]^AK CY:=by constructor <;>first|rfl|decide +kernel
def Ju{f C U:Db}{fd:jp}(c:XC K "NoPaper" C U)(F:Fun K "__init__" "NoPaper.__init__" CY f fd):CU P w K mg base Fy 1 f fd ["self","word","number"]^Ke C "word" "number":=by
 refine F.ok Jm (λj H Q E h=>by let#[a,b,g,rfl,_]:=h;rfl) λk A i s H j Q E o h=>?_;let#[a,b,g,rfl,l,m]:=h;exists _,BV (e7 c c.nw (pv 0) (pv 1) rfl)^C5 (en c c.nn (pv 0) (pv 2) rfl);refine#[b,rfl,V.ref a,rfl,a,rfl,l,λd n e=>#[g,rfl,V.ref a,rfl,a,d,[(("word":Str),b)],rfl,Ah,?_,(by cbv:1<1000),?_]]
 .rw[AW e,Ah]
 .rw[show E8 "number" g [(("word":Str),b)]=[(("word":Str),b),(("number":Str),g)]from by unfold E8;rw[if_neg^by cbv];rfl]
  exact m d n e
def SM{P:jM}{w:jT}{K:Frag}{mg:Str->w_ Ev}{h base:jI}(A:Ctx P w K mg base h):f_ P w K mg base "NoPaper" ["word","number"] 1:=by
 have H:=A.y0;let#[C,U,c,f,b,d,e,g,j,m,n,o,p,i,ty,l,a,k]:=H;have F:=SN (st:=CY) l a k;exact#[C,U,c,mg_of A.X A.G c.at_,.inr #[_,_,f,_,_,_,_,rfl,i,ty,Ju c F,F.binds^by walk_at "B"]]
variable {h:Heap}(A:Ctx P w K mg base h)
include A
omit A in
def Pq:Ab ["thing"] ["thing"]^AK Ko:=by walk_at "s"
def FT:Sn P w K mg base:=A.got A.h_is_whole (λT F m b=>DD F Pq (λa=>(AL^Ad^C2 (ED Tu (dv 0) rfl T.Gaa rfl T.Gal (by decide +kernel))^En^SW (ED Xe (dv 0) rfl T.Gaa rfl T.Gao (by decide +kernel)))) P0) (λ_ _ _ h=>Ut h)
omit A in
def Kh:Ab ["count","thing"] ["count","thing"]^AK GK:=by walk_at "s"
def CC:Mj P w K mg base:=A.got A.h_is_tuple_of λT F m b=>DD F Kh (λa=>(AL^Ad^C2 (ED kit_tuple (dv 1) rfl T.Gaa rfl T.Gab (by decide +kernel))^En^Cg Et Jw (Ao BL DA rfl T.Gac PySem.boot_len (AU (dv 1) Af)) (dv 0)^Am _)) K0
omit A in
def N1:Ab ["things"] ["things"]^AK JI:=by walk_at "s"
def HW:Q7 P w K mg base:=A.got A.h_is_rising λT F m b=>DD F N1 (λa=>(AL^Ad (Ao (Do rfl) Lx rfl T.Gag lC (AU (NY [("ahead":Str),("behind":Str)] [s_,s_] (Zk rfl T.Gan (AU (dv 0)^AU (Cp E7 Cr (dv 0) (Bb AG) Br) Af)) (B7 rfl (Al (AY (i:=0) (show jb [("ahead":Str),("behind":Str)] by decide +kernel) rfl (TW rfl))^Al (AY (i:=1) (show jb [("ahead":Str),("behind":Str)] by decide +kernel) rfl (TW rfl)) Bj)) Bs (Cg (FO a) Jj (dv 0) (dv 1)^Am _)^by kernel_rfl) Af)))) OB
omit A in
def RW:Ab ["tie"] ["tie"]^AK M_:=by walk_at "s"
def Ry:Vk P w K mg base:=A.got A.h_rank_of λT F m b=>DD F RW (λa=>(AL^Ad^Ar^AD (AS AN Ai (dv 0) AG)^AD (AS AN Ai (dv 0) AG)^AD (AS AN Ai (dv 0) AG) AO)) Rh
omit A in
def Pp:Ab ["ties"] ["ties"]^AK Kl:=by walk_at "s"
def FS:Sm P w K mg base:=A.got A.h_order_of λT F m b=>have a:=Ry A;DD F Pp (λc=>(AL^Ad (X7 a (c.mono^by cbv) rfl T.Gad rfl (dv 0)))) Py
omit A in
def qT:Ab ["net","steps","place","a","b","length"] ["net"]^AK Gm:=#[rfl,rfl,rfl,by decide +kernel,rfl,by decide +kernel,by decide +kernel]
omit A in
def iu{f:Db}{fd:jp}(F:Fun K "steps_of" "steps_of" Gm f fd):CU P w K mg base Fy 1 f fd ["net"]^Vt K .sh PD 1:=by
 refine F.ok (k:=0) qT (λvs H Q E h=>h.1) λcdv A outer s H vs Q E hr h=>?_;let#[hl,F0,U,V',M,n,ss,Pd,ra,#[N,rfl,ok,lp,lt,p],q]:=h;let#[dom,fU,uV,vM,fd0,pa]:=ra;cases pa with
 |cons r1 pa=>
 cases pa;let#[v,e1,h1]:=r1.1;cases e1;let#[an,vs,rfl,hn,v1,r,rfl,hp,v2,r2,rfl,ht,e2]:=h1;cases(show r2=[]from e2);let#[ap,us,rfl,hpn,hps]:=hp;let#[at_,ws,rfl,htn,hts]:=ht;have nd:=qT.nd;have hu:=La hr;have szl:=PySem.sizeLine_eq;have lus:us.length=N.ps.length:=by rw[hps.length,No]
 have lws:ws.length=N.ts.length:=by rw[hts.length,No]
 refine#[_,BV (FI (i:=1) nd rfl (TW rfl) P7)
  (BV (K7 jS rfl (W4^Es ix_tup (pv 0) BD λ_ _=>rfl) (HP (i:=2) nd rfl (TW rfl)) (C5 (J0 hu (pv 1) (pv 2) P7 rfl)))
  (BV (K7 jS rfl (W4^Es ix_tup (pv 0) BD λ_ _=>rfl) (W6 rfl (HN (HP (i:=3) nd rfl (TW rfl))^HN (HP (i:=4) nd rfl (TW rfl))^HN (HP (i:=5) nd rfl (TW rfl)) Tb))
   (BV (J0 hu (OC hu (pv 1) (pv 3) λ_ _=>rfl) (pv 4) (pv 5) rfl)^C5 (J0 hu (OC hu (pv 1) (pv 4) λ_ _=>rfl) (pv 3) (pv 5) rfl)))
  (C5^Gn^bg^pv 1))),?_]
 refine λd hd=>?_;have old0:∀b o,H b=P3 o->A4 H d (.dK []) b=P3 o:=λb o e=>by rw[AW^A6 e hd];exact e
 have SqN:∀H':Hp,(∀b o,H b=P3 o->H' b=P3 o)->SqT K H' an [.ref ap,.ref at_]:=λH' o=>SqT.of^o _ _ hn;have SqP:∀H':Hp,(∀b o,H b=P3 o->H' b=P3 o)->SqT K H' ap us:=λH' o=>SqT.of^o _ _ hpn;have SqW:∀H':Hp,(∀b o,H b=P3 o->H' b=P3 o)->SqT K H' at_ ws:=λH' o=>SqT.of^o _ _ htn;refine#[_,rfl,an,_,0,_,rfl,rfl,SqN _ old0,rfl,ap,rfl,#[_,SqP _ old0],?_];refine T1 (xs:=us) (λi Z H'=>∃(as:v_ (Str×Db)) (x2 x3 x4 x5:w_ V),Z=[P3^.ref an,P3^.ref d,x2,x3,x4,x5]/\as.map (·.1)=N.ps.take i/\Stp H d as (λ_=>[]) H') ?_ (λi Z H' hi #[as,x2,x3,x4,x5,e,hm,st]=>SqP _ st.old) ?_ ?_
 .exact#[[],_,_,_,_,rfl,rfl,old0,hd,Ah,(λx hx=>by cases hx),kR,kR]
 .rintro i x Z H' hx ⟨as,x2,x3,x4,x5,rfl,hm,st⟩
  have hi:i<N.ps.length:=by rw[←lus];exact(ZB.mp hx).1
  let#[x',hx',hAt]:=hps.get (i:=i) (d:=.str N.ps[i]) (by rw[jG,On hi];rfl);rw[hx]at hx';cases hx';let#[rfl,_]:=hAt;intro q hq;have las:as.length<=i:=by have:=congrArg n8 hm;rw[No,mR]at this;lk
  have nq:d≠q:=λe=>by rw[←e,st.top]at hq;cases hq
  have las2:(as.map λx=>((.inr x.1:Key),V.ref x.2)).length=as.length:=No ..;refine#[_,rfl,_,rfl,d,_,rfl,DPut.k (k:=.inr N.ps[i]) (by rw[AW nq];exact st.top)^by lk,?_];refine#[as++[(N.ps[i],q)],_,_,_,_,rfl,?_,st.more hq ?_ rfl]
  .rw[jz,hm,List.take_succ,On hi];rfl
  .rw[hm];exact R7 (N5 ok.rise) hi
 .rintro Z H' ⟨as,x2,x3,x4,x5,rfl,hm,st⟩
  rw[lus,oC]at hm;refine#[_,rfl,an,_,1,_,rfl,rfl,SqN _ st.old,rfl,at_,rfl,#[_,SqW _ st.old],?_];refine T1 (xs:=ws) (λi Z H'=>∃(x2 x3 x4 x5:w_ V),Z=[P3^.ref an,P3^.ref d,x2,x3,x4,x5]/\Stp H d as (λp=>(EA (N.ts.take i) p).map kv) H') #[_,_,_,_,rfl,st] (λi Z H' hi #[x2,x3,x4,x5,e,st]=>SqW _ st.old) ?_ ?_
  .rintro i x Z H' hx ⟨x2,x3,x4,x5,rfl,st⟩
   have hi:i<N.ts.length:=by rw[←lws];exact(ZB.mp hx).1
   let#[x',hx',hAt]:=hts.get (i:=i) (d:=Aj N.ts[i]) (by rw[jG,On hi];rfl);rw[hx]at hx';cases hx';have hmem:N.ts[i]∈N.ts:=jm hi;have hsnoc:N.ts.take (i+1)=N.ts.take i++[N.ts[i]]:=by rw[List.take_succ,On hi];rfl
   have hpre:(N.ts.take (i+1)).Pairwise By:=ok.trise.sublist^pD _ _;have hlt2:∀s∈N.ts.take (i+1),cs s.a<cs s.b:=λs hs=>(ok.tin s^List.mem_of_mem_take hs).2.2.1;rw[hsnoc]at hpre hlt2;have new:=Xx hpre hlt2;have ltk:(N.ts.take i).length<=1000:=by rw[mR];lk
   generalize N.ts[i]=t at hAt hmem hsnoc new;generalize N.ts.take i=ts at hsnoc new st ltk;let#[m1,m2,m3,_]:=ok.tin t hmem;have hab:t.a≠t.b:=λe=>by rw[e]at m3;exact mP _ m3
   let#[ta,tb,tl]:=t;let#[tt,us3,rfl,htt,hit]:=hAt;let#[va,r3,rfl,#[rfl,_],vb,r4,rfl,#[rfl,_],vl,r5,rfl,rfl,e5]:=hit;cases(show r5=[]from e5);rw[←hm]at m1 m2;let#[#[xa,pa],ha,ea]:=TM.mp m1;let#[#[xb,pb],hb,eb]:=TM.mp m2;have ea':ta=xa:=ea.symm;have eb':tb=xb:=eb.symm;subst ea' eb';clear ea eb;replace hab:ta≠tb:=hab;replace new:tb∉(EA ts ta).map (·.1)/\ta∉(EA ts tb).map (·.1):=new;have ga:=DGet.k (k:=.inr ta) st.top;rw[Jx st.nms ha]at ga;have l1:=To ts ta;refine#[tt,_,rfl,SqT.of^st.old _ _ htt,rfl,_,_,rfl,_,_,rfl,_,_,rfl,rfl,?_];refine#[_,rfl,_,rfl,_,rfl,d,_,rfl,ga,_,rfl,pa,_,rfl,DPut.k (k:=.inr tb) (st.inn _ ha).2.2 (by show((EA ts ta).map kv).length<sizeLine;rw[No];lk),?_];have st1:=st.put (tb2:=λp=>(EA ts p++if ta=p then [(tb,tl)]else []).map kv) ha (kvs:=putK ((EA ts ta).map kv) (.inr tb)^.int tl) (by rw[TV new.1,if_pos rfl]) (λq hq=>by rw[if_neg^jv hq,jZ]);have gb:=DGet.k (k:=.inr tb) st1.top;rw[Jx st1.nms hb]at gb;have l2:=To ts tb;have ib:=(st1.inn _ hb).2.2;simp only[if_neg hab,jZ]at ib;refine#[_,rfl,_,rfl,_,rfl,d,_,rfl,gb,_,rfl,pb,_,rfl,DPut.k (k:=.inr ta) ib (by rw[No];lk),?_];refine#[_,_,_,_,rfl,st1.put hb ?_ λq hq=>?_]
   .show(EA (N.ts.take (i+1)) tb).map kv=_
    rw[hsnoc,QE,TV new.2];show((EA ts tb++((if ta=tb then [(tb,tl)]else [])++if tb=tb then [(ta,tl)]else [])).map kv)=_;rw[if_neg hab,if_pos rfl];rfl
   .show(EA (N.ts.take (i+1)) q).map kv=_
    rw[hsnoc,QE];show((EA ts q++((if ta=q then [(tb,tl)]else [])++if tb=q then [(ta,tl)]else [])).map kv)=_;rw[if_neg^jv hq,jZ]
  .rintro Z H' ⟨x2,x3,x4,x5,rfl,st⟩
   rw[lws,oC]at st
   have old:∀(f:Db->Obj) b o,H b=P3 o->Gv H' (as.map (·.2)) f b=P3 o:=λf b o e=>by
    rw[ES λhm=>by let#[x,hx,e2]:=TM.mp hm;have:=(st.inn x hx).1;rw[e2,e]at this;cases this];exact st.old b o e
   refine#[_,rfl,(as.map fun(x:Str×Db)=>x.2),λb hb=>?_,λf=>q (.ref d) (Gv H' (as.map fun(x:Str×Db)=>x.2) f) (FA N) n (λb o e=>#[o,old f b o e,λ_=>rfl,λ_ _=>rfl]) (λg hg=>?_) (show At K M (Gv H' (as.map fun(x:Str×Db)=>x.2) f) (FA N)^.ref d from st.at_ dom hm f) p]
   .let#[x,hx,rfl]:=TM.mp hb
    exact#[_,(st.inn x hx).2.2]
   .let#[a,r,cells,hf,hcf,hc,rest]:=fd0 g hg
    exact#[a,r,cells,old f _ _ hf,hcf,#[hc.1,old f _ _ hc.2],rest]
def JQ:Sk P w K mg base:=A.got A.h_steps_of λ_ F _ _=>iu F
omit A in
def Yu:Ab ["net","ties"] ["net","ties"]^AK WW:=by walk_at "s"
def Tl:cm P w K mg base:=A.got A.h_only λT F m b=>DD F Yu (λa=>(AL^Ad^Ar^AD (AS AN Ai (dv 0) AG)^AD (BB Au Bg rfl T.Gab kX (AU (Ao C3 F7 rfl T.Gad lw (AU (Dl 1) Af)) Af)) AO)) Um
omit A in
def N0:Ab ["net","thing"] ["net","thing"]^AK JH:=by walk_at "s"
def OI:Q6 P w K mg base:=A.got A.h_is_tie_of λT F m b=>have d:=FT A;DD F N0 (λa=>(AL^Ad^C2 (Cg (LF a) Hz (dv 1) (AS AN Ai (dv 0) AG)^by with_unfolding_all rfl)^En^cg a d^AA (AI^AS AN Ai (dv 1) AG) AM)) OA
omit A in
def RX:Ab ["net","thing"] ["net","thing"]^AK NA:=by walk_at "s"
def Rz:Vl P w K mg base:=A.got A.h_is_thin λT F m b=>have c:=HW A;have d:=OI A;have e:=CC A;DD F RX (λa=>(AH (BE (DTW.dt^Dk (Bo^BR^cg a e^AA (AI AG)^AA (AI^dv 1) AM)^DK^Bo^BR (ED kit_tuple (AS AN Ai (dv 1) AG) rfl T.Gaa rfl T.Gab (by decide +kernel))) (AL^Ad CO) Ap)
 (AL^Ad^C2 (Cg (LH a) Q0 (AS AN Ai (dv 1) AG) (AS AN Ai (dv 0) AG)^Am _)^C2 (Ao (Do rfl) Lx rfl T.Gag lC (AU (NY [("net":Str),("tie":Str)] [P3 0,s_] (BO^AS AN Ai (dv 1) AG) (AY (i:=1) (show jb [("net":Str),("tie":Str)] by decide +kernel) rfl (TW rfl)) Bs (cg a d^AA (AI^dv 0)^AA (AI^dv 1) AM)^by kernel_rfl) Af))^En^cg a c^AA (AI^AS AN Ai (dv 1) AG) AM))) Rk
omit A in
def RU:Ab ["net","ties"] ["net","ties"]^AK M9:=by walk_at "s"
def Gq:Vj P w K mg base:=A.got A.h_without λT F m b=>have d:=Tl A;DD F RU (λc=>(AL^Ad^cg c d^AA (AI^dv 0)^AA (C_^NY [("ties":Str),("tie":Str)] [P3 1,s_] (BO^AS AN Ai (dv 0) AG) (AY (i:=1) (show jb [("ties":Str),("tie":Str)] by decide +kernel) rfl (TW rfl)) (DV^An (IV c) Hz (dv 1) (dv 0)^by with_unfolding_all rfl) (dv 1)^by kernel_rfl) AM)) N6
omit A in
def qZ:Ab ["net","thing","steps","length","here","there"] ["net","thing"]^AK JF:=by walk_at "s"
def OH:Q4 P w K mg base:=A.got A.h_length_of λT F m b=>have c:=JQ A;DD F qZ (λa=>(AH (BE (DTW.dt^Dk (Bo^BR (ED kit_tuple (dv 1) rfl T.Gaa rfl T.Gab (by decide +kernel)))^DK^An Et Jw (Ao BL DA rfl T.Gac PySem.boot_len (AU (dv 1) Af)) AG^Am _) (AL^Ad Be) Ap)
 (AH (BE (Bo^BR (Ao (Do rfl) Lx rfl T.Gag lC (AU (NY [("place":Str)] [s_] (BO^dv 1) (AY (i:=0) (show jb [("place":Str)] by decide +kernel) rfl (TW rfl)) Bs (ED Tt (dv 0) rfl T.Gaa rfl T.Gam (by decide +kernel))^by kernel_rfl) Af))) (AL^Ad Be) Ap)
 (AH (Ak (i:=2) qZ.nd rfl (TW rfl) (cg a c^AA (AI^dv 0) AM))
 (AH (BE (An (EO a) Ft (AS AN Ai (dv 1) AG) (dv 2)^by with_unfolding_all rfl) (AL^Ad Be) Ap)
 (AH (Ak (i:=3) qZ.nd rfl (TW rfl) AG)
 (AH (B6 jS rfl (cP rfl T.Gan (AD (dv 1)^AD (Cp E7 Cr (dv 1) (Bb AG) Br) AO)) (B7 rfl (Al (AY (i:=4) qZ.nd rfl (TW rfl))^Al (AY (i:=5) qZ.nd rfl (TW rfl)) Bj)) (AH (BE (An (EO a) Ft (dv 5) (B_ a (dv 2)^dv 4)^by with_unfolding_all rfl) (AL^Ad Be) Ap)
 (AL (Zj (i:=3) qZ.nd rfl (TW rfl) (B_ a (B_ a (dv 2)^dv 4)^dv 5)))))
 (AL^Ad^dv 3)))))))) N7
omit A in
def qc:Ab ["net","a","b","thing","length"] ["net","a","b","thing"]^AK EL:=by walk_at "s"
def D5:Iu P w K mg base:=A.got A.h_length_between λT F m b=>have a:=OH A;DD F qc (λc=>(AH (Ak (i:=4) qc.nd rfl (TW rfl) (cg c a^AA (AI^dv 0)^AA (AI^dv 3) AM))
 (AH (BE (DTW.dt^Dk (An FP Jk (dv 4) Be^Am _)^Dk (An XH cf (AS AN Ai (dv 3) AG) (dv 1)^Am _)^DK^An XH cf (AS AN Ai (dv 3)^Fa AG) (dv 2)^Am _) (AL^Ad Be) Ap)
 (AL^Ad^dv 4)))) Yy
omit A in
def MD:Ab ["waiting","found"] ["waiting","found"]^AK G9:=by walk_at "s"
def MN:O0 P w K mg base:=A.got A.h_nearest_of λT F m b=>DD F MD (λa=>(AL^Ad^AS AN Ai (Ao (Ve a) ci rfl T.Gai boot_min (AU (NY [("found":Str),("place":Str)] [P3 1,s_] (BO^Dl 0) (AY (i:=1) (show jb [("found":Str),("place":Str)] by decide +kernel) rfl (TW rfl)) Bs (Ar^AD (AS AN Ai (B_ a (Dl 0)^dv 1) AG)^AD (dv 1) AO)^by kernel_rfl) Af)) AG)) MH
omit A in
def qe:Ab ["net","start","steps","found","waiting","place","other","step","length"] ["net","start"]^AK HB:=by walk_at "s"
def C6:O3 P w K mg base:=A.got A.h_least_ways λT F m b=>have e:=MN A;have g:=JQ A;DD F qe (λc=>(AH (Ak (i:=2) qe.nd rfl (TW rfl) (cg c g^AA (AI^dv 0) AM))
 (AH (B9 (i:=3) qe.nd rfl (TW rfl) (Qb (dv 1)^Ar^AD AG^AD Be AO))
 (AH (B9 (i:=4) qe.nd rfl (TW rfl) (BN^AD (dv 1) AO))
 (AH (Hg jS (cK^Dl 4) (AH (Ak (i:=5) qe.nd rfl (TW rfl) (cg c e^AA (C_^Dl 4)^AA (C_^Dl 3) AM))
 (AH (CN 4 PySem.F.plainAttrs_list PySem.F.slot_list_remove PySem.F.type_list_remove (VB c) fh (pv 4)^AD (dv 5) AO)
 (AL (B6 jS rfl (X4^B_ c (dv 2)^dv 5) (B7 rfl (Al (AY (i:=6) qe.nd rfl (TW rfl))^Al (AY (i:=7) qe.nd rfl (TW rfl)) Bj)) (AH (Ak (i:=8) qe.nd rfl (TW rfl) (Ay Aw A8 (AS AN Ai (B_ c (Dl 3)^dv 5) AG)^dv 7))
 (AL (BE (An (EO c) Ft (dv 6) (Dl 3)^by with_unfolding_all rfl) (AH (CN 4 PySem.F.plainAttrs_list PySem.F.slot_list_append PySem.F.type_list_append BA DB (pv 4)^AD (dv 6) AO)
 (AL^Ob (i:=3) c (pv 3) (dv 6)^Ar^AD (dv 8)^AD (dv 5) AO))^AL^BE (An (FO c) Jj (dv 8) (AS AN Ai (B_ c (Dl 3)^dv 6) AG)^Am _) (AL^Ob (i:=3) c (pv 3) (dv 6)^Ar^AD (dv 8)^AD (dv 5) AO) Ap))))))))
 (AL^J8 3^pv 3)))))) MI
omit A in
def qg:Ab ["net","a","b","found"] ["net","a","b"]^AK Z3:=by walk_at "s"
def R6:fq P w K mg base:=A.got A.h_far λT F m b=>have d:=C6 A;DD F qg (λc=>(AH (Ak (i:=3) qg.nd rfl (TW rfl) (cg c d^AA (AI^dv 0)^AA (AI^dv 1) AM))
 (AL^Ad^UA (An (LI c) Q1 (dv 2) (dv 3)^by with_unfolding_all rfl) (AS AN Ai (B_ c (dv 3)^dv 2) AG) Be))) bJ
omit A in
def qi:Ab ["net","a","b","found","way","place"] ["net","a","b"]^AK Pt:=by walk_at "s"
def NG:YL P w K mg base:=A.got A.h_way_of λT F m b=>have c:=C6 A;DD F qi (λa=>(AH (Ak (i:=3) qi.nd rfl (TW rfl) (cg a c^AA (AI^dv 0)^AA (AI^dv 1) AM))
 (AH (BE (An (EO a) Ft (dv 2) (dv 3)^by with_unfolding_all rfl) (AL^Ad Be) Ap)
 (AH (B9 (i:=4) qi.nd rfl (TW rfl) (BN AO))
 (AH (Ak (i:=5) qi.nd rfl (TW rfl) (dv 2))
 (AH (Hg jS (An J1 Ow (dv 5) Be^Am _) (AH (CN 4 PySem.F.plainAttrs_list PySem.F.slot_list_append PySem.F.type_list_append BA DB (pv 4)^AD (dv 5) AO)
 (AL (Ak (i:=5) qi.nd rfl (TW rfl) (AS AN Ai (B_ a (dv 3)^dv 5) AG)))))
 (AL^Ad (Va rfl (Dl 4) rfl T.Gab rfl T.Gah)))))))) Uh
omit A in
def MF:Ab ["net","thing"] ["net","thing"]^AK HD:=by walk_at "s"
def MP:O5 P w K mg base:=A.got A.h_are_prices λT F m b=>have c:=CC A;have d:=FT A;DD F MF (λa=>(AL^Ad^C2 (cg a c^AA (AI (Ao BL DA rfl T.Gac PySem.boot_len (AU (AS AN Ai (dv 0) AG) Af)))^AA (AI^dv 1) AM)^En (Ao (Do rfl) Lx rfl T.Gag lC (AU (NY [("price":Str)] [s_] (BO^dv 1) (AY (i:=0) (show jb [("price":Str)] by decide +kernel) rfl (TW rfl)) Bs (C2 (cg a d^AA (AI^dv 0) AM)^En^Cg bn fk (dv 0) AG^Am _)^by kernel_rfl) Af)))) K3
omit A in
def Ny:Ab ["net","prices","a","b"] ["net","prices","a","b"]^AK JD:=by walk_at "s"
def Eh:Q2 P w K mg base:=A.got A.h_price_gap λT F m b=>DD F Ny (λa=>(AL^Ad (Ao YE fm rfl T.Gap boot_abs (AU (Ay D4 Fs (AS AN Ai (dv 1)^X6 a (AS AN Ai (dv 0) AG)^AU (dv 2) Af)^AS AN Ai (dv 1)^X6 a (AS AN Ai (dv 0) AG)^AU (dv 3) Af) Af)))) MG
omit A in
def RZ:Ab ["net","thing"] ["net","thing"]^AK NC:=by walk_at "s"
def LL:Vn P w K mg base:=A.got A.h_is_fair λT F m b=>have c:=MP A;have d:=Eh A;DD F RZ (λa=>(AH (BE (Bo^BR^cg a c^AA (AI^dv 0)^AA (AI^dv 1) AM) (AL^Ad CO) Ap)
 (AL^Ad (Ao (Do rfl) Lx rfl T.Gag lC (AU (NY [("net":Str),("thing":Str),("a":Str),("b":Str),("length":Str)] [P3 0,P3 1,s_,s_,s_] (BO^AS AN Ai (dv 0) AG) (B7 rfl (Al (AY (i:=2) (show jb [("net":Str),("thing":Str),("a":Str),("b":Str),("length":Str)] by decide +kernel) rfl (TW rfl))^Al (AY (i:=3) (show jb [("net":Str),("thing":Str),("a":Str),("b":Str),("length":Str)] by decide +kernel) rfl (TW rfl))^Al (AY (i:=4) (show jb [("net":Str),("thing":Str),("a":Str),("b":Str),("length":Str)] by decide +kernel) rfl (TW rfl)) Bj)) Bs (Cg OF UO (cg a d^AA (AI^dv 0)^AA (AI^dv 1)^AA (AI^dv 2)^AA (AI^dv 3) AM) (dv 4)^Am _)^by kernel_rfl) Af))))) P1
omit A in
def ql:Ab ["net","place","most","found"] ["net","place","most"]^AK GI:=by walk_at "s"
def FR:Mh P w K mg base:=A.got A.h_prices_from λT F m b=>have e:=C6 A;DD F ql (λd=>(AH (Ak (i:=3) ql.nd rfl (jy rfl) (cg d e^AA (AI^dv 0)^AA (AI^dv 1) AM))
 (AL^Ad (BB Au Bg rfl T.Gab kX (AU (NY [("most":Str),("found":Str),("other":Str)] [P3 2,P3 3,s_] (BO^AS AN Ai (dv 0) AG) (AY (i:=2) (show jb [("most":Str),("found":Str),("other":Str)] by decide +kernel) rfl (TW rfl)) Bs (UA (An (LI d) Q1 (dv 2) (dv 1)^by with_unfolding_all rfl) (Ao (Iq rfl) Sj rfl T.Gai boot_min (AU (dv 0)^AU (AS AN Ai (B_ d (dv 1)^dv 2) AG) Af))^dv 0)^by kernel_rfl) Af))))) Jn
omit A in
def Nz:Ab ["length","times","number"] ["length","times","number"]^AK JG:=by walk_at "s"
def Ei:Q5 P w K mg base:=A.got A.h_is_within λT F m b=>DD F Nz (λa=>(AL^Ad^Cg OF UO (Ay HU Lw (dv 0)^AS AN Ai (dv 1) AG) (Ay HU Lw (dv 2)^AS AN Ai (dv 1) AG)^Am _)) N_
omit A in
def Jl:Ab ["times","number"] ["times","number"]^AK FD:=by walk_at "s"
def Js:Ly P w K mg base:=A.got A.h_least_beyond λT F m b=>DD F Jl (λa=>(AL^Ad^Ay Aw A8 (Ay HV Dt (Ay HU Lw (dv 1)^AS AN Ai (dv 0) AG)^AS AN Ai (dv 0) AG) AG)) P2
omit A in
def qm:Ab ["net","times","pair","thin","thing","length"] ["net","times","pair","thin","thing"]^AK G8:=by walk_at "s"
def MM:Oz P w K mg base:=A.got A.h_shows_near λT F m b=>have c:=LL A;have d:=Ei A;have e:=D5 A;have g:=Eh A;DD F qm (λa=>(AH (Ak (i:=5) qm.nd rfl (TW rfl) (cg a e^AA (AI^dv 3)^AA (AI^AS AN Ai (dv 2) AG)^AA (AI^AS AN Ai (dv 2) AG)^AA (AI^AS AN Ai (dv 4) AG) AM))
 (AH (BE (DTW.dt^Dk (An FP Jk (dv 5) Be^Am _)^DK^Bo^BR^cg a c^AA (AI^dv 0)^AA (AI^AS AN Ai (dv 4) AG) AM) (AL^Ad CO) Ap)
 (AL^Ad^cg a d^AA (AI^dv 5)^AA (AI^dv 1)^AA (AI^cg a g^AA (AI^dv 0)^AA (AI^AS AN Ai (dv 4) AG)^AA (AI^AS AN Ai (dv 2) AG)^AA (AI^AS AN Ai (dv 2) AG) AM) AM)))) Rc
omit A in
def RY:Ab ["net","thing"] ["net","thing"]^AK NB:=by walk_at "s"
def R0:Vm P w K mg base:=A.got A.h_is_side λT F m b=>have d:=HW A;DD F RY (λc=>(AL^Ad^C2 (ED kit_tuple (dv 1) rfl T.Gaa rfl T.Gab (by decide +kernel))^C2 (Ao (Do rfl) Lx rfl T.Gag lC (AU (NY [("net":Str),("place":Str)] [P3 0,s_] (BO^dv 1) (AY (i:=1) (show jb [("net":Str),("place":Str)] by decide +kernel) rfl (TW rfl)) Bs (Cg (LF c) Hz (dv 1) (AS AN Ai (dv 0) AG)^by with_unfolding_all rfl)^by kernel_rfl) Af))^En^cg c d^AA (AI^dv 1) AM)) Uj
omit A in
def Kg:Ab ["net","pair","side"] ["net","pair","side"]^AK GH:=by walk_at "s"
def LJ:Mg P w K mg base:=A.got A.h_shows_apart λT F m b=>have d:=R0 A;DD F Kg (λc=>(AH (BE (DTW.dt^Dk (Bo^BR^cg c d^AA (AI^dv 0)^AA (AI^dv 2) AM)^Dk (An (IV c) Hz (AS AN Ai (dv 1) AG) (dv 2)^by with_unfolding_all rfl)^DK^An (LF c) Hz (AS AN Ai (dv 1) AG) (dv 2)^by with_unfolding_all rfl) (AL^Ad CO) Ap)
 (AL^Ad (Ao (Do rfl) Lx rfl T.Gag lC (AU (NY [("side":Str),("a":Str),("b":Str),("length":Str)] [P3 2,s_,s_,s_] (BO^AS AN Ai (dv 0) AG) (B7 rfl (Al (AY (i:=1) (show jb [("side":Str),("a":Str),("b":Str),("length":Str)] by decide +kernel) rfl (TW rfl))^Al (AY (i:=2) (show jb [("side":Str),("a":Str),("b":Str),("length":Str)] by decide +kernel) rfl (TW rfl))^Al (AY (i:=3) (show jb [("side":Str),("a":Str),("b":Str),("length":Str)] by decide +kernel) rfl (TW rfl)) Bj)) Bs (Cg (LH c) Q0 (Cg (LF c) Hz (dv 1) (dv 0)^by with_unfolding_all rfl) (Cg (LF c) Hz (dv 2) (dv 0)^by with_unfolding_all rfl)^Am _)^by kernel_rfl) Af))))) Px
omit A in
def Ps:Ab ["net","times","pair","thin","thing"] ["net","times","pair","thin","thing"]^AK Kp:=by walk_at "s"
def P9:Sq P w K mg base:=A.got A.h_is_shown λT F m b=>have c:=CC A;have d:=LJ A;have e:=MM A;DD F Ps (λa=>(AH (BE (DTW.dt^Em (BR^cg a c^AA (AI AG)^AA (AI^dv 4) AM)^El^An (LH a) Q0 (AS AN Ai (dv 4) AG) Ax^Am _) (AL^Ad^cg a e^AA (AI^dv 0)^AA (AI^dv 1)^AA (AI^dv 2)^AA (AI^dv 3)^AA (AI^dv 4) AM) Ap)
 (AL^Ad^C2 (cg a c^AA (AI AG)^AA (AI^dv 4) AM)^C2 (Cg (LH a) Q0 (AS AN Ai (dv 4) AG) Ax^Am _)^En^cg a d^AA (AI^dv 0)^AA (AI^dv 2)^AA (AI^AS AN Ai (dv 4) AG) AM))) N9
omit A in
def qw:Ab ["net","times","pairs","less","thing","a","b","length"] ["net","times","pairs","less","thing"]^AK JJ:=by walk_at "s"
def OJ:Q8 P w K mg base:=A.got A.h_is_needed λT F m b=>have c:=LL A;have d:=CC A;have e:=FT A;have g:=Ei A;have j:=D5 A;have k:=Eh A;DD F qw (λa=>(AH (BE (DTW.dt^Dk (Bo^BR^cg a d^AA (AI AG)^AA (AI^dv 4) AM)^Dk (Bo^BR^cg a e^AA (AI^AS AN Ai (dv 4) AG) AM)^DK^Bo^X0 OF UO (FO a) Jj AG (AS AN Ai (dv 4) AG) (Ao BL DA rfl T.Gac PySem.boot_len (AU (dv 2) Af))) (AL^Ad CO) Ap)
 (AH (Ak (i:=5) qw.nd rfl (TW rfl) (AS AN Ai (AS AN Ai (dv 2)^AS AN Ai (dv 4) AG) AG))
 (AH (Ak (i:=6) qw.nd rfl (TW rfl) (AS AN Ai (AS AN Ai (dv 2)^AS AN Ai (dv 4) AG) AG))
 (AH (Ak (i:=7) qw.nd rfl (TW rfl) (cg a j^AA (AI^dv 0)^AA (AI^dv 5)^AA (AI^dv 6)^AA (AI^AS AN Ai (dv 4) AG) AM))
 (AH (BE (DTW.dt^Dk (An FP Jk (dv 7) Be^Am _)^DK^Bo^BR^cg a c^AA (AI^dv 3)^AA (AI^AS AN Ai (dv 4) AG) AM) (AL^Ad CO) Ap)
 (AL^Ad^SW^cg a g^AA (AI^cg a k^AA (AI^dv 0)^AA (AI^AS AN Ai (dv 4) AG)^AA (AI^dv 5)^AA (AI^dv 6) AM)^AA (AI^dv 1)^AA (AI^dv 7) AM))))))) Pz
omit A in
def N3:Ab ["pairs","thin","paper"] ["pairs","thin","paper"]^AK JK:=by walk_at "s"
def OK:Q9 P w K mg base:=A.got A.h_has_shape λT F m b=>have a:=CC A;DD F N3 (λc=>(AL^Ad^C2 (cg c a^AA (AI AG)^AA (AI^dv 2) AM)^C2 (cg c a^AA (AI (Ao BL DA rfl T.Gac PySem.boot_len (AU (dv 0) Af)))^AA (AI^AS AN Ai (dv 2) AG) AM)^En^cg c a^AA (AI (Ao BL DA rfl T.Gac PySem.boot_len (AU (AS AN Ai (dv 1) AG) Af)))^AA (AI^AS AN Ai (dv 2) AG) AM)) Rg
omit A in
def qz:Ab ["net","times","pairs","thin","paper","number","pair","tie"] ["net","times","pairs","thin","paper"]^AK G_:=by walk_at "s"
def MO:O1 P w K mg base:=A.gotR A.h_lets_pairs (λT F=>have q_:=OK A;have d:=OJ A;have g:=P9 A;have j:=Rz A;have k:=FS A;have m:=Gq A;have GX_NoPaper:=SM A;by
 exact fnX (wb:=λb=>Dq b) F qz (by cbv) (λo A c s H E b q U M l a=>(Io (SR (DTW.dt^Dk (Bo^BR (Bm j (a.mono^by cbv) rfl (AA (AI^dv 0)^AA (AI^dv 3) AM)))^DK^Bo^BR (Bm q_ (a.mono^by cbv) rfl (AA (AI^dv 2)^AA (AI^dv 3)^AA (AI^dv 4) AM))) (EU^Gy LB l (λ_ h=>h) (Im GX_NoPaper (a.mono^by cbv) rfl (AD Ax^AD AG AO)))^OZ Ap)
 (Io (T9 (λ_ _ h=>h) Tg rfl (Od rfl T.Gae (dv 2)) (B7 rfl (Al (AY (i:=5) qz.nd rfl (TW rfl))^Al (AY (i:=6) qz.nd rfl (TW rfl)) Bj)) (EU^SR (Bo^BR (Bm g (a.mono^by cbv) rfl (AA (AI^dv 0)^AA (AI^dv 1)^AA (AI^dv 6)^AA (AI^dv 3)^AA (AI^AS AN Ai (AS AN Ai (dv 4) AG)^dv 5) AM))) (EU^Gy LB l (λ_ h=>h) (Im GX_NoPaper (a.mono^by cbv) rfl (AD Ax^AD (dv 5) AO)))^OZ Ap))
 (Io (T9 (λ_ _ h=>h) Tg rfl (Od rfl T.Gae (Bm k (a.mono^by cbv) rfl (AA (AI^AS AN Ai (dv 3) AG) AM))) (B7 rfl (Al (AY (i:=5) qz.nd rfl (TW rfl))^Al (AY (i:=7) qz.nd rfl (TW rfl)) Bj)) (EU^SR (Bo^BR (Bm d (a.mono^by cbv) rfl (AA (AI^dv 0)^AA (AI^dv 1)^AA (AI^dv 2)^AA (AI (Bm m (a.mono^by cbv) rfl (AA (AI^dv 3)^AA (AI^BN^AD (dv 7) AO) AM)))^AA (AI^AS AN Ai (AS AN Ai (dv 4) AG)^dv 5) AM))) (EU^Gy LB l (λ_ h=>h) (Im GX_NoPaper (a.mono^by cbv) rfl (AD Ax^AD (dv 5) AO)))^OZ Ap))
 (EU^cM^Ad CO))))) λr n t b u p=>Ur p) (λ_ _ _ _ h=>by let#[_,_,_,_,_,_,e,_]:=h;rw[e];rfl)
omit A in
def ME:Ab ["net","pairs"] ["net","pairs"]^AK HA:=by walk_at "s"
def GQ:O2 P w K mg base:=A.got A.h_lengths_of λT F m b=>have a:=R6 A;DD F ME (λc=>(AL^Ad^DE.sh^NY [("net":Str),("a":Str),("b":Str)] [P3 0,s_,s_] (BO^dv 1) (B7 rfl (Al (AY (i:=1) (show jb [("net":Str),("a":Str),("b":Str)] by decide +kernel) rfl (TW rfl))^Al (AY (i:=2) (show jb [("net":Str),("a":Str),("b":Str)] by decide +kernel) rfl (TW rfl)) Bj)) Bs (cg c a^AA (AI^dv 0)^AA (AI^dv 1)^AA (AI^dv 2) AM)^by kernel_rfl)) Jo
omit A in
def rG:Ab ["times","pairs","lengths","thin","number","length","by_thin"] ["times","pairs","lengths","thin"]^AK HC:=by walk_at "s"
def GR:O4 P w K mg base:=A.got A.h_first_lost λT F m b=>have c:=R6 A;have d:=Ei A;DD F rG (λa=>(AH (B6 jS rfl (Od rfl T.Gae (dv 2)) (B7 rfl (Al (AY (i:=4) rG.nd rfl (TW rfl))^Al (AY (i:=5) rG.nd rfl (TW rfl)) Bj)) (AL (BE (An J1 Ow (dv 5) Be^Am _) (AH (Ak (i:=6) rG.nd rfl (TW rfl) (cg a c^AA (AI^dv 3)^AA (AI^AS AN Ai (AS AN Ai (dv 1)^dv 4) AG)^AA (AI^AS AN Ai (AS AN Ai (dv 1)^dv 4) AG) AM))
 (AL^BE (DTW.dt^Dk (An FP Jk (dv 6) Be^Am _)^DK^Bo^BR^cg a d^AA (AI^dv 6)^AA (AI^dv 0)^AA (AI^dv 5) AM) (AL^Ad^dv 4) Ap)) Ap)))
 (AL^Ad Be))) Jr
omit A in
def rH:Ab ["net","times","pairs","lengths","thin","tie","less"] ["net","times","pairs"]^AK DM:=by walk_at "s"
def FQ:GD P w K mg base:=A.got A.h_thinned_for_pairs λT F m b=>have c:=GR A;have d:=GQ A;have e:=Tl A;have g:=FS A;have j:=Gq A;DD F rH (λa=>(AH (Ak (i:=3) rH.nd rfl (TW rfl) (cg a d^AA (AI^dv 0)^AA (AI^dv 2) AM))
 (AH (Ak (i:=4) rH.nd rfl (TW rfl) (cg a e^AA (AI^dv 0)^AA (C_^AS AN Ai (dv 0) AG) AM))
 (AH (B6 jS rfl (cQ rfl T.Gah (cg a g^AA (AI^AS AN Ai (dv 0) AG) AM)) (AY (i:=5) rH.nd rfl (TW rfl)) (AH (Ak (i:=6) rH.nd rfl (TW rfl) (cg a j^AA (AI^dv 4)^AA (AI^BN^AD (dv 5) AO) AM))
 (AL^BE (An FP Jk (cg a c^AA (AI^dv 1)^AA (AI^dv 2)^AA (AI^dv 3)^AA (AI^dv 6) AM) Be^Am _) (AL (Ak (i:=4) rH.nd rfl (TW rfl) (dv 6))) Ap)))
 (AL^Ad^dv 4))))) Wd
omit A in
def rL:Ab ["net","thin","a","b","length"] ["net","thin","a","b"]^AK Kk:=by walk_at "s"
def P8:Sl P w K mg base:=A.got A.h_shown_of λT F m b=>have c:=R6 A;have d:=C6 A;have e:=FR A;have g:=NG A;DD F rL (λa=>(AH (Ak (i:=4) rL.nd rfl (TW rfl) (cg a c^AA (AI^dv 0)^AA (AI^dv 2)^AA (AI^dv 3) AM))
 (AH (BE (An FP Jk (dv 4) Be^Am _) (AL^Ad^Ar^AD Ax^AD (BB Au Bg rfl T.Gab kX (AU (Ao (Lq rfl) UM rfl T.Gad lw (AU (cg a d^AA (AI^dv 0)^AA (AI^dv 2) AM) Af)) Af)) AO) Ap)
 (AL^Ad^Ar^AD Ax^AD (cg a g^AA (AI^dv 1)^AA (AI^dv 2)^AA (AI^dv 3) AM)^AD (cg a e^AA (AI^dv 0)^AA (AI^dv 2)^AA (AI^dv 4) AM) AO)))) Rf
omit A in
def rO:Ab ["net","times","pairs","lengths","less","number","a","b"] ["net","times","pairs","lengths","less"]^AK JE:=by walk_at "s"
def OG:Q3 P w K mg base:=A.got A.h_needed_of λT F m b=>have c:=GR A;have d:=Js A;have e:=FR A;have g:=NG A;DD F rO (λa=>(AH (Ak (i:=5) rO.nd rfl (TW rfl) (cg a c^AA (AI^dv 1)^AA (AI^dv 2)^AA (AI^dv 3)^AA (AI^dv 4) AM))
 (AH (Ak (i:=6) rO.nd rfl (TW rfl) (AS AN Ai (AS AN Ai (dv 2)^dv 5) AG))
 (AH (Ak (i:=7) rO.nd rfl (TW rfl) (AS AN Ai (AS AN Ai (dv 2)^dv 5) AG))
 (AL^Ad^Ar^AD (dv 5)^AD (cg a g^AA (AI^dv 0)^AA (AI^dv 6)^AA (AI^dv 7) AM)^AD (cg a e^AA (AI^dv 4)^AA (AI^dv 6)^AA (AI^cg a d^AA (AI^dv 1)^AA (AI^AS AN Ai (dv 3)^dv 5) AM) AM) AO))))) Uo
omit A in
def rQ:Ab ["net","times","pairs","thin","lengths","shown","needed"] ["net","times","pairs"]^AK GJ:=by walk_at "s"
def LK:Mi P w K mg base:=A.got A.h_pairs_paper λT F m b=>have c:=GQ A;have d:=OG A;have e:=FS A;have g:=P8 A;have j:=FQ A;have k:=Gq A;DD F rQ (λa=>(AH (Ak (i:=3) rQ.nd rfl (jy rfl) (cg a j^AA (AI^dv 0)^AA (AI^dv 1)^AA (AI^dv 2) AM))
 (AH (Ak (i:=4) rQ.nd rfl (jy rfl) (cg a c^AA (AI^dv 0)^AA (AI^dv 2) AM))
 (AH (Hi (i:=5) rQ.nd rfl (TW rfl) rfl [("net":Str),("thin":Str),("a":Str),("b":Str)] [P3 0,P3 3,s_,s_] (BO^dv 2) (λ_ _ _ _ _=>(B7 rfl (Al (AY (i:=2) (show jb [("net":Str),("thin":Str),("a":Str),("b":Str)] by decide +kernel) rfl (TW rfl))^Al (AY (i:=3) (show jb [("net":Str),("thin":Str),("a":Str),("b":Str)] by decide +kernel) rfl (TW rfl)) Bj))) (λ_ _ _ _ _=>Bs) (λ_ _ _ _ _=>(cg a g^AA (AI^dv 0)^AA (AI^dv 1)^AA (AI^dv 2)^AA (AI^dv 3) AM)) (by kernel_rfl))
 (AH (Hi (i:=6) rQ.nd rfl (TW rfl) rfl [("net":Str),("times":Str),("pairs":Str),("lengths":Str),("thin":Str),("tie":Str)] [P3 0,P3 1,P3 2,P3 4,P3 3,s_] (BO^cg a e^AA (AI^AS AN Ai (dv 3) AG) AM) (λ_ _ _ _ _=>(AY (i:=5) (show jb [("net":Str),("times":Str),("pairs":Str),("lengths":Str),("thin":Str),("tie":Str)] by decide +kernel) rfl (TW rfl))) (λ_ _ _ _ _=>Bs) (λ_ _ _ _ _=>(cg a d^AA (AI^dv 0)^AA (AI^dv 1)^AA (AI^dv 2)^AA (AI^dv 3)^AA (AI^cg a k^AA (AI^dv 4)^AA (AI^BN^AD (dv 5) AO) AM) AM)) (by kernel_rfl))
 (AL^Ad^Ar^AD (BB Au Bg rfl T.Gab kX (AU (dv 5) Af))^AD (BB Au Bg rfl T.Gab kX (AU (dv 6) Af)) AO)))))) Ri
def Bh:RB P w K mg base:=A.got A.h__law_next λT F _ _=>ZH F T.Gac
omit A in
def rV:Ab ["_law_feed_here","_law_many","_law_some_here","_law_first"] ["_law_feed_here","_law_many"]^AK HI:=by walk_at "s"
def MS:O_ P w K mg base:=A.got A.h__law_names λT F m b=>have a:=Bh A;DD F rV (λd=>(AH (Ak (i:=2) rV.nd rfl (jy rfl) (BN^AD Ax^AD Ax^AD Ax^AD Ax^AD Ax^AD Ax^AD Ax^AD Ax^AD Ax^AD Ax^AD Ax^AD Ax AO))
 (AH (Ak (i:=2) rV.nd rfl (jy rfl) (Ay Aw A8 (dv 2)^BN^AD Ax^AD Ax^AD Ax^AD Ax^AD Ax^AD Ax^AD Ax^AD Ax^AD Ax^AD Ax^AD Ax^AD Ax AO))
 (AH (Ak (i:=3) rV.nd rfl (jy rfl) (cg d a^AA (BU 0)^AA (AI AG) AM))
 (AL^Ad (BB Au Bg rfl T.Gab kX (AU (Ao Sb Zv rfl T.Gad lw (AU (NY [("_law_some_here":Str),("_law_first":Str),("_law_k":Str)] [P3 2,P3 3,s_] (DI.c (EV rfl T.Gaf (AU (dv 1) Af))) (AY (i:=2) (show jb [("_law_some_here":Str),("_law_first":Str),("_law_k":Str)] by decide +kernel) rfl (TW rfl)) Bs (AS AN Ai (dv 0)^Ay FN Dt (Ay Aw A8 (dv 1)^dv 2) AG)^by kernel_rfl) Af)) Af))))))) Ky
omit A in
def Kj:Ab ["_law_feed_here","_law_way_here"] ["_law_feed_here","_law_way_here"]^AK GP:=by walk_at "s"
def LP:Mo P w K mg base:=A.got A.h__law_length λT F m b=>have c:=Bh A;DD F Kj (λa=>(AH (BE (An (FO a) Jj (dv 1) AG^Am _) (AL^Ad^Ay Aw A8 AG^cg a c^AA (BU 0)^AA (AI^AS AN Ai (BN^AD AG^AD AG^AD AG AO)^dv 1) AM) Ap)
 (AH (BE (An Et Jw (dv 1) AG^Am _) (AL^Ad^Ay Aw A8 AG^cg a c^AA (BU 0)^AA (AI AG) AM) Ap)
 (AL^Ad^Ay D4 Fs (Ay FL Dt AG AG)^cg a c^AA (BU 0)^AA (AI AG) AM)))) Jq
omit A in
def rX:Ab ["_law_feed_here","_law_most","_law_ties","_law_places","_law_free","_law_a","_law_way_here","_law_many","_law_found","_law_k","_law_b"] ["_law_feed_here","_law_most","_law_ties"]^AK Ks:=by walk_at "s"
def QB:Su P w K mg base:=A.got A.h__law_net λT F m b=>have d:=LP A;have e:=MS A;have c:=Bh A;DD F rX (λa=>(AH (Ak (i:=3) rX.nd rfl (TW rfl) (cg a e^AA (BU 0)^AA (AI^Ay Aw A8 AG^cg a c^AA (BU 0)^AA (AI^Ay D4 Fs (dv 1) AG) AM) AM))
 (AH (B9 (i:=4) rX.nd rfl (TW rfl) (BN AO))
 (AH (B6 jS rfl (Dn^dv 3) (AY (i:=5) rX.nd rfl (jy rfl)) (AL^CN 4 PySem.F.plainAttrs_list PySem.F.slot_list_extend PySem.F.type_list_extend NJ aU (pv 4)^AD (NY [("_law_a":Str),("_law_b":Str)] [P3 5,s_] (BO^dv 3) (AY (i:=1) (show jb [("_law_a":Str),("_law_b":Str)] by decide +kernel) rfl (TW rfl)) (DV^An (FO a) Jj (dv 0) (dv 1)^Am _) (Ar^AD (dv 0)^AD (dv 1) AO)^by kernel_rfl) AO))
 (AH (Ak (i:=6) rX.nd rfl (TW rfl) (cg a c^AA (BU 0)^AA (AI AG) AM))
 (AH (Ak (i:=7) rX.nd rfl (TW rfl) (Ay D4 Fs (dv 2)^cg a c^AA (BU 0)^AA (AI^Ay Aw A8 (Ay HV Dt (dv 2) AG) AG) AM))
 (AH (BE (An Et Jw (cg a c^AA (BU 0)^AA (AI AG) AM) AG^Am _) (AL (Ak (i:=7) rX.nd rfl (TW rfl) (cg a c^AA (BU 0)^AA (AI AG) AM))) Ap)
 (AH (B9 (i:=8) rX.nd rfl (TW rfl) (BN AO))
 (AH (B6 jS rfl (EV rfl T.Gaf (AU (Ao (Iq rfl) Sj rfl T.Gai boot_min (AU (dv 7)^AU (Ao BL DA rfl T.Gac PySem.boot_len (AU (Dl 4) Af)) Af)) Af)) (AY (i:=9) rX.nd rfl (TW rfl)) (AH (Zi (i:=4) (pv 4) (cg a c^AA (BU 0)^AA (AI (Ao BL DA rfl T.Gac PySem.boot_len (AU (Dl 4) Af))) AM) (B7 rfl (Al (AY (i:=5) rX.nd rfl (jy rfl))^Al (AY (i:=10) rX.nd rfl (TW rfl)) Bj)))
 (AL^CN 8 PySem.F.plainAttrs_list PySem.F.slot_list_append PySem.F.type_list_append BA DB (pv 8)^AD (Ar^AD (dv 5)^AD (dv 10)^AD (cg a d^AA (BU 0)^AA (AI^dv 6) AM) AO) AO)))
 (AL^Ad^Ar^AD (dv 3)^AD (BB Au Bg rfl T.Gab kX (AU (Ao C3 F7 rfl T.Gad lw (AU (Dl 8) Af)) Af)) AO)))))))))) N8
omit A in
def re:Ab ["_law_ties","_law_some_here"] ["_law_ties"]^AK HH:=by walk_at "s"
def GU:O9 P w K mg base:=A.got A.h__law_order λT F m b=>DD F re (λa=>(AH (Ak (i:=1) re.nd rfl (TW rfl) (Ao C3 F7 rfl T.Gad lw (AU (NY [("_law_tie":Str)] [s_] (BO^dv 0) (AY (i:=0) (show jb [("_law_tie":Str)] by decide +kernel) rfl (TW rfl)) Bs (Ar^AD (AS AN Ai (dv 0) AG)^AD (AS AN Ai (dv 0) AG)^AD (AS AN Ai (dv 0) AG) AO)^by kernel_rfl) Af)))
 (AL^Ad^NY [("_law_length_here":Str),("_law_a":Str),("_law_b":Str)] [s_,s_,s_] (BO^dv 1) (B7 rfl (Al (AY (i:=0) (show jb [("_law_length_here":Str),("_law_a":Str),("_law_b":Str)] by decide +kernel) rfl (TW rfl))^Al (AY (i:=1) (show jb [("_law_length_here":Str),("_law_a":Str),("_law_b":Str)] by decide +kernel) rfl (TW rfl))^Al (AY (i:=2) (show jb [("_law_length_here":Str),("_law_a":Str),("_law_b":Str)] by decide +kernel) rfl (TW rfl)) Bj)) Bs (Ar^AD (dv 1)^AD (dv 2)^AD (dv 0) AO)^by kernel_rfl))) Kx
omit A in
def rf:Ab ["_law_ties","_law_place","_law_known","_law_grew","_law_a","_law_b","_law_length_here","_law_one","_law_other"] ["_law_ties","_law_place"]^AK FF:=by walk_at "s"
def CQ:L1 P w K mg base:=A.got A.h__law_lengths λT F m b=>DD F rf (λc=>(AH (B9 (i:=2) rf.nd rfl (TW rfl) (Qb (dv 1) AG))
 (AH (Ak (i:=3) rf.nd rfl (TW rfl) CO)
 (AH (Hg jS (BR^dv 3) (AH (Ak (i:=3) rf.nd rfl (TW rfl) CO)
 (AL (Oa jS rfl (pv 0) (B7 rfl (Al (AY (i:=4) rf.nd rfl (TW rfl))^Al (AY (i:=5) rf.nd rfl (TW rfl))^Al (AY (i:=6) rf.nd rfl (TW rfl)) Bj)) (AL (B6 jS rfl (Dn^BN^AD (Ar^AD (dv 4)^AD (dv 5) AO)^AD (Ar^AD (dv 5)^AD (dv 4) AO) AO) (B7 rfl (Al (AY (i:=7) rf.nd rfl (TW rfl))^Al (AY (i:=8) rf.nd rfl (TW rfl)) Bj)) (AL (BE (DTW.dt^Em (An (LI c) Q1 (dv 7) (Dl 2)^by with_unfolding_all rfl)^El^An (FO c) Jj (Ay Aw A8 (B_ c (Dl 2)^dv 7)^dv 6) (UB c (Dl 2) (dv 8)^Ay FL Dt AG AG)^Am _) (AH (Ob (i:=2) c (pv 2) (dv 8)^Ay Aw A8 (B_ c (Dl 2)^dv 7)^dv 6)
 (AL (Ak (i:=3) rf.nd rfl (TW rfl) CO))) Ap))))))))
 (AL^J8 2^pv 2))))) IT
omit A in
def rg:Ab ["_law_feed_here","_law_some_here"] ["_law_feed_here"]^AK HE:=by walk_at "s"
def GS:O6 P w K mg base:=A.got A.h__law_times λT F m b=>have a:=Bh A;DD F rg (λc=>(AH (Ak (i:=1) rg.nd rfl (TW rfl) (BN^AD (Ar^AD AG^AD AG AO)^AD (Ar^AD AG^AD AG AO)^AD (Ar^AD AG^AD AG AO)^AD (Ar^AD AG^AD AG AO)^AD (Ar^AD AG^AD AG AO)^AD (Ar^AD AG^AD AG AO)^AD (Ar^AD (Ay FL Dt AG AG)^AD AG AO)^AD (Ar^AD AG^AD AG AO)^AD (Ar^AD AG^AD AG AO) AO))
 (AL^Ad^AS AN Ai (dv 1)^cg c a^AA (BU 0)^AA (AI AG) AM))) Kv
omit A in
def Ki:Ab ["_law_length_here","_law_times_here","_law_number"] ["_law_length_here","_law_times_here","_law_number"]^AK GL:=by walk_at "s"
def LM:Ml P w K mg base:=A.got A.h__law_within λT F m b=>DD F Ki (λa=>(AL^Ad^Cg OF UO (Ay HU Lw (dv 0)^AS AN Ai (dv 1) AG) (Ay HU Lw (dv 2)^AS AN Ai (dv 1) AG)^Am _)) Jp
omit A in
def rh:Ab ["_law_ties","_law_a","_law_b","_law_known","_law_way_here","_law_one","_law_other","_law_length_here","_law_near"] ["_law_ties","_law_a","_law_b"]^AK Kq:=by walk_at "s"
def P_:Sr P w K mg base:=A.got A.h__law_way λT F m b=>have d:=CQ A;DD F rh (λc=>(AH (Ak (i:=3) rh.nd rfl (TW rfl) (cg c d^AA (C_^Dl 0)^AA (AI^dv 1) AM))
 (AH (BE (An (EO c) Ft (dv 2) (dv 3)^by with_unfolding_all rfl) (AL^Ad Be) Ap)
 (AH (B9 (i:=4) rh.nd rfl (TW rfl) (BN^AD (dv 2) AO))
 (AH (Hg jS (An XH cf (AS AN Ai (Dl 4) AG) (dv 1)^Am _) (AL (Oa jS rfl (pv 0) (B7 rfl (Al (AY (i:=5) rh.nd rfl (TW rfl))^Al (AY (i:=6) rh.nd rfl (TW rfl))^Al (AY (i:=7) rh.nd rfl (TW rfl)) Bj)) (AH (Ak (i:=8) rh.nd rfl (TW rfl) (UA (An Et Jw (dv 5) (AS AN Ai (Dl 4) AG)^Am _) (dv 6)^UA (An Et Jw (dv 6) (AS AN Ai (Dl 4) AG)^Am _) (dv 5) Be))
 (AL (BE (DTW.dt^Em (An J1 Ow (dv 8) Be^Am _)^Em (An (LI c) Q1 (dv 8) (dv 3)^by with_unfolding_all rfl)^El^An Et Jw (Ay Aw A8 (B_ c (dv 3)^dv 8)^dv 7) (B_ c (dv 3)^AS AN Ai (Dl 4) AG)^Am _) (AH (CN 4 PySem.F.plainAttrs_list PySem.F.slot_list_insert PySem.F.type_list_insert NI aT (pv 4)^AD AG^AD (dv 8) AO)
 (AL X2)) Ap))))))
 (AL^Ad (BB Au Bg rfl T.Gab kX (AU (Dl 4) Af)))))))) Uq
omit A in
def rl:Ab ["_law_e","_law_some_here"] ["_law_e"]^AK FE:=by walk_at "s"
def Jt:Lz P w K mg base:=A.gotH A.h__law_refused λT F=>by
 let#[C_NoLine,U_NoLine,j,k]:=T.x_NoLine;let#[C_NoPaper,U_NoPaper,a,b]:=T.x_NoPaper;let#[C_NoPlace,U_NoPlace,c,d]:=T.x_NoPlace;let#[C_NoRow,U_NoRow,l,m]:=T.x_NoRow;let#[C_NoTie,U_NoTie,o,p]:=T.x_NoTie;let#[C_TooMany,U_TooMany,e,g]:=T.x_TooMany;let#[C_Twice,U_Twice,q,r]:=T.x_Twice;exact hU F rl (by cbv) (λu A t s H E v y=>(AH (Ak (i:=1) rl.nd rfl (TW rfl) (BN^AD (G0 (i:=0) (by cbv) e rfl g rfl T.Gaa)^AD (G0 (i:=0) (by cbv) q rfl r rfl T.Gaa)^AD (G0 (i:=0) (by cbv) c rfl d rfl T.Gaa)^AD (G0 (i:=0) (by cbv) o rfl p rfl T.Gaa) AO))
 (AH (Ak (i:=1) rl.nd rfl (TW rfl) (Ay Aw A8 (dv 1)^BN^AD (G0 (i:=0) (by cbv) j rfl k rfl T.Gaa)^AD (G0 (i:=0) (by cbv) l rfl m rfl T.Gaa)^AD (SW (Zn (i:=0) rfl T.Gaj rfl T.Gaa)) AO))
 (AH (BE (DTW.dt^Dk (An (ZE v) Hz CO (dv 1)^by with_unfolding_all rfl)^DK^Bo^BR (G0 (i:=0) (by cbv) a rfl b rfl T.Gaa)) (AL^Ad Ax) Ap)
 (AL^Ad^Ar^AD (aP (i:=0)^by cbv)^AD (aP (i:=0)^by cbv) AO))))) (λz n B C x=>We x)
omit A in
def rm:Ab ["_law_feed_here","_law_places","_law_most","_law_free","_law_a","_law_found","_law_k"] ["_law_feed_here","_law_places","_law_most"]^AK HG:=by walk_at "s"
def MR:O8 P w K mg base:=A.got A.h__law_pairs λT F m b=>have c:=Bh A;DD F rm (λa=>(AH (B9 (i:=3) rm.nd rfl (TW rfl) (BN AO))
 (AH (B6 jS rfl (Dn^dv 1) (AY (i:=4) rm.nd rfl (jy rfl)) (AL^CN 3 PySem.F.plainAttrs_list PySem.F.slot_list_extend PySem.F.type_list_extend NJ aU (pv 3)^AD (NY [("_law_a":Str),("_law_b":Str)] [P3 4,s_] (BO^dv 1) (AY (i:=1) (show jb [("_law_a":Str),("_law_b":Str)] by decide +kernel) rfl (TW rfl)) (DV^An (FO a) Jj (dv 0) (dv 1)^Am _) (Ar^AD (dv 0)^AD (dv 1) AO)^by kernel_rfl) AO))
 (AH (B9 (i:=5) rm.nd rfl (TW rfl) (BN AO))
 (AH (B6 jS rfl (EV rfl T.Gaf (AU (Ao (Iq rfl) Sj rfl T.Gai boot_min (AU (cg a c^AA (BU 0)^AA (AI^Ay Aw A8 (dv 2) AG) AM)^AU (Ao BL DA rfl T.Gac PySem.boot_len (AU (Dl 3) Af)) Af)) Af)) (AY (i:=6) rm.nd rfl (TW rfl)) (AL^VY (j:=5) (i:=3) (pv 5) (pv 3)^cg a c^AA (BU 0)^AA (AI (Ao BL DA rfl T.Gac PySem.boot_len (AU (Dl 3) Af))) AM))
 (AL^Ad (BB Au Bg rfl T.Gab kX (AU (Ao C3 F7 rfl T.Gad lw (AU (Dl 5) Af)) Af)))))))) Kw
omit A in
def rn:Ab ["_law_net_here","_law_times_here","_law_pairs_here","_law_ties","_law_a","_law_b","_law_length_here","_law_own"] ["_law_net_here","_law_times_here","_law_pairs_here","_law_ties"]^AK HJ:=by walk_at "s"
def D9:PB P w K mg base:=A.got A.h__law_keeps λT F m b=>have c:=CQ A;have d:=LM A;DD F rn (λa=>(AH (B6 jS rfl (Dn^dv 2) (B7 rfl (Al (AY (i:=4) rn.nd rfl (TW rfl))^Al (AY (i:=5) rn.nd rfl (TW rfl)) Bj)) (AH (Ak (i:=6) rn.nd rfl (TW rfl) (UC a (cg a c^AA (C_^AS AN Ai (dv 0) AG)^AA (AI^dv 4) AM)^dv 5))
 (AL (BE (An J1 Ow (dv 6) Be^Am _) (AH (Ak (i:=7) rn.nd rfl (TW rfl) (UC a (cg a c^AA (C_^dv 3)^AA (AI^dv 4) AM)^dv 5))
 (AL^BE (DTW.dt^Dk (An FP Jk (dv 7) Be^Am _)^DK^Bo^BR^cg a d^AA (AI^dv 7)^AA (AI^dv 1)^AA (AI^dv 6) AM) (AL^Ad CO) Ap)) Ap))))
 (AL^Ad CO))) Kz
omit A in
def rq:Ab ["_law_net_here","_law_times_here","_law_pairs_here","_law_order_here","_law_kept","_law_tie","_law_rest"] ["_law_net_here","_law_times_here","_law_pairs_here","_law_order_here"]^AK JL:=by walk_at "s"
def OL:Q_ P w K mg base:=A.got A.h__law_stay λT F m b=>have c:=D9 A;DD F rq (λa=>(AH (Ak (i:=4) rq.nd rfl (TW rfl) (BB Eo UN rfl T.Gak boot_list (AU (AS AN Ai (dv 0) AG) Af)))
 (AH (Oa jS rfl (pv 3) (AY (i:=5) rq.nd rfl (jy rfl)) (AH (Hi (i:=6) rq.nd rfl (TW rfl) rfl [("_law_tie":Str),("_law_one":Str)] [P3 5,s_] (BO^dv 4) (λ_ _ _ _ _=>(AY (i:=1) (show jb [("_law_tie":Str),("_law_one":Str)] by decide +kernel) rfl (TW rfl))) (λ_ _ _ _ _=>(DV^An (LD a) Qy (dv 1) (dv 0)^Am _)) (λ_ _ _ _ _=>(dv 1)) (by kernel_rfl))
 (AL^BE (BR^cg a c^AA (AI^dv 0)^AA (AI^dv 1)^AA (AI^dv 2)^AA (AI^dv 6) AM) (AL (Ak (i:=4) rq.nd rfl (TW rfl) (dv 6))) Ap)))
 (AL^Ad^Ar^AD (AS AN Ai (dv 0) AG)^AD (BB Au Bg rfl T.Gab kX (AU (Ao C3 F7 rfl T.Gad lw (AU (dv 4) Af)) Af)) AO)))) Ui
omit A in
def r9:Ab ["_law_net_here","_law_ties","_law_a","_law_number","_law_known"] ["_law_net_here","_law_ties","_law_a","_law_number"]^AK GN:=by walk_at "s"
def LN:Mm P w K mg base:=A.got A.h__law_prices λT F m b=>have c:=CQ A;DD F r9 (λa=>(AH (Ak (i:=4) r9.nd rfl (jy rfl) (cg a c^AA (C_^Dl 1)^AA (AI^dv 2) AM))
 (AL^Ad (BB Au Bg rfl T.Gab kX (AU (NY [("_law_number":Str),("_law_known":Str),("_law_one":Str)] [P3 3,P3 4,s_] (BO^AS AN Ai (dv 0) AG) (AY (i:=2) (show jb [("_law_number":Str),("_law_known":Str),("_law_one":Str)] by decide +kernel) rfl (TW rfl)) Bs (UB a (dv 1) (dv 2)^dv 0)^by kernel_rfl) Af))))) Wg
omit A in
def r_:Ab ["_law_net_here","_law_times_here","_law_pairs_here","_law_thin","_law_rows","_law_a","_law_b","_law_known","_law_needed","_law_tie","_law_rest","_law_lost"] ["_law_net_here","_law_times_here","_law_pairs_here","_law_thin"]^AK EM:=by walk_at "s"
def HY:Iv P w K mg base:=A.got A.h__law_own_paper λT F m b=>have n:=D9 A;have o:=CQ A;have p:=GU A;have g:=LN A;have j:=P_ A;DD F r_ (λd=>(AH (B9 (i:=4) r_.nd rfl (TW rfl) (BN AO))
 (AH (B6 jS rfl (Dn^dv 2) (B7 rfl (Al (AY (i:=5) r_.nd rfl (TW rfl))^Al (AY (i:=6) r_.nd rfl (TW rfl)) Bj)) (AH (Ak (i:=7) r_.nd rfl (TW rfl) (cg d o^AA (C_^AS AN Ai (dv 0) AG)^AA (AI^dv 5) AM))
 (AL^BE (An (LI d) Q1 (dv 6) (dv 7)^by with_unfolding_all rfl) (AL^CN 4 PySem.F.plainAttrs_list PySem.F.slot_list_append PySem.F.type_list_append BA DB (pv 4)^AD (Ar^AD Ax^AD (cg d j^AA (C_^AS AN Ai (dv 3) AG)^AA (AI^dv 5)^AA (AI^dv 6) AM)^AD (cg d g^AA (AI^dv 0)^AA (C_^AS AN Ai (dv 0) AG)^AA (AI^dv 5)^AA (AI^Ay FL Dt AG AG) AM) AO) AO)^AL^CN 4 PySem.F.plainAttrs_list PySem.F.slot_list_append PySem.F.type_list_append BA DB (pv 4)^AD (Ar^AD Ax^AD (BB Au Bg rfl T.Gab kX (AU (Ao (Lq rfl) UM rfl T.Gad lw (AU (dv 7) Af)) Af)) AO) AO)))
 (AH (B9 (i:=8) r_.nd rfl (TW rfl) (BN AO))
 (AH (B6 jS rfl (Dn^cg d p^AA (AI^AS AN Ai (dv 3) AG) AM) (AY (i:=9) r_.nd rfl (jy rfl)) (AH (Ak (i:=10) r_.nd rfl (jy rfl) (NY [("_law_tie":Str),("_law_one":Str)] [P3 9,s_] (BO^AS AN Ai (dv 3) AG) (AY (i:=1) (show jb [("_law_tie":Str),("_law_one":Str)] by decide +kernel) rfl (TW rfl)) (DV^An (LD d) Qy (dv 1) (dv 0)^Am _) (dv 1)^by kernel_rfl))
 (AH (Hi (i:=11) r_.nd rfl (TW rfl) rfl [("_law_net_here":Str),("_law_times_here":Str),("_law_rest":Str),("_law_pairs_here":Str),("_law_k":Str)] [P3 0,P3 1,P3 10,P3 2,s_] (DI.c (EV rfl T.Gaf (AU (Ao BL DA rfl T.Gac PySem.boot_len (AU (dv 2) Af)) Af))) (λ_ _ _ _ _=>(AY (i:=4) (show jb [("_law_net_here":Str),("_law_times_here":Str),("_law_rest":Str),("_law_pairs_here":Str),("_law_k":Str)] by decide +kernel) rfl (TW rfl))) (λ_ _ _ _ _=>(DV^Bo^BR^cg d n^AA (AI^dv 0)^AA (AI^dv 1)^AA (AI^Cp E7 Cr (dv 3) (Bb^dv 4)^Bb^Ay Aw A8 (dv 4) AG)^AA (AI^dv 2) AM)) (λ_ _ _ _ _=>(dv 4)) (by kernel_rfl))
 (AH (cO (AS AN Ai (dv 2)^AS AN Ai (dv 11)^Fa AG) (B7 rfl (Al (AY (i:=5) r_.nd rfl (TW rfl))^Al (AY (i:=6) r_.nd rfl (TW rfl)) Bj)))
 (AL^CN 8 PySem.F.plainAttrs_list PySem.F.slot_list_append PySem.F.type_list_append BA DB (pv 8)^AD (Ar^AD (AS AN Ai (dv 11)^Fa AG)^AD (cg d j^AA (C_^AS AN Ai (dv 0) AG)^AA (AI^dv 5)^AA (AI^dv 6) AM)^AD (cg d g^AA (AI^dv 0)^AA (C_^dv 10)^AA (AI^dv 5)^AA (AI^Ay FL Dt AG AG) AM) AO) AO)))))
 (AL^Ad^Ar^AD (BB Au Bg rfl T.Gab kX (AU (Dl 4) Af))^AD (BB Au Bg rfl T.Gab kX (AU (Dl 8) Af)) AO)))))) Ul
omit A in
def sD:Ab ["_law_feed_here","_law_ties","_law_share"] ["_law_feed_here","_law_ties"]^AK JM:=by walk_at "s"
def OM:RA P w K mg base:=A.got A.h__law_some λT F m b=>have a:=Bh A;DD F sD (λc=>(AH (Ak (i:=2) sD.nd rfl (jy rfl) (Ay Aw A8 AG^cg c a^AA (BU 0)^AA (AI AG) AM))
 (AL^Ad (BB Au Bg rfl T.Gab kX (AU (NY [("_law_feed_here":Str),("_law_share":Str),("_law_tie":Str)] [P3 0,P3 2,s_] (BO^dv 1) (AY (i:=2) (show jb [("_law_feed_here":Str),("_law_share":Str),("_law_tie":Str)] by decide +kernel) rfl (TW rfl)) (DV^An LG Qz (cg c a^AA (BU 0)^AA (AI^Ay Aw A8 AG^dv 1) AM) AG^Am _) (dv 2)^by kernel_rfl) Af))))) MJ
omit A in
def sE:Ab ["_law_feed_here","_law_some_here"] ["_law_feed_here"]^AK Kr:=by walk_at "s"
def QA:Ss P w K mg base:=A.got A.h__law_odd λT F m b=>have a:=Bh A;DD F sE (λc=>(AH (Ak (i:=1) sE.nd rfl (TW rfl) (BN^AD Be^AD CO^AD AG^AD AG^AD (Fa AG)^AD AG^AD Ax^AD Ax^AD Ax^AD (Ar AO)^AD (BN AO)^AD (Ar^AD Ax AO)^AD (BN^AD Ax AO)^AD (Ar^AD Ax^AD (Ar AO) AO)^AD (Ay FL Dt AG AG)^AD (Ar^AD Ax^AD Ax AO) AO))
 (AL^Ad^AS AN Ai (dv 1)^cg c a^AA (BU 0)^AA (AI AG) AM))) Wf
omit A in
def sF:Ab ["_law_feed_here","_law_thing","_law_names_here","_law_deep","_law_way_here","_law_at","_law_inner"] ["_law_feed_here","_law_thing","_law_names_here","_law_deep"]^AK JN:=by walk_at "s"
def OO:RC P w K mg base:=A.got A.h__law_bent λT F m b=>have c:=Bh A;have d:=QA A;aJ 1 F sF m b (λj g a=>(AH (Ak (i:=4) sF.nd rfl (TW rfl) (Bm c (a.mono^by lk) rfl (AA (BU 0)^AA (AI AG) AM)))
 (AH (BE (BR (ED kit_tuple (dv 1) rfl T.Gaa rfl T.Gab (by decide +kernel))) (AH (Ak (i:=5) sF.nd rfl (TW rfl) (Bm c (a.mono^by lk) rfl (AA (BU 0)^AA (AI^Ay Aw A8 (Ao BL DA rfl T.Gac PySem.boot_len (AU (dv 1) Af)) AG) AM)))
 (AH (BE (DTW.dt^Em (An LG Qz (dv 4) AG^Am _)^Em (An (FO a) Jj (dv 5) (Ao BL DA rfl T.Gac PySem.boot_len (AU (dv 1) Af))^Am _)^El^An LG Qz (dv 3) AG^Am _) (AH (Ak (i:=6) sF.nd rfl (TW rfl) (Bm g (a.mono^Op _) rfl (AA (BU 0)^AA (AI^AS AN Ai (dv 1)^dv 5)^AA (AI^dv 2)^AA (AI^Ay D4 Fs (dv 3) AG) AM)))
 (AL^Ad^Ay Aw A8 (Ay Aw A8 (Cp E7 Cr (dv 1) Br^Bb^dv 5)^Ar^AD (dv 6) AO)^Cp E7 Cr (dv 1) (Bb^Ay Aw A8 (dv 5) AG) Br)) Ap)
 (AH (BE (DTW.dt^Dk (An Et Jw (dv 4) AG^Am _)^DK^An Et Jw (dv 4) AG^Am _) (AL^Ad^Ay Aw A8 (Cp E7 Cr (dv 1) Br^Bb^dv 5)^Cp E7 Cr (dv 1) (Bb^Ay Aw A8 (dv 5) AG) Br) Ap)
 (AH (BE (An Et Jw (dv 4) AG^Am _) (AL^Ad^Ay Aw A8 (Ay Aw A8 (Cp E7 Cr (dv 1) Br^Bb^dv 5)^Cp E7 Cr (dv 1) (Bb^dv 5)^Bb^Ay Aw A8 (dv 5) AG)^Cp E7 Cr (dv 1) (Bb^dv 5) Br) Ap)
 (AH (BE (An Et Jw (dv 4) AG^Am _) (AL^Ad^Ay Aw A8 (Ay Aw A8 (Cp E7 Cr (dv 1) Br^Bb^dv 5)^Ar^AD (Bm d (a.mono^by lk) rfl (AA (BU 0) AM)) AO)^Cp E7 Cr (dv 1) (Bb^dv 5) Br) Ap)
 (AL^Ad^AS AN Ai (BN^AD (BB Eo UN rfl T.Gak boot_list (AU (dv 1) Af))^AD (SU rfl (dv 1) rfl T.Gab rfl T.Gah) AO) (Bm c (a.mono^by lk) rfl (AA (BU 0)^AA (AI AG) AM)))))))) Ap)
 (AH (BE (DTW.dt^Em (BR (ED Tt (dv 1) rfl T.Gaa rfl T.Gam (by decide +kernel)))^El^An LG Qz (dv 4) AG^Am _) (AL^Ad^AS AN Ai (dv 2) (Bm c (a.mono^by lk) rfl (AA (BU 0)^AA (AI (Ao BL DA rfl T.Gac PySem.boot_len (AU (dv 2) Af))) AM))) Ap)
 (AH (BE (DTW.dt^Em (BR (ED Tu (dv 1) rfl T.Gaa rfl T.Gal (by decide +kernel)))^El^An LG Qz (dv 4) AG^Am _) (AL^Ad^AS AN Ai (BN^AD (Ay Aw A8 (dv 1) AG)^AD (Ay D4 Fs (dv 1) AG)^AD (Cg Et Jw (dv 1) AG^Am _)^AD (Ay Aw A8 (dv 1)^Ay FL Dt AG AG)^AD AG^AD (Ay D4 Fs (dv 1) AG)^AD (Ay Aw A8 (dv 1) AG) AO)^Ay D4 Fs (dv 4) AG) Ap)
 (AL^Ad (Bm d (a.mono^by lk) rfl (AA (BU 0) AM)))))))) Us (λ_ _ _ _ h=>by let#[_,_,_,e,_]:=h;rw[e];rfl) (by cbv) 4
omit A in
def sI:Ab ["_law_net_here","_law_times_here","_law_pairs_here","_law_thin","_law_paper","_law_found","_law_e"] ["_law_net_here","_law_times_here","_law_pairs_here","_law_thin","_law_paper"]^AK Kt:=by walk_at "s"
def QC:Sv P w K mg base:=A.got A.h__law_let λT F m b=>have j:=Jt A;have GR_lets_pairs:=MO A;by
 let#[C_ThinError,c,d,e]:=T.x_ThinError;exact DD F sI (λg=>(AH (Ak (i:=5) sI.nd rfl (TW rfl) Ax)
 (AH (cN rfl rfl (λ_ _ h=>h) (QY^Zh bj fj (X5 GR_lets_pairs (g.mono^by cbv) rfl (AA (AI^dv 0)^AA (AI^dv 1)^AA (AI^dv 2)^AA (AI^dv 3)^AA (AI^dv 4) AM)) CO (Am _) (QY^cL (Ak (i:=5) sI.nd rfl (TW rfl) Be)) X1)
 (Zl (i:=6) sI.nd rfl rfl rfl d e (TW #[rfl,c]) rfl rfl (λa=>(AL (Ak (i:=5) sI.nd rfl (TW rfl) (X9 (a:=a) 6 rfl j ((g.held^P3^.ref a).mono^by cbv) rfl (AA (fc 6) AM)))))
 cR))
 (AL^Ad^dv 5)))) Wh
omit A in
def sK:Ab ["_law_net_here","_law_times_here","_law_pairs_here","_law_thin","_law_tie"] ["_law_net_here","_law_times_here","_law_pairs_here","_law_thin"]^AK HK:=by walk_at "s"
def MT:PC P w K mg base:=A.got A.h__law_is_so λT F m b=>have c:=D9 A;DD F sK (λa=>(AH (BE (Bo^BR^cg a c^AA (AI^dv 0)^AA (AI^dv 1)^AA (AI^dv 2)^AA (AI^AS AN Ai (dv 3) AG) AM) (AL^Ad CO) Ap)
 (AH (B6 jS rfl (Dn^AS AN Ai (dv 3) AG) (AY (i:=4) sK.nd rfl (jy rfl)) (AL^BE (BR^cg a c^AA (AI^dv 0)^AA (AI^dv 1)^AA (AI^dv 2)^AA (AI^NY [("_law_tie":Str),("_law_one":Str)] [P3 4,s_] (BO^AS AN Ai (dv 3) AG) (AY (i:=1) (show jb [("_law_tie":Str),("_law_one":Str)] by decide +kernel) rfl (TW rfl)) (DV^An (LD a) Qy (dv 1) (dv 0)^Am _) (dv 1)^by kernel_rfl) AM) (AL^Ad CO) Ap))
 (AL^Ad CO)))) Yx
omit A in
def sL:Ab ["_law_feed_here","_law_net_here","_law_times_here","_law_pairs_here","_law_drawn","_law_tie","_law_thins_here","_law_more","_law_at"] ["_law_feed_here","_law_net_here","_law_times_here","_law_pairs_here"]^AK HF:=by walk_at "s"
def MQ:O7 P w K mg base:=A.got A.h__law_thins λT F m b=>have d:=Bh A;have e:=GU A;have g:=OM A;have c:=OL A;have j:=GS A;DD F sL (λa=>(AH (B9 (i:=4) sL.nd rfl (TW rfl) (BN AO))
 (AH (B6 jS rfl (Dn^AS AN Ai (dv 1) AG) (AY (i:=5) sL.nd rfl (TW rfl)) (AL^CN 4 PySem.F.plainAttrs_list PySem.F.slot_list_insert PySem.F.type_list_insert NI aT (pv 4)^AD (cg a d^AA (BU 0)^AA (AI^Ay Aw A8 (Ao BL DA rfl T.Gac PySem.boot_len (AU (Dl 4) Af)) AG) AM)^AD (dv 5) AO))
 (AH (B9 (i:=6) sL.nd rfl (jy rfl) (BN^AD (cg a c^AA (AI^dv 1)^AA (AI^dv 2)^AA (AI^dv 3)^AA (C_^Dl 4) AM)^AD (cg a c^AA (AI^dv 1)^AA (AI^dv 2)^AA (AI^dv 3)^AA (C_^SV (cg a e^AA (AI^AS AN Ai (dv 1) AG) AM)^Fa AG) AM) AO))
 (AH (CN 6 PySem.F.plainAttrs_list PySem.F.slot_list_append PySem.F.type_list_append BA DB (pv 6)^AD (cg a c^AA (AI^dv 1)^AA (AI^cg a j^AA (BU 0) AM)^AA (AI^dv 3)^AA (C_^SV (Dl 4)^Fa AG) AM) AO)
 (AH (CN 6 PySem.F.plainAttrs_list PySem.F.slot_list_append PySem.F.type_list_append BA DB (pv 6)^AD (cg a c^AA (AI^dv 1)^AA (AI^dv 2)^AA (AI^Cp E7 Cr (dv 3) (Bb AG) Br)^AA (C_^Dl 4) AM) AO)
 (AH (CN 6 PySem.F.plainAttrs_list PySem.F.slot_list_append PySem.F.type_list_append BA DB (pv 6)^AD (Ar^AD (AS AN Ai (dv 1) AG)^AD (cg a g^AA (BU 0)^AA (AI^AS AN Ai (dv 1) AG) AM) AO) AO)
 (AH (Hi (i:=7) sL.nd rfl (TW rfl) rfl [("_law_thins_here":Str),("_law_tie":Str)] [P3 6,s_] (BO^AS AN Ai (dv 1) AG) (λ_ _ _ _ _=>(AY (i:=1) (show jb [("_law_thins_here":Str),("_law_tie":Str)] by decide +kernel) rfl (TW rfl))) (λ_ _ _ _ _=>(DV^An (IV a) Hz (dv 1) (AS AN Ai (AS AN Ai (Dl 0) AG) AG)^by with_unfolding_all rfl)) (λ_ _ _ _ _=>(dv 1)) (by kernel_rfl))
 (AH (BE (An (LD a) Qy (dv 7) (BN AO)^Am _) (AL^CN 6 PySem.F.plainAttrs_list PySem.F.slot_list_append PySem.F.type_list_append BA DB (pv 6)^AD (Ar^AD (AS AN Ai (dv 1) AG)^AD (BB Au Bg rfl T.Gab kX (AU (Ao C3 F7 rfl T.Gad lw (AU (Ay Aw A8 (AS AN Ai (AS AN Ai (Dl 6) AG) AG)^Ar^AD (AS AN Ai (dv 7)^cg a d^AA (BU 0)^AA (AI (Ao BL DA rfl T.Gac PySem.boot_len (AU (dv 7) Af))) AM) AO) Af)) Af)) AO) AO) Ap)
 (AH (BE (An (LD a) Qy (AS AN Ai (AS AN Ai (Dl 6) AG) AG) (Ar AO)^Am _) (AH (Ak (i:=8) sL.nd rfl (TW rfl) (cg a d^AA (BU 0)^AA (AI (Ao BL DA rfl T.Gac PySem.boot_len (AU (AS AN Ai (AS AN Ai (Dl 6) AG) AG) Af))) AM))
 (AL^CN 6 PySem.F.plainAttrs_list PySem.F.slot_list_append PySem.F.type_list_append BA DB (pv 6)^AD (Ar^AD (AS AN Ai (dv 1) AG)^AD (Ay Aw A8 (Cp E7 Cr (AS AN Ai (AS AN Ai (Dl 6) AG) AG) Br^Bb^dv 8)^Cp E7 Cr (AS AN Ai (AS AN Ai (Dl 6) AG) AG) (Bb^Ay Aw A8 (dv 8) AG) Br) AO) AO)) Ap)
 (AL^J8 6^pv 6))))))))))) Rb
omit A in
def sP:Ab ["_law_feed_here","_law_net_here","_law_times_here","_law_pairs_here","_law_thins_here","_law_told","_law_papers_here","_law_thin","_law_k"] ["_law_feed_here","_law_net_here","_law_times_here","_law_pairs_here","_law_thins_here"]^AK GO:=by walk_at "s"
def LO:Mn P w K mg base:=A.got A.h__law_papers λT F m b=>have c:=OO A;have d:=HY A;have e:=LK A;DD F sP (λa=>(AH (Ak (i:=5) sP.nd rfl (TW rfl) (cg a e^AA (AI^dv 1)^AA (AI^dv 2)^AA (AI^dv 3) AM))
 (AH (B9 (i:=6) sP.nd rfl (TW rfl) (BN^AD (dv 5)^AD (Ar^AD (AS AN Ai (dv 5) AG)^AD (SV (AS AN Ai (dv 5) AG)^Fa AG) AO) AO))
 (AH (B6 jS rfl (Dn^Cp E7 Cr (dv 4) Br^Bb AG) (AY (i:=7) sP.nd rfl (TW rfl)) (AL^CN 6 PySem.F.plainAttrs_list PySem.F.slot_list_append PySem.F.type_list_append BA DB (pv 6)^AD (cg a d^AA (AI^dv 1)^AA (AI^dv 2)^AA (AI^dv 3)^AA (AI^dv 7) AM) AO))
 (AH (CN 6 PySem.F.plainAttrs_list PySem.F.slot_list_append PySem.F.type_list_append BA DB (pv 6)^AD (Ar^AD (AS AN Ai (AS AN Ai (Dl 6) AG) AG)^AD (AS AN Ai (AS AN Ai (Dl 6) AG) AG) AO) AO)
 (AH (CN 6 PySem.F.plainAttrs_list PySem.F.slot_list_append PySem.F.type_list_append BA DB (pv 6)^AD (Ar^AD (AS AN Ai (AS AN Ai (Dl 6) AG) AG)^AD (Cp E7 Cr (AS AN Ai (AS AN Ai (Dl 6) AG) AG) Br^Bb^Fa AG) AO) AO)
 (AH (CN 6 PySem.F.plainAttrs_list PySem.F.slot_list_append PySem.F.type_list_append BA DB (pv 6)^AD (Ar^AD (AS AN Ai (AS AN Ai (Dl 6) AG) AG)^AD (Ay Aw A8 (AS AN Ai (AS AN Ai (Dl 6) AG) AG)^Cp E7 Cr (AS AN Ai (AS AN Ai (Dl 6) AG) AG) Br^Bb AG) AO) AO)
 (AH (B6 jS rfl (EV rfl T.Gaf (AU AG Af)) (AY (i:=8) sP.nd rfl (TW rfl)) (AL^CN 6 PySem.F.plainAttrs_list PySem.F.slot_list_append PySem.F.type_list_append BA DB (pv 6)^AD (cg a c^AA (BU 0)^AA (AI^AS AN Ai (Dl 6)^dv 8)^AA (AI^AS AN Ai (dv 1) AG)^AA (AI AG) AM) AO))
 (AL^J8 6^pv 6))))))))) Uk
end
section
variable {P:Program}{w:World}{K:Frag}{mg:Str->w_ Value}{base:Heap}
def N4:Ab ["_law_script"] ["_law_script"]^AK FG:=by constructor <;>first|rfl|decide +kernel
def ON{f:Db}{fd:jp}(T:Txt K mg)(F:Fun K "_law_feed" "_law_feed" FG f fd):CU P w K mg base Fy 1 f fd ["_law_script"]^Nv K:=by
 refine F.ok N4 (λi H Q E h=>?_) λj A d s H i Q E n h=>?_
 .let#[a,k,rfl,_]:=h
  rfl
 .let#[a,k,rfl,#[l,m],q]:=h
  exists _,C5^Gn^Rv^BZ (NE Eo rfl T.Gak boot_list (BZ (P5 sl_list (pv 0) Ta^TZ BD) CJ))^BZ BD^BZ BD CJ;refine#[_,rfl,63,rfl,a,_,rfl,m,λp o=>#[p,_,rfl,.inl^SqL.of Ah,λc r=>#[by show 3<=sizeLine;decide,λg e=>?_]]];rw[fe l]at e ⊢;have b:c≠g:=λz=>by rw[←z,Ah]at e;cases e
  exact q c g _ b (by rw[AW b,Ah]) Ah
def sS:Ab ["_law_script","_law_feed_here","_law_net_here","_law_times_here","_law_pairs_here","_law_thins_here","_law_paper","_law_thin","_law_found"] ["_law_script"]^AK Km:=by walk_at "s"
def bp{h:jI}{f d:Db}{fd c:jp}(A:Ctx P w K mg base h)(g:CU P w K mg base Fy 1 d c ["_law_script"]^Nv K)(j:mg "_law_feed"=P3^.ref d)(k:keepIn K^.ref d=t_)(l:Binds K c ["_law_script"] [])(F:Fun K "law" "law" Km f fd):CU P w K mg base Fy 9 f fd ["_law_script"]^Pn K:=by
 have m:=MT A;have n:=QC A;have o:=QB A;have p:=MR A;have q:=LO A;have r:=MQ A;have t:=GS A;have T:=A.T
 exact fQ (n0:=3000) F sS rfl (by cbv) (λe A b s H E a=>FI (i:=1) sS.nd rfl (TW rfl) (Td g (a.mono^by cbv) rfl j k l .nil aE (BZ (pv 0) CJ)))
  (λe A b s H E a=>(AH (Ak (i:=2) sS.nd rfl (TW rfl) (cg a o^AA (BU 1)^AA (AI AG)^AA (AI AG) AM))
 (AH (Ak (i:=3) sS.nd rfl (TW rfl) (cg a t^AA (BU 1) AM))
 (AH (Ak (i:=4) sS.nd rfl (TW rfl) (cg a p^AA (BU 1)^AA (AI^AS AN Ai (dv 2) AG)^AA (AI AG) AM))
 (AH (Ak (i:=5) sS.nd rfl (TW rfl) (cg a r^AA (BU 1)^AA (AI^dv 2)^AA (AI^dv 3)^AA (AI^dv 4) AM))
 (AH (B6 jS rfl (Dn^cg a q^AA (BU 1)^AA (AI^dv 2)^AA (AI^dv 3)^AA (AI^dv 4)^AA (AI^dv 5) AM) (AY (i:=6) sS.nd rfl (TW rfl)) (AL (B6 jS rfl (Dn^dv 5) (AY (i:=7) sS.nd rfl (TW rfl)) (AH (Ak (i:=8) sS.nd rfl (TW rfl) (cg a n^AA (AI^dv 2)^AA (AI^dv 3)^AA (AI^dv 4)^AA (AI^dv 7)^AA (AI^dv 6) AM))
 (AH (BE (An (LH a) Q0 (dv 8) Ax^Am _) (AL^Ad CO) Ap)
 (AL^BE (DTW.dt^Em (An FP Jk (dv 8) Be^Am _)^El^Bo^BR^cg a m^AA (AI^dv 2)^AA (AI^dv 3)^AA (AI^dv 4)^AA (AI^dv 7) AM) (AL^Ad CO) Ap))))))
 (AL^Ad CO))))))) Rj
end
local macro_rules|`(tactic|walk_at "B")=>`(tactic|(intro _ _ _ _ _ _;exact iP λ_=>rfl))
def all_mk{l:PySem.W.OpenLaw}{w:jT}{K:Frag}{h:jI}{d:Str->w_ Ev}{i:Db}(e:d "law"=P3^.ref i)(A:C0 K d h):∃fd:jp,(∀(s:Go) (v:Ev),oj s fd #[[v],[]] [("_law_script",v)])/\∀b:jI,K.In b->b.Ns mainGlobals d->CU l.prog w K d b Fy 9 i fd ["_law_script"]^Pn K:=by
 let#[y,j,m,g]:=A.h__law_feed.fn A.X A.G;have n:=g.binds (ps:=["_law_script"]) (by walk_at "B");let#[f,z,B,o,C,p,q,r,t,u,a,x,c,k]:=A.h_law;cases e.symm.trans^mg_of A.X A.G a;exact#[fnOf "law" "law" (CS Km) (Bc Km) (AK Km) .none p q r o t u,λs v=>.of_eq rfl,λb _ _=>bp A (ON A.T g) m g.kp n^SN (st:=Km) x c k]
def walk{l:PySem.W.OpenLaw}{q:jM}{c:v_ Str}{m:(Str->w_ Ev)->jI->Prop}{i:jT->jI->Prop}{d:DefRec}{K:Params->Frag}(o:l.most=P3 63)(g:d.params.defaults=[])
  (p:∀(w:jT) (h:jI),i w h->(K w.params).In h)
  (F:∀(w:jT) (e:Str->w_ Ev) (j:Db) (h:jI),(K w.params).In h->h.Ns mainGlobals e->e d.name=P3^.ref j->
   ∃fd:jp,(∀(s:Go) (u:Ev),oj s fd #[[u],[]] [("_law_script",u)])/\∀b:jI,(K w.params).In b->b.Ns mainGlobals e->CU l.prog w (K w.params) e b Fy 9 j fd ["_law_script"]^Pn^K w.params):
  PySem.W.WalkO q c m i l.row.toRowW d [] (λf r=>PySem.call f r):=
 L2.S2 (n:=63) (k:=9) (x:="_law_script") (CX:=λ_=>Fy) (sp:=λw=>Pn^K w.params) o (by cbv) g #[rfl,by cbv,by cbv,rfl] p F (λ_ _ a t v _ y=>#[a,t,rfl,#[v,y],λ_=>rfl]) λ_ _ _ _ _ z=>z
end K39
end _p
namespace PySem.W.Fast
theorem tw10653521974455022530:True:=⟨⟩
theorem tw14892557082107794876:True:=⟨⟩
theorem tw3549892142758508815:True:=⟨⟩
theorem tw1853138350241075366:True:=⟨⟩
theorem tw1680501567512531450:True:=⟨⟩
theorem tw7967425101125373425:True:=⟨⟩
theorem tw3278503766581574993:True:=⟨⟩
theorem tw10109689757174174647:True:=⟨⟩
theorem tw4675381410401414963:True:=⟨⟩
theorem tw9355886533605157602:True:=⟨⟩
theorem tw7681374668581229776:True:=⟨⟩
theorem tw3492291353636660534:True:=⟨⟩
theorem tw2694665445094477477:True:=⟨⟩
theorem tw10460500326950882571:True:=⟨⟩
theorem tw5419188285783512218:True:=⟨⟩
theorem tw9468515130533529542:True:=⟨⟩
theorem tw10754982515278093639:True:=⟨⟩
theorem tw2857339455680342306:True:=⟨⟩
theorem tw14081850830275873710:True:=⟨⟩
theorem tw3377443984853208506:True:=⟨⟩
theorem tw11372939402041212500:True:=⟨⟩
theorem tw16696883673272631526:True:=⟨⟩
theorem tw12270407811493654209:True:=⟨⟩
theorem tw3472578744517561638:True:=⟨⟩
theorem tw12320111030399658343:True:=⟨⟩
theorem tw5821499016637133319:True:=⟨⟩
theorem tw8828669542379082899:True:=⟨⟩
theorem tw2227594849341737683:True:=⟨⟩
theorem tw3690013254628736953:True:=⟨⟩
theorem tw14534498004391005440:True:=⟨⟩
theorem tw395148595738240719:True:=⟨⟩
theorem tw1989066340950774727:True:=⟨⟩
theorem tw4264176790310818764:True:=⟨⟩
theorem tw11214546030370261539:True:=⟨⟩
theorem tw15024996597992897004:True:=⟨⟩
theorem tw926526583938615458:True:=⟨⟩
theorem tw9329231779011772050:True:=⟨⟩
theorem tw15806622682129488003:True:=⟨⟩
theorem tw1124581701109428222:True:=⟨⟩
theorem tw15634235942086432272:True:=⟨⟩
theorem tw1079939356949782615:True:=⟨⟩
theorem tw8253387660461266431:True:=⟨⟩
theorem tw11019056157213862956:True:=⟨⟩
theorem tw15234285948982282220:True:=⟨⟩
theorem tw14504112907315438751:True:=⟨⟩
theorem tw3152253214712358325:True:=⟨⟩
theorem tw654288345787076908:True:=⟨⟩
theorem tw16244648516167395363:True:=⟨⟩
theorem tw14564251212755685080:True:=⟨⟩
theorem tw11901317619263254555:True:=⟨⟩
theorem tw2195925898402706284:True:=⟨⟩
theorem tw12979023051239653483:True:=⟨⟩
theorem tw3212731912314076774:True:=⟨⟩
theorem tw14032180250011162547:True:=⟨⟩
theorem tw14602824310713400343:True:=⟨⟩
theorem tw10027739597504270267:True:=⟨⟩
theorem tw14537052844046858248:True:=⟨⟩
theorem tw13316432363381909446:True:=⟨⟩
theorem tw6335366761270384481:True:=⟨⟩
theorem tw8809431540644691164:True:=⟨⟩
theorem tw11281941757661668271:True:=⟨⟩
theorem tw12883908583073657338:True:=⟨⟩
theorem tw6503338075108617406:True:=⟨⟩
theorem tw13009565299250714669:True:=⟨⟩
theorem tw4345022729032882002:True:=⟨⟩
theorem tw10386387592010347606:True:=⟨⟩
theorem tw2878736203509437420:True:=⟨⟩
theorem tw742213947884869754:True:=⟨⟩
theorem tw5072725887914045962:True:=⟨⟩
theorem tw1859429678506514563:True:=⟨⟩
theorem tw9824971786475549933:True:=⟨⟩
theorem tw8479085140222387327:True:=⟨⟩
theorem tw6066064118419602958:True:=⟨⟩
theorem tw14858402689289173959:True:=⟨⟩
theorem tw9378937286494304724:True:=⟨⟩
theorem tw11130053364744354525:True:=⟨⟩
theorem tw17256729373907721336:True:=⟨⟩
theorem tw6326250135625677462:True:=⟨⟩
theorem tw2052355410516156856:True:=⟨⟩
theorem tw2258528487206666995:True:=⟨⟩
theorem tw4550615274113817451:True:=⟨⟩
theorem tw13401514826586533858:True:=⟨⟩
theorem tw189455421095621959:True:=⟨⟩
theorem tw1183593987877268056:True:=⟨⟩
theorem tw9364234070712582001:True:=⟨⟩
theorem tw10908818022362922375:True:=⟨⟩
theorem tw132993416683542397:True:=⟨⟩
theorem tw4071946179621865950:True:=⟨⟩
theorem tw7366958028232091401:True:=⟨⟩
theorem tw13818100702813346985:True:=⟨⟩
theorem tw4968327897441817171:True:=⟨⟩
theorem tw3668907593920310809:True:=⟨⟩
theorem tw2162407421599584378:True:=⟨⟩
theorem tw3819487774174334458:True:=⟨⟩
theorem tw7781259447603928081:True:=⟨⟩
theorem tw12000247698562302323:True:=⟨⟩
theorem tw10433888899246728027:True:=⟨⟩
theorem tw17601211269376252016:True:=⟨⟩
theorem tw8730558131490072134:True:=⟨⟩
theorem tw17525388493990780435:True:=⟨⟩
theorem tw12302918685894605826:True:=⟨⟩
theorem tw6903828267559525994:True:=⟨⟩
theorem tw4055035633243408521:True:=⟨⟩
theorem tw8600498389405405255:True:=⟨⟩
theorem tw16709215309430826580:True:=⟨⟩
theorem tw15585650992489075236:True:=⟨⟩
theorem tw10705418516261284315:True:=⟨⟩
theorem tw10792986730035900804:True:=⟨⟩
theorem tw186689552117856002:True:=⟨⟩
theorem tw15175531864612506479:True:=⟨⟩
theorem tw17937677096987407506:True:=⟨⟩
theorem tw5547397102967925251:True:=⟨⟩
theorem tw3981679934010949435:True:=⟨⟩
theorem tw609874952146311760:True:=⟨⟩
theorem tw1482158570841174246:True:=⟨⟩
theorem tw9698929424648257071:True:=⟨⟩
theorem tw8751066267649860168:True:=⟨⟩
theorem tw7813024503290810354:True:=⟨⟩
theorem tw13464182735701304114:True:=⟨⟩
theorem tw3440010187396580333:True:=⟨⟩
theorem tw5454076023545668307:True:=⟨⟩
theorem tw16708193683998948316:True:=⟨⟩
theorem tw15901038601814318972:True:=⟨⟩
theorem tw1971333917216420827:True:=⟨⟩
theorem tw9983164006628409549:True:=⟨⟩
theorem tw3421410241514133896:True:=⟨⟩
theorem tw1426953864272334617:True:=⟨⟩
theorem tw17467873915818095682:True:=⟨⟩
theorem tw16137435547992050366:True:=⟨⟩
theorem tw9377961598188598010:True:=⟨⟩
theorem tw10667895175852009317:True:=⟨⟩
theorem tw12473241886952497605:True:=⟨⟩
theorem tw16390267974811215963:True:=⟨⟩
theorem tw5463667228665409371:True:=⟨⟩
theorem tw5505838382714529240:True:=⟨⟩
theorem tw14143371863601273789:True:=⟨⟩
theorem tw12899038702651994531:True:=⟨⟩
theorem tw2665993658822475714:True:=⟨⟩
theorem tw15761747160605747434:True:=⟨⟩
theorem tw5713298770898642749:True:=⟨⟩
theorem tw12601432413232434302:True:=⟨⟩
theorem tw7011726285187452199:True:=⟨⟩
theorem tw3320464240663985702:True:=⟨⟩
theorem tw1279839042909169595:True:=⟨⟩
theorem tw6033652266815008364:True:=⟨⟩
theorem tw13465875897792637942:True:=⟨⟩
theorem tw16253426649772554644:True:=⟨⟩
theorem tw1552889820740029416:True:=⟨⟩
theorem tw15277254594382480685:True:=⟨⟩
theorem tw12587318351163034349:True:=⟨⟩
theorem tw15592577357954755754:True:=⟨⟩
theorem tw8506553432173675448:True:=⟨⟩
theorem tw7387934728886539668:True:=⟨⟩
theorem tw8122927965920658826:True:=⟨⟩
theorem tw3560270707195738198:True:=⟨⟩
theorem tw6190671617986673716:True:=⟨⟩
theorem tw2911137313709241540:True:=⟨⟩
theorem tw15719976097618950022:True:=⟨⟩
theorem tw16699254705375975751:True:=⟨⟩
theorem tw17483709430616017069:True:=⟨⟩
theorem tw8493046715206322139:True:=⟨⟩
theorem tw17871026181912206321:True:=⟨⟩
theorem tw9768351533216058345:True:=⟨⟩
theorem tw14817279523092240454:True:=⟨⟩
theorem tw9615610027238010128:True:=⟨⟩
theorem tw12705588502414963462:True:=⟨⟩
theorem tw11597285136042935305:True:=⟨⟩
theorem tw5201682309818338629:True:=⟨⟩
theorem tw13931333254120504347:True:=⟨⟩
theorem tw7716772715773199786:True:=⟨⟩
theorem tw7602694450565231535:True:=⟨⟩
theorem tw6545474532152779418:True:=⟨⟩
theorem tw1608258939972734047:True:=⟨⟩
theorem tw5516193390642789376:True:=⟨⟩
theorem tw16722764927050489164:True:=⟨⟩
theorem tw16602017705187928438:True:=⟨⟩
theorem tw1887760734051413064:True:=⟨⟩
theorem tw15408560880754295434:True:=⟨⟩
theorem tw8986105449016223652:True:=⟨⟩
theorem tw9100887063666036528:True:=⟨⟩
theorem tw1761001618269463927:True:=⟨⟩
theorem tw16644046518995571621:True:=⟨⟩
theorem tw1136275232137698811:True:=⟨⟩
theorem tw15107692920189386852:True:=⟨⟩
theorem tw11888355530869203876:True:=⟨⟩
end PySem.W.Fast
open _p
open PySem.W
set_option maxRecDepth 100000 in
set_option maxHeartbeats 0 in
theorem PySem.Challenge.cw_thinnet_k39_whole_pairs_holds : PySem.Challenge.rw_thinnet_k39_whole_pairs.Holds := by
 w_on;o_law;k_head;(case hw=>w_witness2)
 k_fill
 refine K39.walk (l:=PySem.Challenge.rw_thinnet_k39_whole_pairs) rfl rfl (λw h Y=>PySem.W.kIn_of Y) ?F
 case F =>
  intro w mg fa h KX G hmg
  refine K39.all_mk (h:=h) hmg ?_
  apply K39.C0.mk KX G
  all_goals first
   | (refine' K39.Ht.mk ?a ?l ?c ?k;(case a=>k_is);(case l=>k_is);(case c=>k_is);(case k=>k_is))
   | (refine' K39.Hn.mk ?a;(case a=>k_is))
   | (refine' K39.Hx.mk ?c;(case c=>(refine' K39.xc_mk ?at_ ?atU ?o ?u ?kp ?ga ?gt ?sa ?ca ?nw ?nn ?nr;(case at_=>k_is);(case atU=>k_is);(case o=>k_is);(case u=>k_is);(case kp=>k_is);(case ga=>k_is);(case gt=>k_is);(case sa=>k_is);(case ca=>k_is);(case nw=>k_is);(case nn=>k_is);(case nr=>k_is))))
   | (refine' K39.H2.mk ?c ?i ?ty ?l ?cc ?k;(case c=>(refine' K39.xc_mk ?at_ ?atU ?o ?u ?kp ?ga ?gt ?sa ?ca ?nw ?nn ?nr;(case at_=>k_is);(case atU=>k_is);(case o=>k_is);(case u=>k_is);(case kp=>k_is);(case ga=>k_is);(case gt=>k_is);(case sa=>k_is);(case ca=>k_is);(case nw=>k_is);(case nn=>k_is);(case nr=>k_is)));(case i=>k_is);(case ty=>k_is);(case l=>k_is);(case cc=>k_is);(case k=>k_is))
#print axioms PySem.Challenge.cw_thinnet_k39_whole_pairs_holds
